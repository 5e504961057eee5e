/- A part. -/
import Derived.Test.YtbkgbhlmeeodgaaGreatDoorQc24
namespace Go.Proofs.YtbkgbhlmeeodgaaGreatDoor
open Go.RowKit Go.Shelf
attribute [local go_sem] Oper.semAt_some
theorem set_congr {w W:World} {a:Addr} {v:Value} {k:Nat} (h:W.heap[k]? = w.heap[k]?):(W.setCell a v).heap[k]? = (w.setCell a v).heap[k]?:=by
 simp only [World.setCell,Array.getElem?_modify,h]
theorem below_both {n:Nat} {w W:World} (a:Addr) (v:Value) (h:Below n w W):Below n (w.setCell a v) (W.setCell a v):=
 ⟨h.os,h.tape,h.output,by simpa using h.size,fun k hk=>set_congr (h.block k hk)⟩
def joinE (ex:List Pq.Sp) (ps:List Uc.Pr):Int:=if touA ps=true then 16 else if ¬ckV ps=0 then ckV ps else if mkP ex ps [] ps=none then 15 else 0
def JoinPost (n b:Nat) (ps:List Uc.Pr) (sp:Nat→List Pq.Sp) (cf:List Cf.Pp) (w:World) (e:Ending) (w':World):Prop:=
 e=.returned (.int .i64 (joinE (sp 0) ps))∧Below n w w'∧(joinE (sp 0) ps=0→∃ ms,mkP (sp 0) ps [] ps=some ms∧PF w' b ps sp cf∧PM w' b ms)
theorem leave51 {w Wf:World} {D m:Nat} {tmps:Array Value} {v:Int} {P:Ending→World→Prop} (t2:tmps[2]?.getD undef=.pointer (some ⟨w.heap.size,0,none⟩)) (hk:Wf.heap[D]? = some (.deferred (some []))) (hr:Wf.cell? ⟨w.heap.size,0,none⟩=some (.int .i64 v))
 (h:P (.returned (.int .i64 v)) (Wf.putObj D (.deferred none))):
 LeavesInM Fence.wide m Tryz.prog Tryz.f49 tmps P [{ target:=.collected D,args:=#[] }] .returning Wf:=by
 refine⟨by simp,.inl ⟨_,_,rfl,run_takeDeferred hk,?_⟩⟩
 have k1:=cell_kept hr (grownBy_putObj' _ D (.deferred none)) (fun r e=>by cases e;exact⟨_,hk,rfl⟩)
 refine⟨.int .i64 v,?_,h⟩
 simp [results,Tryz.results49,go_sem,k1,t2]
def JnB (H:Nat) (re:Int) (W:World):Prop:=W.cell? ⟨H,0,none⟩=some (.int .i64 re)∧W.frozen? ⟨H,0,none⟩=false
def JnI (w:World) (pre:List Uc.RwP) (W:World):Prop:=JnB w.heap.size 0 W∧Below w.heap.size w W∧∀ r∈pre.map Prod.snd,¬badK r
def JnX (w:World) (ps:List Uc.Pr) (c:Code) (_pre:List Uc.RwP) (W:World):Prop:=JnB w.heap.size 16 W∧Below w.heap.size w W∧(c=.ret∧touA ps=true)
def JnY (w:World) (pre:List Uc.RwP) (x:Uc.RwP) (W:World):Prop:=JnI w pre W∧Uc.Is W x.1 x.2
def JnA (H k:Nat):Prop:=k≠H
theorem jnB_abide {H B:Nat} (re:Int):Abide 0 0 B (fun (_:Unit) W=>JnB H re W):=fun _ W W' row h hg hr=>
 abide_cell (β:=Unit) (n₀:=0) (n₁:=0) (B:=B) (fun _=>⟨H,0,none⟩) (fun _=>.int .i64 re) (fun _=>by omega) () W W' row h hg hr
theorem jni_abide (w:World) (B:Nat) (hB:w.heap.size≤B):Abide 0 0 B (JnI w):=fun _ W W' row h hg hr=>
 ⟨jnB_abide (B:=B) 0 () W W' row h.1 hg hr,abide_below (β:=Unit) w (.inr (by omega)) hB (Nat.le_refl _) () W W' row h.2.1 hg hr,h.2.2⟩
theorem jnx_abide (w:World) (ps:List Uc.Pr) (B:Nat) (hB:w.heap.size≤B) (c:Code):Abide 0 0 B (JnX w ps c):=fun _ W W' row h hg hr=>
 ⟨jnB_abide (B:=B) 16 () W W' row h.1 hg hr,abide_below (β:=Unit) w (.inr (by omega)) hB (Nat.le_refl _) () W W' row h.2.1 hg hr,h.2.2⟩
theorem jny_abide (w:World) (pre:List Uc.RwP) (x:Uc.RwP) (B:Nat) (hB:w.heap.size≤B):Abide 0 0 B (fun (_:Unit) W=>JnY w pre x W):=by
 intro _ W W' row ⟨h1,h3⟩ hg hr
 exact⟨jni_abide w B hB pre W W' row h1 hg hr,h3.1,h3.2.1,h3.2.2.1,h3.2.2.2.1,h3.2.2.2.2.1,h3.2.2.2.2.2.1,vals_abide (β:=Unit) (B:=B) () W W' row h3.2.2.2.2.2.2 hg hr⟩
theorem jnB_set {H:Nat} {re re':Int} {W:World} (h:JnB H re W):JnB H re' (W.setCell ⟨H,0,none⟩ (.int .i64 re')):=
 ⟨World.cell?_setCell_same _ _ _ h.1,by rw [World.frozen?_setCell];exact h.2⟩
theorem jnB_below {H n:Nat} {re:Int} {W W':World} (h:JnB H re W) (hn:H<n) (hb:Below n W W'):JnB H re W':=⟨(hb.cell (p:=⟨H,0,none⟩) hn).trans h.1,(hb.frozen (p:=⟨H,0,none⟩) hn).trans h.2⟩
theorem jnB_lt {H:Nat} {re:Int} {W:World} (h:JnB H re W):H<W.heap.size:=World.block_lt_of_cell? W _ h.1
theorem join_ok {w W5 W3:World} {n b D m k:Nat} {E:DataW Value} {ps:List Uc.Pr} {sp:Nat→List Pq.Sp} {cf:List Cf.Pp} {ms:List (Int×Int×Int)} (hn:n≤b) (ho:Odd w b) (h:PF w b ps sp cf) (h7:w.cell? ⟨b,7,none⟩=some (.map none)) (hb:Below w.heap.size w W5) (hk:W5.heap[D]? = some (.deferred (some []))) (hD:w.heap.size<D) (hB:JnB w.heap.size 0 W5)
 (hm:W5.ownsMap Tryz.prog 131 (plainElem (H:=Value) Tryz.prog 3) m k E) (hI:MkIs E ms) (e3:W3=(W5.setCell ⟨b,7,none⟩ (.map (some m))).setCell ⟨w.heap.size,0,none⟩ (.int .i64 0)):
 (W3.heap[D]? = some (.deferred (some []))∧W3.cell? ⟨w.heap.size,0,none⟩=some (.int .i64 0))∧Below n w (W3.putObj D (.deferred none))∧PF (W3.putObj D (.deferred none)) b ps sp cf∧PM (W3.putObj D (.deferred none)) b ms:=by
 have hbl:=ho.lt
 have ho5:Odd W5 b:=ho.below hbl hb
 have h75:W5.cell? ⟨b,7,none⟩=some (.map none):=(hb.cell (p:=⟨b,7,none⟩) hbl).trans h7
 have b6:Below w.heap.size (w.setCell ⟨b,7,none⟩ (.map (some m))) (W5.setCell ⟨b,7,none⟩ (.map (some m))):=below_both _ _ hb
 have b3:Below w.heap.size (w.setCell ⟨b,7,none⟩ (.map (some m))) W3:=e3▸b6.setCell (p:=⟨w.heap.size,0,none⟩) (Nat.le_refl _) _
 have hk3:W3.heap[D]? = some (.deferred (some [])):=by
  rw [e3,heap_setCell_other _ ⟨w.heap.size,0,none⟩ D _ (fun e=>by simp at e;omega),heap_setCell_other _ ⟨b,7,none⟩ D _ (fun e=>by simp at e;omega)]
  exact hk
 have b4:Below w.heap.size (w.setCell ⟨b,7,none⟩ (.map (some m))) (W3.putObj D (.deferred none)):=b3.trans (belowK_b (w:=w) (Nat.le_refl _) W3 D _ _ (by omega) hk3 rfl rfl)
 have hsz:(w.setCell ⟨b,7,none⟩ (.map (some m))).heap.size=w.heap.size:=by simp
 refine⟨⟨hk3,?_⟩,?_,(pf_set ho h).below (by rw [hsz];exact b4),m,k,E,?_,?_,hI⟩
 · rw [e3]
   refine World.cell?_setCell_same _ _ _ (u:=.int .i64 0) ?_
   rw [World.cell?_setCell_other _ _ _ _ (by intro q;injection q with q1 q2;omega)]
   exact hB.1
 · exact ((Below.refl n w).setCell (p:=⟨b,7,none⟩) hn _).trans (b4.mono (by omega))
 · rw [b4.cell (p:=⟨b,7,none⟩) hbl]
   exact World.cell?_setCell_same _ _ _ h7
 · have q1:(W5.setCell ⟨b,7,none⟩ (.map (some m))).ownsMap Tryz.prog 131 (plainElem (H:=Value) Tryz.prog 3) m k E:=owns_chg (chg_set W5 b 7 _) (ho5.map_ne hm) hm
   obtain⟨om,hom,hcm⟩:=map_obj hm
   have hmH:m≠w.heap.size:=by
    rintro rfl
    have:=hB.1
    obtain⟨es,clock,hb2,-⟩:=hm
    simp [World.cell?,hb2] at this
   have q2:W3.ownsMap Tryz.prog 131 (plainElem (H:=Value) Tryz.prog 3) m k E:=e3▸owns_chg (chg_set _ w.heap.size 0 _) hmH q1
   refine q2.kept (grownBy_putObj' W3 D (.deferred none)) ?_
   have hmD:m≠D:=by
    rintro rfl
    obtain⟨es,clock,hb2,-⟩:=hm
    rw [hk] at hb2;cases hb2
   simp
   omega
theorem join_no {w W5 W3:World} {n b D:Nat} {v:Int} (hn:n≤b) (hbl:b<w.heap.size) (hb:Below w.heap.size w W5) (hk:W5.heap[D]? = some (.deferred (some []))) (hD:w.heap.size<D) (hB:JnB w.heap.size 0 W5) (e3:W3=W5.setCell ⟨w.heap.size,0,none⟩ (.int .i64 v)):
 (W3.heap[D]? = some (.deferred (some []))∧W3.cell? ⟨w.heap.size,0,none⟩=some (.int .i64 v))∧Below n w (W3.putObj D (.deferred none)):=by
 have hk3:W3.heap[D]? = some (.deferred (some [])):=by
  rw [e3,heap_setCell_other _ ⟨w.heap.size,0,none⟩ D _ (fun e=>by simp at e;omega)]
  exact hk
 have b3:Below w.heap.size w W3:=e3▸hb.setCell (p:=⟨w.heap.size,0,none⟩) (Nat.le_refl _) _
 exact⟨⟨hk3,e3▸(jnB_set hB).1⟩,(b3.trans (belowK_b (w:=w) (Nat.le_refl _) W3 D _ _ (by omega) hk3 rfl rfl)).mono (by omega)⟩
theorem join_no7 {w W5 W3:World} {n b D:Nat} {v:Int} {u:Value} (hn:n≤b) (hbl:b<w.heap.size) (hb:Below w.heap.size w W5) (hk:W5.heap[D]? = some (.deferred (some []))) (hD:w.heap.size<D) (hB:JnB w.heap.size 0 W5) (e3:W3=(W5.setCell ⟨b,7,none⟩ u).setCell ⟨w.heap.size,0,none⟩ (.int .i64 v)):
 (W3.heap[D]? = some (.deferred (some []))∧W3.cell? ⟨w.heap.size,0,none⟩=some (.int .i64 v))∧Below n w (W3.putObj D (.deferred none)):=by
 have hk3:W3.heap[D]? = some (.deferred (some [])):=by
  rw [e3,heap_setCell_other _ ⟨w.heap.size,0,none⟩ D _ (fun e=>by simp at e;omega),heap_setCell_other _ ⟨b,7,none⟩ D _ (fun e=>by simp at e;omega)]
  exact hk
 have b3:Below n w W3:=e3▸((hb.mono (B':=n) (by omega)).setCell (p:=⟨b,7,none⟩) hn _).setCell (p:=⟨w.heap.size,0,none⟩) (by show n≤w.heap.size;omega) _
 refine⟨⟨hk3,?_⟩,b3.trans ((belowK_b (w:=w) (Nat.le_refl _) W3 D _ _ (by omega) hk3 rfl rfl).mono (by omega))⟩
 rw [e3]
 refine World.cell?_setCell_same _ _ _ (u:=.int .i64 0) ?_
 rw [World.cell?_setCell_other _ _ _ _ (by intro q;injection q with q1 q2;omega)]
 exact hB.1
set_option maxRecDepth 100000 in
set_option maxHeartbeats 4000000 in
theorem join51 (n b:Nat) (ps:List Uc.Pr) (sp:Nat→List Pq.Sp) (cf:List Cf.Pp) (w:World) (hnb:n≤b) (ho:Odd w b) (h:PF w b ps sp cf) (h7:w.cell? ⟨b,7,none⟩=some (.map none)∧w.frozen? ⟨b,7,none⟩=false) (hs:Szs ps sp) (hH:HanT w):
 Calls Tryz.prog 49 #[.pointer (some ⟨b,0,none⟩)] w (JoinPost n b ps sp cf w):=by
 obtain⟨p,A,c,ls,hu,hT,hI⟩:=h.uni
 have hbl:=World.block_lt_of_cell? w _ hu
 have hB1:Below w.heap.size w (w.alloc (.cells #[.int .i64 0] 40)):=(Below.refl _ _).alloc (Nat.le_refl _) _
 have hu1:(w.alloc (.cells #[.int .i64 0] 40)).cell? ⟨b,0,none⟩=some (.pointer p):=(hB1.cell (p:=⟨b,0,none⟩) hbl).trans hu
 have c30:=callsIn_wide (n:=8) |>.2 (Uc.rows10 p A c ls (w.alloc (.cells #[.int .i64 0] 40)) (hT.below hB1))
 rw [World.size_alloc] at c30
 refine (callsIn_wide (n:=9)).1 ?_
 refine callsIn_of_wp_marks Tryz.func49 rfl trivial ?_ rfl
 simp only [Tryz.ntmps49,List.size_toArray,List.length_cons,List.length_nil,Nat.reduceAdd,Nat.reduceSub,Array.replicate_succ,Array.replicate_zero,List.push_toArray,List.append_toArray,List.nil_append,List.cons_append]
 gi_wp2_with (refine⟨trivial,?_⟩;gi_at_call 80;(with_reducible refine c30.mono ?_);rintro e W5 ⟨rfl,hw5⟩)
 have hs5:W5.heap.size=w.heap.size+2:=by rw [hw5,World.size_alloc,World.size_alloc]
 have hb5:Below w.heap.size w W5:=by rw [hw5];exact hB1.alloc (by simp) _
 have hj5:JnB w.heap.size 0 W5:=by
  rw [hw5]
  refine⟨?_,?_⟩
  · rw [old_at _ _ _ _ (by simp)];simp
  · rw [old_fro _ _ _ _ (by simp)];exact new_fro _ _ _ _ _ rfl
 have h0:JnI w [] W5:=⟨hj5,hb5,fun r hr=>by cases hr⟩
 have cr5:W5.cell? ⟨w.heap.size+1,0,none⟩=some (.slice A ls.length c):=by
  rw [hw5,new_at _ _ _ _ _ (by simp)]
  rfl
 rw [←hw5]
 clear hw5 c30 hu1 hB1
 have hT5:=hT.below hb5
 have hI5:=hI.below hb5
 have hA2:0<ls.length→∀ a,A=some a→a.block<w.heap.size:=fun hn a e=>by
  obtain⟨b,off,e',hlt,-⟩:=hT.rat.2 hn
  rw [e] at e';cases e';exact hlt
 have hD2:∀ t∈ls,0<t.dm→∀ a,t.dp=some a→a.block<w.heap.size:=fun t ht hd a e=>by
  obtain⟨q,-,hq⟩:=Uc.ist_mem hI ht
  obtain⟨b,off,e',hlt,-⟩:=hq.2.2.2.2.2.2.2 hd
  rw [e] at e';cases e';exact hlt
 have hq:=Uc.fseq25 8 (w.heap.size+1) ls.length c A ls ps (JnA w.heap.size) W5 (by omega) (by rw [hI.len];have:=hs.few;omega) (fun q hq=>by have:=(hs.good.2 q hq).2.2.2;omega) (by omega) cr5 hT5.rat hI5 (by
  rintro k hk (rfl | ⟨hn,a,e,rfl⟩ | ⟨t,ht,hd,a,e,rfl⟩)
  · show _≠_;omega
  · have:=hA2 hn a e;show _≠_;omega
  · have:=hD2 t ht hd a e;show _≠_;omega)
 rw [hs5] at hq
 have HQ:=Lib.hid hq
 have H0:=Lib.hid h0
 have HSZ:=Lib.hid hs5
 have HS:=Lib.hid (And.intro (And.intro h hs) (And.intro (And.intro hH ho) (And.intro hbl h7)))
 have HU:=Lib.hid (And.intro hu (And.intro hT hI))
 clear hs5 hb5 cr5 hT5 hI5 hA2 hD2 hq h0 hT hI h hs hu hbl hH ho h7 hj5
 refine range_nf2 rfl (by omega) rfl trivial (enters_of Tryz.func121 (by kernel_rfl) rfl) HQ.out (Nat.zero_le _) (by have:=HSZ.out;show _≠_;omega) (by have:=HSZ.out;show _≠_;omega) (fun _=>rfl)
  (JnI w) (JnY w) (fun pre x W0 W h hb hx=>⟨(jni_abide w _ h.2.1.size).below h hb,hx.1⟩) (fun pre x=>jny_abide w pre x _ (by have:=HSZ.out;omega)) (JnX w ps) (jni_abide w _ (by have:=HSZ.out;omega)) (jnx_abide w ps _ (by have:=HSZ.out;omega)) H0.out RwBt (fun x b=>rwBt_abide x b _) ?a1 ?assign ?body ?done ?stop
 case assign=>
  rintro lq pre x W' K hi hK
  simp only [Uc.rwArr,Uc.rwV]
  gi_wp2
  obtain⟨b',hb'⟩:∃ b',W'.heap.size=b':=⟨_,rfl⟩
  rw [hb']
  have hbo:∀ o,Below W'.heap.size W' (W'.alloc o):=fun o=>(Below.refl _ _).alloc (Nat.le_refl _) o
  refine hK b' _ (Kept.of_below (hbo _)) ((jny_abide w pre x _ (hi.1.2.1.size)).below (s:=()) hi (hbo _)) ?_
  rw [←hb']
  exact rwBt_new x W'
 case body=>
  rintro lq pre ⟨s,q⟩ b' Wb ⟨⟨hjb,hbe,hno⟩,hi⟩ hbx ⟨hnx,hlen⟩
  dsimp only at hi
  rw [List.map_append] at hnx
  obtain⟨⟨hPF,hs⟩,⟨hH,ho⟩,hbl,h7⟩:=HS.out
  have hHb:=hH.below hH.lt hbe
  have c72:=spoils72 s Wb hHb
  obtain⟨hbh,e0,e1,e2,e3,e4,e5⟩:=id hbx
  dsimp only at e0 e1 e2 e3 e4 e5
  have hq:q∈ps:=by obtain⟨r,rfl⟩:=hnx;simp
  have hqa:=hs.good.2 q hq
  have hsp:spoB s.ccc s.dm s.a s.b=decide (badK q):=by
   rw [hi.2.2.2.1,hi.2.2.2.2.2.1,hi.1,hi.2.1]
   exact sp_bad hqa.2.1
  rw [hsp] at c72
  obtain⟨T,hT⟩:∃ T,bs s.gc=T:=⟨_,rfl⟩
  obtain⟨U,hU⟩:∃ T,bs s.bd=T:=⟨_,rfl⟩
  unfold Uc.rwV at c72
  rw [hT,hU] at c72
  rw [hT] at e2
  rw [hU] at e4
  by_cases hbad:badK q
  · have hdt:decide (badK q)=true:=decide_eq_true hbad
    rw [hdt] at c72
    have HE:Hid (∀ W1,Below Wb.heap.size Wb W1→(W1.cell? ⟨w.heap.size,0,none⟩=some (.int .i64 0)∧W1.frozen? ⟨w.heap.size,0,none⟩=false)∧Hid (Kept (JnA w.heap.size) Wb (W1.setCell ⟨w.heap.size,0,none⟩ (.int .i64 16))∧JnX w ps .ret (pre ++ [(s,q)]) (W1.setCell ⟨w.heap.size,0,none⟩ (.int .i64 16)))):=Lib.hid (fun W1 hb1=>by
     have hj1:=jnB_below hjb (jnB_lt hjb) hb1
     refine⟨hj1,Lib.hid ⟨(Kept.of_below hb1).trans (Kept.setCell W1 w.heap.size _ (fun h=>h rfl)),jnB_set hj1,(hbe.trans (hb1.mono hbe.size)).setCell (p:=⟨w.heap.size,0,none⟩) (Nat.le_refl _) _,rfl,?_⟩⟩
     unfold touA
     exact List.any_eq_true.2 ⟨q,hq,hdt⟩)
    clear hjb hbe hno hi hbx hnx hPF hs hH ho hbl h7 hHb hbh hq hqa hsp hT hU hbad hdt hlen
    gi_wp2_with (refine⟨trivial,?_⟩;gi_at_call 81;refine (CallsIn.inRound lq (callsIn_wide.2 c72)).mono ?_;rintro e W1 ⟨rfl,hb1⟩;obtain⟨⟨r1,r2⟩,HE1⟩:=HE.out W1 hb1)
    exact HE1.out
  · have hdf:decide (badK q)=false:=decide_eq_false hbad
    rw [hdf] at c72
    have HE:Hid (∀ W1,Below Wb.heap.size Wb W1→Kept (JnA w.heap.size) Wb W1∧JnI w (pre ++ [(s,q)]) W1):=Lib.hid (fun W1 hb1=>⟨Kept.of_below hb1,jnB_below hjb (jnB_lt hjb) hb1,hbe.trans (hb1.mono hbe.size),fun r hr=>by
     rw [List.map_append] at hr
     rcases List.mem_append.1 hr with h | h
     · exact hno r h
     · simp at h;exact h▸hbad⟩)
    clear hjb hbe hno hi hbx hnx hPF hs hH ho hbl h7 hHb hbh hq hqa hsp hT hU hbad hdf hlen
    gi_wp2_with (refine⟨trivial,?_⟩;gi_at_call 81;refine (CallsIn.inRound lq (callsIn_wide.2 c72)).mono ?_;rintro e W1 ⟨rfl,hb1⟩)
    exact HE.out W1 hb1
 case done=>
  rintro D xs W3 hD hxs ⟨hj3,hb3,hno⟩ hKD
  rw [hxs] at hno
  have hDH:w.heap.size+2≤D:=by have:=HSZ.out;omega
  obtain⟨⟨hPF,hs⟩,⟨hH,ho⟩,hbl,h7⟩:=HS.out
  obtain⟨hu,hT,hI⟩:=HU.out
  have htou:¬touA ps=true:=fun h=>by
   unfold touA at h
   obtain⟨r,hr,hd⟩:=List.any_eq_true.1 h
   exact hno r hr (of_decide_eq_true hd)
  have hu3:W3.cell? ⟨b,0,none⟩=some (.pointer p):=(hb3.cell (p:=⟨b,0,none⟩) hbl).trans hu
  have c73:=check73 p A c ls ps W3 (hT.below hb3) (hI.below hb3) hs.good hs.flat hs.few hs.low
  have C73:=callsIn_wide (n:=8) |>.2 c73
  have hD3:=(Array.getElem?_eq_some_iff.1 hKD).1
  by_cases hck:ckV ps=0
  · rw [hck] at C73
    have hb4:∀ W4,Below W3.heap.size W3 W4→Below w.heap.size w W4:=fun W4 h=>hb3.trans (h.mono hb3.size)
    have hk4:∀ W4,Below W3.heap.size W3 W4→W4.heap[D]? = some (.deferred (some [])):=fun W4 h=>(h.block D hD3).trans hKD
    by_cases hmk:mkP (sp 0) ps [] ps=none
    · have C74:Hid (∀ W4,Below W3.heap.size W3 W4→CallsIn Fence.wide 8 Tryz.prog 83 #[.pointer (some ⟨b,0,none⟩)] W4 fun e W5=>(e=.returned (.tuple #[.map none,.int .i64 15])∧(W5.cell? ⟨w.heap.size,0,none⟩=some (.int .i64 0)∧W5.frozen? ⟨w.heap.size,0,none⟩=false)∧W5.cell? ⟨b,7,none⟩=some (.map none)∧W5.frozen? ⟨b,7,none⟩=false)∧Hid (Below W3.heap.size W3 W5)):=Lib.hid (fun W4 hw4=>by
       refine callsIn_wide.2 ((pairs74 b ps sp cf W4 (hPF.below (hb4 W4 hw4)) hs).mono ?_)
       rintro e W5 ⟨hw5,⟨ms,m,k,E,q1,-⟩ | ⟨-,rfl⟩⟩
       · rw [hmk] at q1;cases q1
       · have h35:=hw4.trans (hw5.mono hw4.size)
         have h05:=hb3.trans (h35.mono hb3.size)
         exact⟨⟨rfl,jnB_below hj3 (jnB_lt hj3) h35,(h05.cell (p:=⟨b,7,none⟩) hbl).trans h7.1,(h05.frozen (p:=⟨b,7,none⟩) hbl).trans h7.2⟩,Lib.hid h35⟩)
      have hje:joinE (sp 0) ps=15:=by unfold joinE;rw [if_neg htou,if_neg (fun h=>h hck),if_pos hmk]
      have HE:Hid (∀ W5 W6,Below W3.heap.size W3 W5→W6=(W5.setCell ⟨b,7,none⟩ (.map none)).setCell ⟨w.heap.size,0,none⟩ (.int .i64 15)→(W6.heap[D]? = some (.deferred (some []))∧W6.cell? ⟨w.heap.size,0,none⟩=some (.int .i64 15))∧JoinPost n b ps sp cf w (.returned (.int .i64 15)) (W6.putObj D (.deferred none))):=Lib.hid (fun W5 W6 h5 e6=>by
       obtain⟨g1,g2⟩:=join_no7 (n:=n) (D:=D) hnb hbl (hb4 W5 h5) (hk4 W5 h5) (by omega) (jnB_below hj3 (jnB_lt hj3) h5) e6
       exact⟨g1,by rw [hje],g2,fun h=>by rw [hje] at h;cases h⟩)
      have hn1:¬b=w.heap.size:=by omega
      have hn2:¬w.heap.size=b:=by omega
      clear hno hKD hj3 hb3 hxs hDH hPF hs hH ho hbl h7 hu hT hI htou c73 hD3 hck hb4 hk4 hmk hje
      gi_wp2_with (first
       | (refine⟨trivial,?_⟩;gi_at_call 82;(with_reducible refine C73.mono ?_);rintro e W4 ⟨rfl,hw4⟩)
       | (refine⟨trivial,?_⟩;gi_at_call 83;(with_reducible refine (C74.out W4 hw4).mono ?_);rintro e W5 ⟨⟨rfl,⟨r1,r2⟩,r3,r4⟩,H5⟩))
      have HH:=Lib.hid (HE.out W5 _ H5.out rfl)
      exact leave51 rfl HH.out.1.1 HH.out.1.2 HH.out.2
    · have C74:Hid (∀ W4,Below W3.heap.size W3 W4→CallsIn Fence.wide 8 Tryz.prog 83 #[.pointer (some ⟨b,0,none⟩)] W4 fun e W5=>∃ m,(e=.returned (.tuple #[.map (some m),.int .i64 0])∧(W5.cell? ⟨w.heap.size,0,none⟩=some (.int .i64 0)∧W5.frozen? ⟨w.heap.size,0,none⟩=false)∧W5.cell? ⟨b,7,none⟩=some (.map none)∧W5.frozen? ⟨b,7,none⟩=false)∧Hid (Below W3.heap.size W3 W5∧∃ ms k E,mkP (sp 0) ps [] ps=some ms∧W5.ownsMap Tryz.prog 131 (plainElem (H:=Value) Tryz.prog 3) m k E∧MkIs E ms)):=Lib.hid (fun W4 hw4=>by
       refine callsIn_wide.2 ((pairs74 b ps sp cf W4 (hPF.below (hb4 W4 hw4)) hs).mono ?_)
       rintro e W5 ⟨hw5,⟨ms,m,k,E,q1,rfl,q2,q3⟩ | ⟨q,-⟩⟩
       · have h35:=hw4.trans (hw5.mono hw4.size)
         have h05:=hb3.trans (h35.mono hb3.size)
         exact⟨m,⟨rfl,jnB_below hj3 (jnB_lt hj3) h35,(h05.cell (p:=⟨b,7,none⟩) hbl).trans h7.1,(h05.frozen (p:=⟨b,7,none⟩) hbl).trans h7.2⟩,Lib.hid ⟨h35,ms,k,E,q1,q2,q3⟩⟩
       · exact absurd q hmk)
      have hje:joinE (sp 0) ps=0:=by unfold joinE;rw [if_neg htou,if_neg (fun h=>h hck),if_neg hmk]
      have HE:Hid (∀ W5 W6 m,(Below W3.heap.size W3 W5∧∃ ms k E,mkP (sp 0) ps [] ps=some ms∧W5.ownsMap Tryz.prog 131 (plainElem (H:=Value) Tryz.prog 3) m k E∧MkIs E ms)→W6=(W5.setCell ⟨b,7,none⟩ (.map (some m))).setCell ⟨w.heap.size,0,none⟩ (.int .i64 0)→(W6.heap[D]? = some (.deferred (some []))∧W6.cell? ⟨w.heap.size,0,none⟩=some (.int .i64 0))∧JoinPost n b ps sp cf w (.returned (.int .i64 0)) (W6.putObj D (.deferred none))):=Lib.hid (fun W5 W6 m ⟨h5,ms,k,E,q1,q2,q3⟩ e6=>by
       obtain⟨g1,g2,g3,g4⟩:=join_ok (n:=n) (D:=D) hnb ho hPF h7.1 (hb4 W5 h5) (hk4 W5 h5) (by omega) (jnB_below hj3 (jnB_lt hj3) h5) q2 q3 e6
       exact⟨g1,by rw [hje],g2,fun _=>⟨ms,q1,g3,g4⟩⟩)
      have hn1:¬b=w.heap.size:=by omega
      have hn2:¬w.heap.size=b:=by omega
      clear hno hKD hj3 hb3 hxs hDH hPF hs hH ho hbl h7 hu hT hI htou c73 hD3 hck hb4 hk4 hmk hje
      gi_wp2_with (first
       | (refine⟨trivial,?_⟩;gi_at_call 82;(with_reducible refine C73.mono ?_);rintro e W4 ⟨rfl,hw4⟩)
       | (refine⟨trivial,?_⟩;gi_at_call 83;(with_reducible refine (C74.out W4 hw4).mono ?_);rintro e W5 ⟨m,⟨rfl,⟨r1,r2⟩,r3,r4⟩,H5⟩))
      have HH:=Lib.hid (HE.out W5 _ m H5.out rfl)
      exact leave51 rfl HH.out.1.1 HH.out.1.2 HH.out.2
  · have hje:joinE (sp 0) ps=ckV ps:=by unfold joinE;rw [if_neg htou,if_pos hck]
    have HE:Hid (∀ W4,Below W3.heap.size W3 W4→(W4.cell? ⟨w.heap.size,0,none⟩=some (.int .i64 0)∧W4.frozen? ⟨w.heap.size,0,none⟩=false)∧Hid (∀ W6,W6=W4.setCell ⟨w.heap.size,0,none⟩ (.int .i64 (ckV ps))→(W6.heap[D]? = some (.deferred (some []))∧W6.cell? ⟨w.heap.size,0,none⟩=some (.int .i64 (ckV ps)))∧JoinPost n b ps sp cf w (.returned (.int .i64 (ckV ps))) (W6.putObj D (.deferred none)))):=Lib.hid (fun W4 h4=>by
     refine⟨jnB_below hj3 (jnB_lt hj3) h4,Lib.hid (fun W6 e6=>?_)⟩
     obtain⟨g1,g2⟩:=join_no (n:=n) (D:=D) hnb hbl (hb3.trans (h4.mono hb3.size)) ((h4.block D hD3).trans hKD) (by omega) (jnB_below hj3 (jnB_lt hj3) h4) e6
     exact⟨g1,by rw [hje],g2,fun h=>by rw [hje] at h;exact absurd h hck⟩)
    obtain⟨v,hv⟩:∃ v,ckV ps=v:=⟨_,rfl⟩
    rw [hv] at C73 HE hck
    have hx1:(v==0)=false:=beq_false_of_ne hck
    have hx2:(v != 0)=true:=bne_iff_ne.2 hck
    clear hno hKD hj3 hb3 hxs hDH hPF hs hH ho hbl h7 hu hT hI htou c73 hD3 hje hv
    gi_wp2_with (refine⟨trivial,?_⟩;gi_at_call 82;(with_reducible refine C73.mono ?_);rintro e W4 ⟨rfl,hw4⟩;obtain⟨⟨r1,r2⟩,H4⟩:=HE.out W4 hw4)
    have HH:=Lib.hid (H4.out _ rfl)
    exact leave51 rfl HH.out.1.1 HH.out.1.2 HH.out.2
 case stop=>
  rintro D c2 pre W3 hD hpre ⟨hj3,hb3,rfl,htou⟩ hKD
  have hDH:w.heap.size+2≤D:=by have:=HSZ.out;omega
  obtain⟨⟨hPF,hs⟩,⟨hH,ho⟩,hbl,h7⟩:=HS.out
  have hje:joinE (sp 0) ps=16:=by unfold joinE;rw [if_pos htou]
  have HP:Hid (JoinPost n b ps sp cf w (.returned (.int .i64 16)) (W3.putObj D (.deferred none))):=Lib.hid ⟨by rw [hje],(hb3.trans (belowK_b (w:=w) (Nat.le_refl _) W3 D _ _ (by omega) hKD rfl rfl)).mono (by omega),fun h=>by rw [hje] at h;cases h⟩
  have HJ:=Lib.hid hj3
  clear hj3 hb3 htou hDH hPF hs hH ho hbl h7 hje hpre
  gi_wp2
  exact leave51 rfl hKD HJ.out.1 HP.out
end Go.Proofs.YtbkgbhlmeeodgaaGreatDoor
namespace Go.Proofs.YtbkgbhlmeeodgaaGreatDoor
open Go.RowKit
attribute [local go_sem] Oper.semAt_some
def pfV (bv vv:Nat→Value):Value:=.agg #[bv 1,vv 0,bv 2,vv 1,bv 3,vv 2,bv 4,vv 3,bv 5,vv 4]
theorem pf_i0 (a0 a1 a2 a3 a4 a5 a6 a7 a8 a9:Value) (W:World):(Instr.index 115 (.agg #[a0,a1,a2,a3,a4,a5,a6,a7,a8,a9]) (.int .i64 0)).run Tryz.prog W=.ok (.agg #[a0,a1]) W:=by kernel_rfl
theorem pf_i1 (a0 a1 a2 a3 a4 a5 a6 a7 a8 a9:Value) (W:World):(Instr.index 115 (.agg #[a0,a1,a2,a3,a4,a5,a6,a7,a8,a9]) (.int .i64 1)).run Tryz.prog W=.ok (.agg #[a2,a3]) W:=by kernel_rfl
theorem pf_i2 (a0 a1 a2 a3 a4 a5 a6 a7 a8 a9:Value) (W:World):(Instr.index 115 (.agg #[a0,a1,a2,a3,a4,a5,a6,a7,a8,a9]) (.int .i64 2)).run Tryz.prog W=.ok (.agg #[a4,a5]) W:=by kernel_rfl
theorem pf_i3 (a0 a1 a2 a3 a4 a5 a6 a7 a8 a9:Value) (W:World):(Instr.index 115 (.agg #[a0,a1,a2,a3,a4,a5,a6,a7,a8,a9]) (.int .i64 3)).run Tryz.prog W=.ok (.agg #[a6,a7]) W:=by kernel_rfl
theorem pf_i4 (a0 a1 a2 a3 a4 a5 a6 a7 a8 a9:Value) (W:World):(Instr.index 115 (.agg #[a0,a1,a2,a3,a4,a5,a6,a7,a8,a9]) (.int .i64 4)).run Tryz.prog W=.ok (.agg #[a8,a9]) W:=by kernel_rfl
theorem pf_index (bv vv:Nat→Value) (k:Nat) (hk:k<5) (W:World):(Instr.index 115 (pfV bv vv) (.int .i64 k)).run Tryz.prog W=.ok (.agg #[bv (1+k),vv k]) W:=by
 match k,hk with
 | 0,_=>exact pf_i0 _ _ _ _ _ _ _ _ _ _ W
 | 1,_=>exact pf_i1 _ _ _ _ _ _ _ _ _ _ W
 | 2,_=>exact pf_i2 _ _ _ _ _ _ _ _ _ _ W
 | 3,_=>exact pf_i3 _ _ _ _ _ _ _ _ _ _ W
 | 4,_=>exact pf_i4 _ _ _ _ _ _ _ _ _ _ W
def PfPost (bv:Nat→Value) (w:World) (e:Ending) (w':World):Prop:=
 ∃ vv,e=.returned (pfV bv vv)∧Hid (Below w.heap.size w w'∧∀ j,j<5→∃ V cv,vv j=.slice V (valsOf (2+j)).length cv∧Vals w' V (valsOf (2+j)).length (strs (valsOf (2+j))))
def vvOf (H:Nat):Nat→Value
 | 0=>.slice (some ⟨H,0,none⟩) 1 1
 | 1=>.slice (some ⟨H+1,0,none⟩) 1 1
 | 2=>.slice (some ⟨H+2,0,none⟩) 5 5
 | _=>.slice none 0 0
theorem five_below (w:World) (a b c d e:Obj):Below w.heap.size w (((((w.alloc a).alloc b).alloc c).alloc d).alloc e):=
 (((((Below.refl _ _).alloc (Nat.le_refl _) _).alloc (by simp) _).alloc (by simp;omega) _).alloc (by simp;omega) _).alloc (by simp;omega) _
theorem three_lit (W:World) (l1 l2 l3:List Value) (t:TypeId):Vals (((W.alloc (.cells l1.toArray t)).alloc (.cells l2.toArray t)).alloc (.cells l3.toArray t)) (some ⟨W.heap.size,0,none⟩) l1.length l1∧Vals (((W.alloc (.cells l1.toArray t)).alloc (.cells l2.toArray t)).alloc (.cells l3.toArray t)) (some ⟨W.heap.size+1,0,none⟩) l2.length l2 ∧
 Vals (((W.alloc (.cells l1.toArray t)).alloc (.cells l2.toArray t)).alloc (.cells l3.toArray t)) (some ⟨W.heap.size+1+1,0,none⟩) l3.length l3:=by
 have k1:=vals_lit W l1 t
 have k2:=vals_lit (W.alloc (.cells l1.toArray t)) l2 t
 have k3:=vals_lit ((W.alloc (.cells l1.toArray t)).alloc (.cells l2.toArray t)) l3 t
 have hb:∀ (X:World) (o:Obj),Below X.heap.size X (X.alloc o):=fun X o=>(Below.refl _ _).alloc (Nat.le_refl _) o
 simp only [World.size_alloc] at k2 k3
 exact⟨(k1.below (hb _ _)).below (hb _ _),k2.below (hb _ _),k3⟩
set_option maxRecDepth 100000 in
set_option maxHeartbeats 4000000 in
theorem pfiles69 (b0 b1 b2 b3 b4 b5 b6:Option Addr) (n0 n1 n2 n3 n4 n5 n6 m0 m1 m2 m3 m4 m5 m6:Nat) (w:World):
 Calls Tryz.prog 77 #[.agg #[.slice b0 n0 m0,.slice b1 n1 m1,.slice b2 n2 m2,.slice b3 n3 m3,.slice b4 n4 m4,.slice b5 n5 m5,.slice b6 n6 m6]] w
  (PfPost (bunV (.slice b0 n0 m0) (.slice b1 n1 m1) (.slice b2 n2 m2) (.slice b3 n3 m3) (.slice b4 n4 m4) (.slice b5 n5 m5) (.slice b6 n6 m6)) w):=by
 go_enter Tryz.func77,Tryz.ntmps77
 go_wp2
 refine bodyPost_ret (v:=pfV (bunV (.slice b0 n0 m0) (.slice b1 n1 m1) (.slice b2 n2 m2) (.slice b3 n3 m3) (.slice b4 n4 m4) (.slice b5 n5 m5) (.slice b6 n6 m6)) (vvOf (w.heap.size+2))) (by simp [results,Tryz.results77,go_sem,pfV,bunV,vvOf]) rfl ?_
 refine⟨vvOf (w.heap.size+2),rfl,?_⟩
 refine Lib.hid ⟨five_below _ _ _ _ _ _,fun j hj=>?_⟩
 obtain⟨k1,k2,k3⟩:=three_lit ((w.alloc (Obj.cells #[.slice b0 n0 m0,.slice b1 n1 m1,.slice b2 n2 m2,.slice b3 n3 m3,.slice b4 n4 m4,.slice b5 n5 m5,.slice b6 n6 m6] 24)).alloc (Obj.cells #[.slice b1 n1 m1,.slice (some ⟨w.heap.size+1+1,0,none⟩) 1 1,.slice b2 n2 m2,.slice (some ⟨w.heap.size+1+1+1,0,none⟩) 1 1,.slice b3 n3 m3,.slice (some ⟨w.heap.size+1+1+1+1,0,none⟩) 5 5,.slice b4 n4 m4,.slice none 0 0,.slice b5 n5 m5,.slice none 0 0] 115)) (strs (valsOf 2)) (strs (valsOf 3)) (strs (valsOf 4)) 9
 simp only [World.size_alloc] at k1 k2 k3
 match j,hj with
 | 0,_=>exact⟨_,_,rfl,k1⟩
 | 1,_=>exact⟨_,_,rfl,k2⟩
 | 2,_=>exact⟨_,_,rfl,k3⟩
 | 3,_=>exact⟨none,0,rfl,rfl,fun h=>absurd h (by decide)⟩
 | 4,_=>exact⟨none,0,rfl,rfl,fun h=>absurd h (by decide)⟩
end Go.Proofs.YtbkgbhlmeeodgaaGreatDoor
namespace Go.Proofs.YtbkgbhlmeeodgaaGreatDoor
open Go.RowKit
def readP (f:Nat→List UInt8):Nat→Nat→Wh
 | 0,_=>if (cfF f).err=0 then ⟨0,0,0⟩ else ⟨7,(cfF f).num,(cfF f).err⟩
 | n+1,i=>if (prF f i).err=0 then readP f n (i+1) else ⟨2+(i:Int),(prF f i).num,(prF f i).err⟩
def readOf (f:Nat→List UInt8):Wh:=if (uF f).err=0 then readP f 5 0 else ⟨1,(uF f).num,(uF f).err⟩
theorem readp_load (f:Nat→List UInt8) (ps:List Uc.Pr):∀ n i,(readP f n i=⟨0,0,0⟩∧loadP f ps n i=load2 ps (spF f) (cfF f).rows)∨(¬(readP f n i).err=0∧loadP f ps n i=(readP f n i,none))
 | 0,i=>by
  by_cases h:(cfF f).err=0
  · left;rw [readP,loadP,load1,if_pos h,if_pos h];exact⟨rfl,rfl⟩
  · right;rw [readP,loadP,load1,if_neg h,if_neg h];exact⟨h,rfl⟩
 | n+1,i=>by
  by_cases h:(prF f i).err=0
  · rw [readP,loadP,if_pos h,if_pos h];exact readp_load f ps n (i+1)
  · right;rw [readP,loadP,if_neg h,if_neg h];exact⟨h,rfl⟩
theorem read_load (f:Nat→List UInt8):(readOf f=⟨0,0,0⟩∧loadOf f=load2 (uF f).rows (spF f) (cfF f).rows)∨(¬(readOf f).err=0∧loadOf f=(readOf f,none)):=by
 by_cases h:(uF f).err=0
 · rw [readOf,loadOf,if_pos h,if_pos h];exact readp_load f _ 5 0
 · right;rw [readOf,loadOf,if_neg h,if_neg h];exact⟨h,rfl⟩
def ReadPost (f:Nat→List UInt8) (w0:World) (b:Nat) (e:Ending) (w':World):Prop:=
 e=.returned (whV (readOf f))∧Below w0.heap.size w0 w'∧(readOf f=⟨0,0,0⟩→PF w' b (uF f).rows (spF f) (cfF f).rows∧Odd w' b∧w'.cell? ⟨b,7,none⟩=some (.map none)∧w'.frozen? ⟨b,7,none⟩=false)
structure RB (w0 w W:World) (bv g:Nat→Value) (b:Nat):Prop where
 bel:Below w0.heap.size w0 W
 low:w0.heap.size≤b∧b<w.heap.size
 bun:∀ i,i<7→W.cell? ⟨w.heap.size,i,none⟩=some (bv i)
 res:∀ i,i<3→W.cell? ⟨w.heap.size+1,i,none⟩=some (.int .i64 0)
 fro:∀ i,W.frozen? ⟨w.heap.size+1,i,none⟩=false
 odd:Odd W b
 frb:∀ i,W.frozen? ⟨b,i,none⟩=false
 dat:∀ i,i<8→W.cell? ⟨b,i,none⟩=some (g i)
theorem RB.lt {w0 w W:World} {bv g:Nat→Value} {b:Nat} (h:RB w0 w W bv g b):w.heap.size+1<W.heap.size:=World.block_lt_of_cell? W _ (h.res 0 (by omega))
theorem RB.below {w0 w W W':World} {bv g:Nat→Value} {b:Nat} (h:RB w0 w W bv g b) (hb:Below W.heap.size W W'):RB w0 w W' bv g b:=by
 have hl:=h.lt
 have ho:=h.odd.lt
 exact⟨h.bel.trans (hb.mono h.bel.size),h.low,fun i hi=>(hb.cell (p:=⟨w.heap.size,i,none⟩) (show w.heap.size<_ by omega)).trans (h.bun i hi),fun i hi=>(hb.cell (p:=⟨w.heap.size+1,i,none⟩) hl).trans (h.res i hi),fun i=>(hb.frozen (p:=⟨w.heap.size+1,i,none⟩) hl).trans (h.fro i),h.odd.below ho hb,fun i=>(hb.frozen (p:=⟨b,i,none⟩) ho).trans (h.frb i),fun i hi=>(hb.cell (p:=⟨b,i,none⟩) ho).trans (h.dat i hi)⟩
theorem RB.set {w0 w W:World} {bv g:Nat→Value} {b:Nat} (h:RB w0 w W bv g b) {k:Nat} (hk:k<8) {v:Value} (hv:PtV v):RB w0 w (W.setCell ⟨b,k,none⟩ v) bv (put1 g k v) b:=by
 have hc:=chg_set W b k v
 obtain⟨l1,l2⟩:=h.low
 refine⟨h.bel.setCell (p:=⟨b,k,none⟩) l1 _,h.low,fun i hi=>(hc.cell (p:=⟨w.heap.size,i,none⟩) (show w.heap.size≠b by omega)).trans (h.bun i hi),fun i hi=>(hc.cell (p:=⟨w.heap.size+1,i,none⟩) (show w.heap.size+1≠b by omega)).trans (h.res i hi),fun i=>by rw [World.frozen?_setCell];exact h.fro i,h.odd.set (h.dat k hk) hv,fun i=>by rw [World.frozen?_setCell];exact h.frb i,fun i hi=>?_⟩
 by_cases e:i=k
 · subst e
   rw [put1_at]
   exact World.cell?_setCell_same _ _ _ (h.dat i hk)
 · rw [put1_else g _ e]
   exact (World.cell?_setCell_other _ _ _ _ (by intro q;injection q with q1 q2;exact e q2.symm)).trans (h.dat i hi)
theorem RB.rs {w0 w W:World} {bv g:Nat→Value} {b:Nat} (h:RB w0 w W bv g b):W.cell? ⟨w.heap.size+1,0,none⟩=some (.int .i64 0)∧W.cell? ⟨w.heap.size+1,1,none⟩=some (.int .i64 0)∧W.cell? ⟨w.heap.size+1,2,none⟩=some (.int .i64 0)∧∀ i,W.frozen? ⟨w.heap.size+1,i,none⟩=false:=
 ⟨h.res 0 (by omega),h.res 1 (by omega),h.res 2 (by omega),h.fro⟩
structure RS (f:Nat→List UInt8) (W:World) (g vv:Nat→Value) (k:Nat):Prop where
 uni:∃ p,g 0=.pointer p∧UniT W p (uF f).rows
 prs:∀ j,j<k→∃ p,g (1+j)=.pointer p∧PrpT W p (spF f j)
 vls:∀ j,j<5→∃ V cv,vv j=.slice V (valsOf (2+j)).length cv∧Vals W V (valsOf (2+j)).length (strs (valsOf (2+j)))
 rst:∀ j,k≤j→j<6→g (1+j)=.pointer none
 mak:g 7=.map none
theorem RS.below {f:Nat→List UInt8} {W W':World} {g vv:Nat→Value} {k:Nat} (h:RS f W g vv k) (hb:Below W.heap.size W W'):RS f W' g vv k:=by
 refine⟨?_,fun j hj=>?_,fun j hj=>?_,h.rst,h.mak⟩
 · obtain⟨p,h1,h2⟩:=h.uni;exact⟨p,h1,uniT_below hb h2⟩
 · obtain⟨p,h1,h2⟩:=h.prs j hj;exact⟨p,h1,prpT_below hb h2⟩
 · obtain⟨V,cv,h1,h2⟩:=h.vls j hj;exact⟨V,cv,h1,h2.below hb⟩
theorem RS.put {f:Nat→List UInt8} {W:World} {g vv:Nat→Value} {k b:Nat} {p:Option Addr} (h:RS f W g vv k) (ho:Odd W b) (hk:k<5) (hp:PrpT W p (spF f k)):RS f (W.setCell ⟨b,1+k,none⟩ (.pointer p)) (put1 g (1+k) (.pointer p)) vv (k+1):=by
 have hc:=chg_set W b (1+k) (.pointer p)
 refine⟨?_,fun j hj=>?_,fun j hj=>?_,fun j hj hj6=>?_,?_⟩
 · obtain⟨q,h1,h2⟩:=h.uni;exact⟨q,by rw [put1_else g _ (by omega)];exact h1,uniT_odd ho hc h2⟩
 · by_cases e:j=k
   · subst e;exact⟨p,put1_at _ _ _,prpT_odd ho hc hp⟩
   · obtain⟨q,h1,h2⟩:=h.prs j (by omega);exact⟨q,by rw [put1_else g _ (by omega)];exact h1,prpT_odd ho hc h2⟩
 · obtain⟨V,cv,h1,h2⟩:=h.vls j hj;exact⟨V,cv,h1,strs_odd ho hc h2⟩
 · rw [put1_else g _ (by omega)];exact h.rst j (by omega) hj6
 · rw [put1_else g _ (by omega)];exact h.mak
theorem read_bad {f:Nat→List UInt8} {w0 w W:World} {bv g:Nat→Value} {b:Nat} {x y z:Int} (h:RB w0 w W bv g b) (hl:readOf f=⟨x,y,z⟩) (hz:¬z=0):ReadPost f w0 b (.returned (.agg #[.int .i64 x,.int .i64 y,.int .i64 z])) (setR w W x y z):=by
 have k:w0.heap.size≤w.heap.size+1:=by have:=h.low;omega
 refine⟨by rw [hl];rfl,((h.bel.setCell (p:=⟨w.heap.size+1,0,none⟩) k _).setCell (p:=⟨w.heap.size+1,1,none⟩) k _).setCell (p:=⟨w.heap.size+1,2,none⟩) k _,fun e=>?_⟩
 rw [hl] at e
 injection e with _ _ e
 exact absurd e hz
theorem below_self {W:World} {b i:Nat} {v:Value} (n:Nat) (h:W.cell? ⟨b,i,none⟩=some v):Below n W (W.setCell ⟨b,i,none⟩ v):=by
 refine⟨rfl,rfl,rfl,by simp,fun k _=>?_⟩
 simp only [World.setCell,Array.getElem?_modify]
 split
 · rename_i e
   subst e
   unfold World.cell? at h
   cases hb:W.heap[b]? with
   | none=>rfl
   | some o=>
    rw [hb] at h
    cases o with
    | cells c t fr=>
     simp at h
     simp only [Option.map_some]
     congr 2
     simp
     apply Array.ext_getElem?
     intro j
     rw [Array.getElem?_setIfInBounds]
     split
     · rename_i e
       subst e
       split
       · exact h.symm
       · rename_i hj
         rw [Array.getElem?_eq_none (by omega)]
     · rfl
    | _=>rfl
 · rfl
theorem read_ok {f:Nat→List UInt8} {w0 w W:World} {bv g vv:Nat→Value} {b:Nat} {p:Option Addr} (h:RB w0 w W bv g b) (hs:RS f W g vv 5) (hl:readOf f=⟨0,0,0⟩) (hp:Cf.CT W p (cfF f).rows):ReadPost f w0 b (.returned (.agg #[.int .i64 0,.int .i64 0,.int .i64 0])) (setR w (W.setCell ⟨b,6,none⟩ (.pointer p)) 0 0 0):=by
 have hR:=h.set (k:=6) (by omega) (v:=.pointer p) (.inl ⟨p,rfl⟩)
 have h0:Below W.heap.size (W.setCell ⟨b,6,none⟩ (.pointer p)) (setR w (W.setCell ⟨b,6,none⟩ (.pointer p)) 0 0 0):=by
  obtain⟨r0,r1,r2,-⟩:=hR.rs
  have b1:=below_self W.heap.size r0
  have b2:=below_self W.heap.size ((b1.cell (p:=⟨w.heap.size+1,1,none⟩) h.lt).trans r1)
  exact (b1.trans b2).trans (below_self W.heap.size (((b1.trans b2).cell (p:=⟨w.heap.size+1,2,none⟩) h.lt).trans r2))
 have hsz:(W.setCell ⟨b,6,none⟩ (.pointer p)).heap.size=W.heap.size:=by simp
 rw [←hsz] at h0
 have hF:=hR.below h0
 have hc:=chg_set W b 6 (.pointer p)
 refine⟨by rw [hl];rfl,hF.bel,fun _=>⟨⟨?_,fun i hi=>?_,?_⟩,hF.odd,?_,hF.frb 7⟩⟩
 · obtain⟨q,h1,h2⟩:=hs.uni
   obtain⟨A,c,ls,h3,h4⟩:=uniT_below h0 (uniT_odd h.odd hc h2)
   exact⟨q,A,c,ls,by rw [hF.dat 0 (by omega),put1_else g _ (by omega),h1],h3,h4⟩
 · obtain⟨q,h1,h2⟩:=hs.prs i hi
   obtain⟨A,c,h3⟩:=prpT_below h0 (prpT_odd h.odd hc h2)
   exact⟨q,A,c,by rw [hF.dat (1+i) (by omega),put1_else g _ (by omega),h1],h3⟩
 · exact⟨p,by rw [hF.dat 6 (by omega),put1_at],(ct_odd h.odd hc hp).below h0⟩
 · rw [hF.dat 7 (by omega),put1_else g _ (by omega),hs.mak]
end Go.Proofs.YtbkgbhlmeeodgaaGreatDoor
