/- A part. -/
import Derived.Test.YtbkgbhlmeeodgaaGreatDoorQc22
import Derived.Test.YtbkgbhlmeeodgaaGreatDoorQc23
namespace Go.Proofs.YtbkgbhlmeeodgaaGreatDoor
open Go.RowKit Go.Shelf
attribute [local go_sem] Oper.semAt_some
theorem leave74 {w Wf:World} {b D m:Nat} {tmps:Array Value} {rm:Value} {re:Int} {P:Ending→World→Prop} (t2:tmps[2]?.getD undef=.pointer (some ⟨w.heap.size+1,0,none⟩)) (t3:tmps[3]?.getD undef=.pointer (some ⟨w.heap.size+1+1,0,none⟩)) (hk:Wf.heap[D]? = some (.deferred (some []))) (hr:PrB w.heap.size b Wf rm re)
 (h:P (.returned (.tuple #[rm,.int .i64 re])) (Wf.putObj D (.deferred none))):
 LeavesInM Fence.wide m Tryz.prog Tryz.f83 tmps P [{ target:=.collected D,args:=#[] }] .returning Wf:=by
 refine⟨by simp,.inl ⟨_,_,rfl,run_takeDeferred hk,?_⟩⟩
 have k1:=cell_kept hr.rm.1 (grownBy_putObj' _ D (.deferred none)) (fun r e=>by cases e;exact⟨_,hk,rfl⟩)
 have k2:=cell_kept hr.re.1 (grownBy_putObj' _ D (.deferred none)) (fun r e=>by cases e;exact⟨_,hk,rfl⟩)
 refine⟨.tuple #[rm,.int .i64 re],?_,h⟩
 simp [results,Tryz.results83,go_sem,k1,k2,t2,t3]
def PrY (w:World) (b:Nat) (ex:List Pq.Sp) (ps:List Uc.Pr) (pre:List Uc.RwP) (x:Uc.RwP) (W:World):Prop:=PrI w b ex ps pre W∧Uc.Is W x.1 x.2
theorem pry_abide (w:World) (b B:Nat) (ex:List Pq.Sp) (ps:List Uc.Pr) (pre:List Uc.RwP) (x:Uc.RwP) (hB:w.heap.size+4≤B):Abide 0 0 B (fun (_:Unit) W=>PrY w b ex ps pre x W):=by
 intro _ W W' row ⟨h1,h3⟩ hg hr
 exact⟨pri_abide w b B ex ps hB pre W W' row h1 hg hr,h3.1,h3.2.1,h3.2.2.1,h3.2.2.2.1,h3.2.2.2.2.1,h3.2.2.2.2.2.1,vals_abide (β:=Unit) (B:=B) () W W' row h3.2.2.2.2.2.2 hg hr⟩
theorem prB_set {H b:Nat} {W:World} {rm rm':Value} {re re':Int} (h:PrB H b W rm re):PrB H b ((W.setCell ⟨H+1,0,none⟩ rm').setCell ⟨H+1+1,0,none⟩ (.int .i64 re')) rm' re':=by
 obtain⟨h0,⟨h1,h2⟩,⟨h3,h4⟩,h5⟩:=h
 refine⟨?_,⟨?_,?_⟩,⟨?_,?_⟩,?_⟩
 · simp [go_sem,h0]
 · simp [go_sem,h1]
 · simp only [World.frozen?_setCell];exact h2
 · have h3':W.cell? ⟨H+1+1,0,none⟩=some (.int .i64 re):=h3
   show ((W.setCell ⟨H+1,0,none⟩ rm').setCell ⟨H+1+1,0,none⟩ (.int .i64 re')).cell? ⟨H+1+1,0,none⟩=_
   simp [go_sem,h3']
 · simp only [World.frozen?_setCell];exact h4
 · simp [go_sem,h5]
theorem prset_other {H k:Nat} {W:World} {rm re:Value} (h1:k≠H+1) (h2:k≠H+2):((W.setCell ⟨H+1,0,none⟩ rm).setCell ⟨H+1+1,0,none⟩ re).heap[k]? = W.heap[k]?:=by
 rw [heap_setCell_other _ ⟨H+1+1,0,none⟩ k _ (fun e=>h2 (by simpa using e)),heap_setCell_other _ ⟨H+1,0,none⟩ k _ (fun e=>h1 (by simpa using e))]
theorem prset_below {w W:World} {rm re:Value} (h:Below w.heap.size w W):Below w.heap.size w ((W.setCell ⟨w.heap.size+1,0,none⟩ rm).setCell ⟨w.heap.size+1+1,0,none⟩ re):=
 (h.setCell (p:=⟨w.heap.size+1,0,none⟩) (by show w.heap.size≤w.heap.size+1;omega) _).setCell (p:=⟨w.heap.size+1+1,0,none⟩) (by show w.heap.size≤w.heap.size+1+1;omega) _
set_option maxRecDepth 100000 in
set_option maxHeartbeats 4000000 in
theorem pairs74 (b:Nat) (ps:List Uc.Pr) (sp:Nat→List Pq.Sp) (cf:List Cf.Pp) (w:World) (h:PF w b ps sp cf) (hs:Szs ps sp):
 Calls Tryz.prog 83 #[.pointer (some ⟨b,0,none⟩)] w (PairsPost (sp 0) ps w):=by
 obtain⟨p,A,c,ls,hu,hT,hI⟩:=h.uni
 have hbl:=World.block_lt_of_cell? w _ hu
 have hu1:(firstP w b).cell? ⟨b,0,none⟩=some (.pointer p):=((firstP_below w b).cell (p:=⟨b,0,none⟩) hbl).trans hu
 have c30:=callsIn_wide (n:=8) |>.2 (Uc.rows10 p A c ls (firstP w b) (hT.below (firstP_below w b)))
 have hmk:=@run_makeMap Tryz.prog
 rw [firstP_size] at c30
 unfold firstP at c30 hu1
 refine (callsIn_wide (n:=9)).1 ?_
 refine callsIn_of_wp_marks Tryz.func83 rfl trivial ?_ rfl
 simp only [Tryz.ntmps83,List.size_toArray,List.length_cons,List.length_nil,Nat.reduceAdd,Nat.reduceSub,Array.replicate_succ,Array.replicate_zero,List.push_toArray,List.append_toArray,List.nil_append,List.cons_append]
 gi_wp2_with (refine⟨trivial,?_⟩;gi_at_call 80;(with_reducible refine c30.mono ?_);rintro e W5 ⟨rfl,hw5⟩)
 have hs5:W5.heap.size=w.heap.size+6:=by rw [hw5,World.size_alloc];exact congrArg (· + 1) (firstP_size w b)
 have hb0:Below (firstP w b).heap.size (firstP w b) W5:=by rw [hw5];exact (Below.refl _ _).alloc (Nat.le_refl _) _
 have hb5:Below w.heap.size w W5:=(firstP_below w b).trans (hb0.mono (by rw [firstP_size];omega))
 have h0:=(pri_abide w b (w.heap.size+4) (sp 0) ps (Nat.le_refl _)).below (pr_start w b (sp 0) ps) hb0
 have cr5:W5.cell? ⟨w.heap.size+5,0,none⟩=some (.slice A ls.length c):=by
  rw [hw5]
  show ((firstP w b).alloc _).cell? _=_
  rw [new_at _ _ _ _ _ (by rw [firstP_size])]
  rfl
 rw [←hw5]
 clear hw5 c30 hmk hb0 hu1
 have hT5:=hT.below hb5
 have hI5:=hI.below hb5
 have hA2:0<ls.length→∀ a,A=some a→a.block<w.heap.size:=fun hn a e=>by
  obtain⟨b,off,e',hlt,-⟩:=hT.rat.2 hn
  rw [e] at e';cases e';exact hlt
 have hD2:∀ t∈ls,0<t.dm→∀ a,t.dp=some a→a.block<w.heap.size:=fun t ht hd a e=>by
  obtain⟨q,-,hq⟩:=Uc.ist_mem hI ht
  obtain⟨b,off,e',hlt,-⟩:=hq.2.2.2.2.2.2.2 hd
  rw [e] at e';cases e';exact hlt
 have hq:=Uc.fseq25 8 (w.heap.size+5) ls.length c A ls ps (PrA w.heap.size) W5 (by omega) (by rw [hI.len];have:=hs.few;omega) (fun q hq=>by have:=(hs.good.2 q hq).2.2.2;omega) (by omega) cr5 hT5.rat hI5 (by
  rintro k hk (rfl | ⟨hn,a,e,rfl⟩ | ⟨t,ht,hd,a,e,rfl⟩)
  · exact⟨by omega,by omega,by omega⟩
  · have:=hA2 hn a e;exact⟨by omega,by omega,by omega⟩
  · have:=hD2 t ht hd a e;exact⟨by omega,by omega,by omega⟩)
 rw [hs5] at hq
 have HQ:=Lib.hid hq
 have H0:=Lib.hid h0
 have HSZ:=Lib.hid hs5
 have HS:=Lib.hid (And.intro h hs)
 clear hs5 hb5 cr5 hT5 hI5 hA2 hD2 hq h0 hT hI h hs hu hbl
 refine range_nf2 rfl (by omega) rfl trivial (enters_of Tryz.func121 (by kernel_rfl) rfl) HQ.out (Nat.zero_le _) (by have:=HSZ.out;exact⟨by omega,by omega,by omega⟩) (by have:=HSZ.out;exact⟨by omega,by omega,by omega⟩) (fun _=>rfl)
  (PrI w b (sp 0) ps) (PrY w b (sp 0) ps) (fun pre x W0 W h hb hx=>⟨(pri_abide w b _ _ _ (by have:=World.block_lt_of_cell? W0 _ (by obtain⟨n,D,out,-,-,hB,-⟩:=h;exact hB.mb);show w.heap.size+4≤W0.heap.size;exact Nat.le_of_lt this)).below h hb,hx.1⟩) (fun pre x=>pry_abide w b _ _ _ pre x (by have:=HSZ.out;omega)) (PrX w b (sp 0) ps) (pri_abide w b _ _ _ (by have:=HSZ.out;omega)) (prx_abide w b _ _ _ (by have:=HSZ.out;omega)) H0.out RwBt (fun x b=>rwBt_abide x b _) ?a1 ?assign ?body ?done ?stop
 case assign=>
  rintro lq pre x W' K hi hK
  simp only [Uc.rwArr,Uc.rwV]
  gi_wp2
  obtain⟨b',hb'⟩:∃ b',W'.heap.size=b':=⟨_,rfl⟩
  rw [hb']
  have hbo:∀ o,Below W'.heap.size W' (W'.alloc o):=fun o=>(Below.refl _ _).alloc (Nat.le_refl _) o
  refine hK b' _ (Kept.of_below (hbo _)) ((pry_abide w b _ _ _ pre x (Nat.le_refl _)).below (s:=()) hi (hbo _)) ?_
  rw [←hb']
  exact rwBt_new x W'
 case body=>
  rintro lq pre ⟨s,q⟩ b' Wb ⟨⟨n,D,out,⟨hmk,hn,ho⟩,⟨hown,hM⟩,hB,hbe⟩,hi⟩ hbx ⟨hnx,hlen⟩
  dsimp only at hi
  rw [List.map_append] at hnx
  have hdr:=drop_next hnx
  rw [List.length_map] at hdr
  rw [hdr] at hmk
  obtain⟨hPF,hs⟩:=HS.out
  have c99:=made99 b ps sp cf s q Wb (hPF.below hbe) hs hi
  obtain⟨hbh,e0,e1,e2,e3,e4,e5⟩:=id hbx
  dsimp only at e0 e1 e2 e3 e4 e5
  have hq:q∈ps:=by obtain⟨r,rfl⟩:=hnx;simp
  have hqa:=hs.good.2 q hq
  have hwa:(Lit.int .i64 s.a).wf=true:=by rw [hi.1];exact WalkArith.wf_i64 (by have:=hqa.1;have:=hqa.2.1;have:=hqa.2.2.1;omega)
  have hpl:pre.length≤2000:=by
   obtain⟨r,e⟩:=hnx
   have:=congrArg List.length e
   simp at this
   have:=hs.few
   omega
  obtain⟨T,hT⟩:∃ T,bs s.gc=T:=⟨_,rfl⟩
  obtain⟨U,hU⟩:∃ T,bs s.bd=T:=⟨_,rfl⟩
  unfold Uc.rwV at c99
  rw [hT,hU] at c99
  rw [hT] at e2
  rw [hU] at e4
  have k4:Wb.cell? ⟨w.heap.size+1+1+1+1,0,none⟩=some (.map (some (w.heap.size+3))):=hB.mb
  have hl4:=World.block_lt_of_cell? Wb _ hB.mb
  have hl4:w.heap.size+4<Wb.heap.size:=hl4
  have hlb:=World.block_lt_of_cell? Wb _ e0
  by_cases hid:idle (sp 0) ps q
  · have hdf:decide (¬idle (sp 0) ps q)=false:=decide_eq_false (fun h=>h hid)
    rw [hdf] at c99
    have HE:Hid (∀ W1,Below Wb.heap.size Wb W1→PrI w b (sp 0) ps (pre ++ [(s,q)]) W1):=Lib.hid (fun W1 hb1=>(pri_abide w b (w.heap.size+4) (sp 0) ps (Nat.le_refl _)).below ⟨n,D,out,⟨by rw [List.length_append];rw [mkp_idle hid] at hmk;exact hmk,by simp;omega,by simp;omega⟩,⟨hown,hM⟩,hB,hbe⟩ hb1)
    have bd:=hB.bd
    clear hmk hn ho hown hM hB hbe hi hbx hnx hdr hPF hs hq hqa hwa hid hdf k4
    gi_wp2_with (refine⟨trivial,?_⟩;gi_at_call 124;refine (CallsIn.inRound lq (callsIn_wide.2 c99)).mono ?_;rintro e W1 ⟨rfl,hb1⟩)
    exact⟨Kept.of_below hb1,HE.out W1 hb1⟩
  · have hdt:decide (¬idle (sp 0) ps q)=true:=decide_eq_true hid
    rw [hdt] at c99
    have hlen2:q.dec.length=2:=Classical.byContradiction (fun h=>hid (.inl h))
    have hdm:s.dm=2:=by rw [hi.2.2.2.2.2.1];exact hlen2
    obtain⟨b2,off,hdp,hb2,hcc⟩:=hi.2.2.2.2.2.2.2 (by omega)
    have q0:Wb.cell? ⟨b2,off,none⟩=some (.int .i64 (dec0 q)):=hcc 0 (.int .i64 (dec0 q)) (by
     unfold dec0 nums
     rw [List.getElem?_map,List.getElem?_map]
     match hh:q.dec,hlen2 with
     | [x,y],_=>rfl)
    have q1:Wb.cell? ⟨b2,off+1,none⟩=some (.int .i64 (dec1 q)):=hcc 1 (.int .i64 (dec1 q)) (by
     unfold dec1 nums
     rw [List.getElem?_map,List.getElem?_map]
     match hh:q.dec,hlen2 with
     | [x,y],_=>rfl)
    have hw0:(Lit.int .i64 (dec0 q)).wf=true:=by
     unfold dec0
     match hh:q.dec,hlen2 with
     | [x,y],_=>exact wf_nat x (by have:=hs.low q hq x (by rw [hh];simp);omega)
    have hw1:(Lit.int .i64 (dec1 q)).wf=true:=by
     unfold dec1
     match hh:q.dec,hlen2 with
     | [x,y],_=>exact wf_nat y (by have:=hs.low q hq y (by rw [hh];simp);omega)
    rw [hdm,hdp] at e5 c99
    obtain⟨d0,hd0⟩:∃ x,dec0 q=x:=⟨_,rfl⟩
    obtain⟨d1,hd1⟩:∃ x,dec1 q=x:=⟨_,rfl⟩
    have hmd:=hM (dec0 q) (dec1 q) hw0 hw1
    obtain⟨m1,m2⟩:=hmd
    have HFA:Hid (∀ W1,Below Wb.heap.size Wb W1→((W1.cell? ⟨b',5,none⟩=some (.slice (some ⟨b2,off,none⟩) 2 s.dc)∧W1.cell? ⟨b',0,none⟩=some (.int .i64 s.a))∧(W1.cell? ⟨b2,off,none⟩=some (.int .i64 d0)∧W1.cell? ⟨b2,off+1,none⟩=some (.int .i64 d1))∧W1.cell? ⟨w.heap.size+1+1+1+1,0,none⟩=some (.map (some (w.heap.size+3))))∧(PrB w.heap.size b W1 (.map none) 0∧(b'<W1.heap.size∧b2<W1.heap.size∧w.heap.size+4<W1.heap.size))):=Lib.hid (fun W1 hb1=>by
     have cc:∀ {k i:Nat} {v:Value},Wb.cell? ⟨k,i,none⟩=some v→W1.cell? ⟨k,i,none⟩=some v:=fun {k i v} hc=>(hb1.cell (p:=⟨k,i,none⟩) (World.block_lt_of_cell? Wb _ hc)).trans hc
     rw [←hd0,←hd1]
     exact⟨⟨⟨cc e5,cc e0⟩,⟨cc q0,cc q1⟩,cc k4⟩,(prB_abide (B:=0) _ _).below (s:=()) hB hb1,Nat.lt_of_lt_of_le hlb hb1.size,Nat.lt_of_lt_of_le hb2 hb1.size,Nat.lt_of_lt_of_le hl4 hb1.size⟩)
    have HOW:Hid (∀ W1,Below Wb.heap.size Wb W1→W1.ownsMap Tryz.prog 131 (plainElem (H:=Value) Tryz.prog 3) (w.heap.size+3) n D):=Lib.hid (fun W1 hb1=>hown.kept (grown_below hb1) (by simp))
    have HK:Hid (keyOf Tryz.prog 131 (.agg #[.int .i64 d0,.int .i64 d1])=some (kP d0 d1)):=Lib.hid (by rw [←hd0,←hd1];exact kP_is hw0 hw1)
    have bd:=hB.bd
    rw [hd0,hd1] at m2
    by_cases hf:findM out (dec0 q) (dec1 q)=none
    · have hhas:Maps.has D (kP d0 d1)=false:=by rw [m2,←hd0,←hd1,hf];rfl
      have HEND:Hid (∀ W2 W3,Below Wb.heap.size Wb W2→W3.ownsMap Tryz.prog 131 (plainElem (H:=Value) Tryz.prog 3) (w.heap.size+3) (n+1) (D.put (kP d0 d1) (.lit (.int .i64 s.a)))→W2.grownBy W3 (some (w.heap.size+3))→Kept (PrA w.heap.size) Wb W3∧PrI w b (sp 0) ps (pre ++ [(s,q)]) W3):=Lib.hid (by
       intro W2 W3 hb2 ho3 hg3
       obtain⟨om,hom,hcm⟩:=map_obj (HOW.out W2 hb2)
       have hr3:∀ r,some (w.heap.size+3)=some r→(0≤r∧r<0)∨(0≤r∧∃ o:Obj,W2.heap[r]? = some o∧o.isCells=false):=fun r e=>by cases e;exact .inr ⟨Nat.zero_le _,om,hom,hcm⟩
       refine⟨(Kept.of_below hb2).trans (kept_grown hg3 (fun k hk e=>hk.2.2 (by injection e))),n+1,_,out ++ [(q.a,dec0 q,dec1 q)],⟨?_,?_,?_⟩,⟨ho3,?_⟩,prB_abide (B:=0) _ _ () W2 W3 _ (HFA.out W2 hb2).2.1 hg3 hr3,?_⟩
       · rw [List.length_append];rw [mkp_add hid hf] at hmk;exact hmk
       · simp;omega
       · simp;omega
       · rw [hi.1,←hd0,←hd1];exact mkIs_put hown.isMap hw0 hw1 hM hf
       · exact (hbe.trans (hb2.mono hbe.size)).grown hg3 (by have:=hbe.size;have:=hb2.size;omega) (fun r e=>by injection e with e;omega))
      have HWA:=Lib.hid hwa
      have HN:Hid (n<maxLen):=Lib.hid (by unfold maxLen;omega)
      clear hmk hn ho hown hM hB hbe hi hbx hnx hdr hPF hs hq hqa hwa hid hdt hlen2 hdm hdp hcc q0 q1 hw0 hw1 m1 m2 hf hd0 hd1 k4
      gi_wp2_with (refine⟨trivial,?_⟩;gi_at_call 124;refine (CallsIn.inRound lq (callsIn_wide.2 c99)).mono ?_;rintro e W1 ⟨rfl,hb1⟩;obtain⟨⟨⟨r5,r0⟩,⟨t0,t1⟩,r4⟩,HB1,l1,l2,l3⟩:=HFA.out W1 hb1)
      have r5d:W1.drew.cell? ⟨b',5,none⟩=some (.slice (some ⟨b2,off,none⟩) 2 s.dc):=r5
      have t0d:W1.drew.cell? ⟨b2,off,none⟩=some (.int .i64 d0):=t0
      have t1d:W1.drew.cell? ⟨b2,off+1,none⟩=some (.int .i64 d1):=t1
      have n1:¬b'=W1.heap.size:=by omega
      have n2:¬W1.heap.size=b':=by omega
      have n3:¬b2=W1.heap.size:=by omega
      have n4:¬W1.heap.size=b2:=by omega
      have nn1:=World.new_ne W1 ⟨b',5,none⟩ r5
      have nn2:=World.new_ne W1 ⟨b2,off,none⟩ t0
      have nn3:=World.new_ne W1 ⟨b2,off+1,none⟩ t1
      refine in_round_held (fun w'=>w'.cell? ⟨b',5,none⟩=some (.slice (some ⟨b2,off,none⟩) 2 s.dc)∧w'.cell? ⟨b2,off,none⟩=some (.int .i64 d0)∧w'.cell? ⟨b2,off+1,none⟩=some (.int .i64 d1)) (by kernel_rfl) (by kernel_rfl) (by first | exact⟨r5d,t0d,t1d⟩ | (dsimp only;exact⟨r5d,t0d,t1d⟩)) (fun hHeld=>?_)
      refine rh_take (i:=0) (v:=?_) rfl (by kernel_rfl) (by kernel_rfl) (by kernel_rfl) (by rfl) ?_ (by assumption) ?_
      rotate_left
      · (intro w hSw;(try dsimp only at hSw);go_simp;try with_reducible rfl)
      try simp only [Act.put,List.setIfInBounds_toArray,List.set_cons_zero,List.set_cons_succ]
      refine rh_take (i:=1) (v:=?_) rfl (by kernel_rfl) (by kernel_rfl) (by kernel_rfl) (by rfl) ?_ (by assumption) ?_
      rotate_left
      · (intro w hSw;(try dsimp only at hSw);go_simp;try with_reducible rfl)
      try simp only [Act.put,List.setIfInBounds_toArray,List.set_cons_zero,List.set_cons_succ]
      refine rh_take (i:=2) (v:=?_) rfl (by kernel_rfl) (by kernel_rfl) (by kernel_rfl) (by rfl) ?_ (by assumption) ?_
      rotate_left
      · (intro w hSw;(try dsimp only at hSw);go_simp;try with_reducible rfl)
      try simp only [Act.put,List.setIfInBounds_toArray,List.set_cons_zero,List.set_cons_succ]
      refine rh_take (i:=3) (v:=?_) rfl (by kernel_rfl) (by kernel_rfl) (by kernel_rfl) (by rfl) ?_ (by assumption) ?_
      rotate_left
      · (intro w hSw;(try dsimp only at hSw);go_simp;try with_reducible rfl)
      try simp only [Act.put,List.setIfInBounds_toArray,List.set_cons_zero,List.set_cons_succ]
      refine rh_take (i:=4) (v:=?_) rfl (by kernel_rfl) (by kernel_rfl) (by kernel_rfl) (by rfl) ?_ (by assumption) ?_
      rotate_left
      · (intro w hSw;(try dsimp only at hSw);go_simp;try with_reducible rfl)
      try simp only [Act.put,List.setIfInBounds_toArray,List.set_cons_zero,List.set_cons_succ]
      refine rh_take (i:=5) (v:=?_) rfl (by kernel_rfl) (by kernel_rfl) (by kernel_rfl) (by rfl) ?_ (by assumption) ?_
      rotate_left
      · (intro w hSw;(try dsimp only at hSw);go_simp;try with_reducible rfl)
      try simp only [Act.put,List.setIfInBounds_toArray,List.set_cons_zero,List.set_cons_succ]
      refine rh_take (i:=6) (v:=?_) rfl (by kernel_rfl) (by kernel_rfl) (by kernel_rfl) (by rfl) ?_ (by assumption) ?_
      rotate_left
      · (intro w hSw;(try dsimp only at hSw);go_simp;try with_reducible rfl)
      try simp only [Act.put,List.setIfInBounds_toArray,List.set_cons_zero,List.set_cons_succ]
      refine rh_take (i:=7) (v:=?_) rfl (by kernel_rfl) (by kernel_rfl) (by kernel_rfl) (by rfl) ?_ (by assumption) ?_
      rotate_left
      · (intro w hSw;(try dsimp only at hSw);go_simp;try with_reducible rfl)
      try simp only [Act.put,List.setIfInBounds_toArray,List.set_cons_zero,List.set_cons_succ]
      refine rh_take (i:=8) (v:=?_) rfl (by kernel_rfl) (by kernel_rfl) (by kernel_rfl) (by rfl) ?_ (by assumption) ?_
      rotate_left
      · (intro w hSw;(try dsimp only at hSw);go_simp;try with_reducible rfl)
      try simp only [Act.put,List.setIfInBounds_toArray,List.set_cons_zero,List.set_cons_succ]
      refine rh_step (i:=9) rfl (by kernel_rfl) (by rfl) (fun K hK=>?_)
      go_simp
      refine hK.out _ _ ?_ (fun hHeld=>?_)
      · (try dsimp only)
        go_keep
      clear hK K
      try simp only [Act.put,List.setIfInBounds_toArray,List.set_cons_zero,List.set_cons_succ]
      refine rh_step (i:=10) rfl (by kernel_rfl) (by rfl) (fun K hK=>?_)
      go_simp
      refine hK.out _ _ ?_ (fun hHeld=>?_)
      · (try dsimp only)
        go_keep
      clear hK K
      try simp only [Act.put,List.setIfInBounds_toArray,List.set_cons_zero,List.set_cons_succ]
      refine wpAnyH_done (by kernel_rfl) ?_ _
      show OnlyN _ .normal _ _
      dsimp only [OnlyN]
      obtain⟨W2,hW2⟩:∃ W2,(W1.alloc (Obj.cells #[.int .i64 d0,.int .i64 d1] 131)).drew=W2:=⟨_,rfl⟩
      have hb2':Below Wb.heap.size Wb W2:=hW2▸below_drew (hb1.alloc hb1.size _)
      have v0:W2.cell? ⟨W1.heap.size,0,none⟩=some (.int .i64 d0):=by rw [←hW2];show (W1.alloc _).cell? _=_;rw [new_at _ _ _ _ _ rfl];rfl
      have v1:W2.cell? ⟨W1.heap.size,1,none⟩=some (.int .i64 d1):=by rw [←hW2];show (W1.alloc _).cell? _=_;rw [new_at _ _ _ _ _ rfl];rfl
      obtain⟨⟨⟨-,x0⟩,-,x4⟩,HB2,-,-,x3⟩:=HFA.out W2 hb2'
      obtain⟨k6,hk6⟩:∃ k,W1.heap.size=k:=⟨_,rfl⟩
      rw [hW2,hk6]
      rw [hk6] at v0 v1
      clear hW2 hk6 r5 r0 t0 t1 r4 HB1 l1 l2 l3 r5d t0d t1d n1 n2 n3 n4 nn1 nn2 nn3 hb1 HFA HB2 c99
      gi_wp2_with (first
       | (gi_at_lookup;refine wpListIn_lookup_own_ok_int W2 rfl _ _ _ rfl 131 3 .i64 pairK Tryz.underlying77 Tryz.underlying3 (Z3 W2) (w.heap.size+3) n D rfl (HOW.out W2 hb2') _ (kP d0 d1) rfl HK.out ?_;intro c0 hc0 hw0;simp only [hhas])
       | (gi_at_mapUpdate;refine wpListIn_mapUpdate_own W2 rfl _ _ _ 77 rfl 131 3 pairK Tryz.underlying77 (plainElem (H:=Value) Tryz.prog 3) (w.heap.size+3) n D rfl (HOW.out W2 hb2') HN.out _ _ (kP d0 d1) rfl rfl HK.out (.lit (.int .i64 s.a)) [] (plainElem_int Tryz.underlying3 HWA.out) ?_;intro W3 ho3 hg3;have HR:=Lib.hid (HEND.out W2 W3 hb2' ho3 hg3);clear ho3 hg3))
      exact HR.out
    · have hhas:Maps.has D (kP d0 d1)=true:=by
       rw [m2,←hd0,←hd1]
       cases hx:findM out (dec0 q) (dec1 q) with
       | none=>exact absurd hx hf
       | some v=>rfl
      have HEND:Hid (∀ W2,Below Wb.heap.size Wb W2→Kept (PrA w.heap.size) Wb ((W2.setCell ⟨w.heap.size+1,0,none⟩ (.map none)).setCell ⟨w.heap.size+1+1,0,none⟩ (.int .i64 15))∧PrX w b (sp 0) ps .ret (pre ++ [(s,q)]) ((W2.setCell ⟨w.heap.size+1,0,none⟩ (.map none)).setCell ⟨w.heap.size+1+1,0,none⟩ (.int .i64 15))):=Lib.hid (by
       intro W2 hb2
       have hp2:=(HFA.out W2 hb2).2.1
       have hm1:mkP (sp 0) ps [] ps=none:=by rw [mkp_twice hid hf] at hmk;exact hmk.symm
       refine⟨((Kept.of_below hb2).trans (Kept.setCell W2 (w.heap.size+1) _ (fun h=>h.1 rfl))).trans (Kept.setCell _ (w.heap.size+1+1) _ (fun h=>h.2.1 rfl)),⟨rfl,hm1⟩,prB_set hp2,?_⟩
       exact prset_below (hbe.trans (hb2.mono hbe.size)))
      clear hmk hn ho hown hM hB hbe hi hbx hnx hdr hPF hs hq hqa hwa hid hdt hlen2 hdm hdp hcc q0 q1 hw0 hw1 m1 m2 hf hd0 hd1 k4
      gi_wp2_with (refine⟨trivial,?_⟩;gi_at_call 124;refine (CallsIn.inRound lq (callsIn_wide.2 c99)).mono ?_;rintro e W1 ⟨rfl,hb1⟩;obtain⟨⟨⟨r5,r0⟩,⟨t0,t1⟩,r4⟩,HB1,l1,l2,l3⟩:=HFA.out W1 hb1)
      have r5d:W1.drew.cell? ⟨b',5,none⟩=some (.slice (some ⟨b2,off,none⟩) 2 s.dc):=r5
      have t0d:W1.drew.cell? ⟨b2,off,none⟩=some (.int .i64 d0):=t0
      have t1d:W1.drew.cell? ⟨b2,off+1,none⟩=some (.int .i64 d1):=t1
      have n1:¬b'=W1.heap.size:=by omega
      have n2:¬W1.heap.size=b':=by omega
      have n3:¬b2=W1.heap.size:=by omega
      have n4:¬W1.heap.size=b2:=by omega
      have nn1:=World.new_ne W1 ⟨b',5,none⟩ r5
      have nn2:=World.new_ne W1 ⟨b2,off,none⟩ t0
      have nn3:=World.new_ne W1 ⟨b2,off+1,none⟩ t1
      refine in_round_held (fun w'=>w'.cell? ⟨b',5,none⟩=some (.slice (some ⟨b2,off,none⟩) 2 s.dc)∧w'.cell? ⟨b2,off,none⟩=some (.int .i64 d0)∧w'.cell? ⟨b2,off+1,none⟩=some (.int .i64 d1)) (by kernel_rfl) (by kernel_rfl) (by first | exact⟨r5d,t0d,t1d⟩ | (dsimp only;exact⟨r5d,t0d,t1d⟩)) (fun hHeld=>?_)
      refine rh_take (i:=0) (v:=?_) rfl (by kernel_rfl) (by kernel_rfl) (by kernel_rfl) (by rfl) ?_ (by assumption) ?_
      rotate_left
      · (intro w hSw;(try dsimp only at hSw);go_simp;try with_reducible rfl)
      try simp only [Act.put,List.setIfInBounds_toArray,List.set_cons_zero,List.set_cons_succ]
      refine rh_take (i:=1) (v:=?_) rfl (by kernel_rfl) (by kernel_rfl) (by kernel_rfl) (by rfl) ?_ (by assumption) ?_
      rotate_left
      · (intro w hSw;(try dsimp only at hSw);go_simp;try with_reducible rfl)
      try simp only [Act.put,List.setIfInBounds_toArray,List.set_cons_zero,List.set_cons_succ]
      refine rh_take (i:=2) (v:=?_) rfl (by kernel_rfl) (by kernel_rfl) (by kernel_rfl) (by rfl) ?_ (by assumption) ?_
      rotate_left
      · (intro w hSw;(try dsimp only at hSw);go_simp;try with_reducible rfl)
      try simp only [Act.put,List.setIfInBounds_toArray,List.set_cons_zero,List.set_cons_succ]
      refine rh_take (i:=3) (v:=?_) rfl (by kernel_rfl) (by kernel_rfl) (by kernel_rfl) (by rfl) ?_ (by assumption) ?_
      rotate_left
      · (intro w hSw;(try dsimp only at hSw);go_simp;try with_reducible rfl)
      try simp only [Act.put,List.setIfInBounds_toArray,List.set_cons_zero,List.set_cons_succ]
      refine rh_take (i:=4) (v:=?_) rfl (by kernel_rfl) (by kernel_rfl) (by kernel_rfl) (by rfl) ?_ (by assumption) ?_
      rotate_left
      · (intro w hSw;(try dsimp only at hSw);go_simp;try with_reducible rfl)
      try simp only [Act.put,List.setIfInBounds_toArray,List.set_cons_zero,List.set_cons_succ]
      refine rh_take (i:=5) (v:=?_) rfl (by kernel_rfl) (by kernel_rfl) (by kernel_rfl) (by rfl) ?_ (by assumption) ?_
      rotate_left
      · (intro w hSw;(try dsimp only at hSw);go_simp;try with_reducible rfl)
      try simp only [Act.put,List.setIfInBounds_toArray,List.set_cons_zero,List.set_cons_succ]
      refine rh_take (i:=6) (v:=?_) rfl (by kernel_rfl) (by kernel_rfl) (by kernel_rfl) (by rfl) ?_ (by assumption) ?_
      rotate_left
      · (intro w hSw;(try dsimp only at hSw);go_simp;try with_reducible rfl)
      try simp only [Act.put,List.setIfInBounds_toArray,List.set_cons_zero,List.set_cons_succ]
      refine rh_take (i:=7) (v:=?_) rfl (by kernel_rfl) (by kernel_rfl) (by kernel_rfl) (by rfl) ?_ (by assumption) ?_
      rotate_left
      · (intro w hSw;(try dsimp only at hSw);go_simp;try with_reducible rfl)
      try simp only [Act.put,List.setIfInBounds_toArray,List.set_cons_zero,List.set_cons_succ]
      refine rh_take (i:=8) (v:=?_) rfl (by kernel_rfl) (by kernel_rfl) (by kernel_rfl) (by rfl) ?_ (by assumption) ?_
      rotate_left
      · (intro w hSw;(try dsimp only at hSw);go_simp;try with_reducible rfl)
      try simp only [Act.put,List.setIfInBounds_toArray,List.set_cons_zero,List.set_cons_succ]
      refine rh_step (i:=9) rfl (by kernel_rfl) (by rfl) (fun K hK=>?_)
      go_simp
      refine hK.out _ _ ?_ (fun hHeld=>?_)
      · (try dsimp only)
        go_keep
      clear hK K
      try simp only [Act.put,List.setIfInBounds_toArray,List.set_cons_zero,List.set_cons_succ]
      refine rh_step (i:=10) rfl (by kernel_rfl) (by rfl) (fun K hK=>?_)
      go_simp
      refine hK.out _ _ ?_ (fun hHeld=>?_)
      · (try dsimp only)
        go_keep
      clear hK K
      try simp only [Act.put,List.setIfInBounds_toArray,List.set_cons_zero,List.set_cons_succ]
      refine wpAnyH_done (by kernel_rfl) ?_ _
      show OnlyN _ .normal _ _
      dsimp only [OnlyN]
      obtain⟨W2,hW2⟩:∃ W2,(W1.alloc (Obj.cells #[.int .i64 d0,.int .i64 d1] 131)).drew=W2:=⟨_,rfl⟩
      have hb2':Below Wb.heap.size Wb W2:=hW2▸below_drew (hb1.alloc hb1.size _)
      have v0:W2.cell? ⟨W1.heap.size,0,none⟩=some (.int .i64 d0):=by rw [←hW2];show (W1.alloc _).cell? _=_;rw [new_at _ _ _ _ _ rfl];rfl
      have v1:W2.cell? ⟨W1.heap.size,1,none⟩=some (.int .i64 d1):=by rw [←hW2];show (W1.alloc _).cell? _=_;rw [new_at _ _ _ _ _ rfl];rfl
      obtain⟨⟨⟨-,x0⟩,-,x4⟩,HB2,-,-,x3⟩:=HFA.out W2 hb2'
      have HE2:=Lib.hid (HEND.out W2 hb2')
      obtain⟨⟨u1,u2⟩,⟨u3,u4⟩⟩:=And.intro HB2.rm HB2.re
      have HOW2:=Lib.hid (HOW.out W2 hb2')
      obtain⟨k6,hk6⟩:∃ k,W1.heap.size=k:=⟨_,rfl⟩
      rw [hW2,hk6]
      rw [hk6] at v0 v1
      clear hW2 hk6 r5 r0 t0 t1 r4 HB1 l1 l2 l3 r5d t0d t1d n1 n2 n3 n4 nn1 nn2 nn3 hb1 HFA HB2 c99 HOW HEND
      gi_wp2_with (gi_at_lookup;refine wpListIn_lookup_own_ok_int W2 rfl _ _ _ rfl 131 3 .i64 pairK Tryz.underlying77 Tryz.underlying3 (Z3 W2) (w.heap.size+3) n D rfl HOW2.out _ (kP d0 d1) rfl HK.out ?_;intro c0 hc0 hw0;simp only [hhas])
      exact HE2.out
 case done=>
  rintro D xs W3 hD hxs ⟨n,Dm,out,⟨hmk,hn,ho⟩,⟨hown,hM⟩,hB,hbe⟩ hKD
  have hsz:=HSZ.out
  have hlx:xs.length=ps.length:=by rw [←hxs,List.length_map]
  rw [hlx,List.drop_length] at hmk
  have hmk':mkP (sp 0) ps [] ps=some out:=hmk.symm
  obtain⟨W4,hW4⟩:∃ W4,(W3.setCell ⟨w.heap.size+1,0,none⟩ (.map (some (w.heap.size+3)))).setCell ⟨w.heap.size+1+1,0,none⟩ (.int .i64 0)=W4:=⟨_,rfl⟩
  have hK4:W4.heap[D]? = some (.deferred (some [])):=by rw [←hW4,prset_other (by omega) (by omega)];exact hKD
  have hB4:PrB w.heap.size b W4 (.map (some (w.heap.size+3))) 0:=hW4▸prB_set hB
  have hw4:Below w.heap.size w W4:=hW4▸prset_below hbe
  have ho4:W4.ownsMap Tryz.prog 131 (plainElem (H:=Value) Tryz.prog 3) (w.heap.size+3) n Dm:=by
   rw [←hW4]
   exact (hown.kept (grownBy_setCell' W3 (w.heap.size+1) _) (by simp)).kept (grownBy_setCell' _ (w.heap.size+1+1) _) (by simp)
  have ho5:=ho4.kept (grownBy_putObj' W4 D (.deferred none)) (by simp;omega)
  have HP:Hid (PairsPost (sp 0) ps w (.returned (.tuple #[.map (some (w.heap.size+3)),.int .i64 0])) (W4.putObj D (.deferred none))):=Lib.hid ⟨hw4.trans (belowK_b (w:=w) (Nat.le_refl _) W4 D _ _ (by omega) hK4 rfl rfl),.inl ⟨out,_,n,Dm,hmk',rfl,ho5,hM⟩⟩
  obtain⟨-,⟨u1,u2⟩,⟨u3,u4⟩,u5⟩:=hB
  have HH:=Lib.hid (And.intro hK4 hB4)
  have HW:=Lib.hid hW4
  clear hmk hmk' hn ho hown hM hbe hxs hlx hK4 hB4 hw4 ho4 ho5 hKD hW4
  gi_wp2
  rw [HW.out]
  exact leave74 rfl rfl HH.out.1 HH.out.2 HP.out
 case stop=>
  rintro D c2 pre W3 hD hpre ⟨⟨rfl,hno⟩,hB,hbe⟩ hKD
  have HP:Hid (PairsPost (sp 0) ps w (.returned (.tuple #[.map none,.int .i64 15])) (W3.putObj D (.deferred none))):=Lib.hid ⟨hbe.trans (belowK_b (w:=w) (Nat.le_refl _) W3 D _ _ (by have:=HSZ.out;omega) hKD rfl rfl),.inr ⟨hno,rfl⟩⟩
  have HBB:=Lib.hid hB
  clear hno hB hbe hpre
  gi_wp2
  exact leave74 rfl rfl hKD HBB.out HP.out
end Go.Proofs.YtbkgbhlmeeodgaaGreatDoor
