/- A part. -/
import Derived.Test.YtbkgbhlmeeodgaaGreatDoorQc21
namespace Go.Proofs.YtbkgbhlmeeodgaaGreatDoor
open Go.RowKit Go.Shelf
attribute [local go_sem] Oper.semAt_some
def firstK (w:World):World:=((((w.alloc (.map #[] 0)).alloc (.map #[] 0)).alloc (.map #[] 0)).alloc (.cells #[.map (some w.heap.size),.map (some (w.heap.size+1)),.map (some (w.heap.size+1+1))] 196)).alloc (.cells #[.slice none 0 0] 25)
theorem firstK_size (w:World):(firstK w).heap.size=w.heap.size+5:=by unfold firstK;simp
theorem firstK_below (w:World):Below w.heap.size w (firstK w):=by
 unfold firstK
 exact (((((Below.refl _ _).alloc (Nat.le_refl _) _).alloc (by simp) _).alloc (by simp;omega) _).alloc (by simp;omega) _).alloc (by simp;omega) _
theorem ck_start (w:World) (A:Option Addr) (n c:Nat) (dec:Int→List Int):CkS w.heap.size (w.heap.size+8) dec [] ((firstK w).alloc (.cells #[.slice A n c] 84)) 0 0 (.map []) (.map []) (fun _=>.slice none 0 0) (.slice none 0 0):=by
 have m1:=World.ownsMap_made w Tryz.prog (3) Cf.tokE
 have m2:=World.ownsMap_made (w.alloc (.map #[] 0)) Tryz.prog (3) Cf.tokE
 have m3:=World.ownsMap_made ((w.alloc (.map #[] 0)).alloc (.map #[] 0)) Tryz.prog (3) (plainElem (H:=Value) Tryz.prog (3))
 rw [World.size_alloc] at m2
 rw [World.size_alloc,World.size_alloc] at m3
 have c4:∀ i,(firstK w).cell? ⟨w.heap.size+3,i,none⟩=(#[.map (some w.heap.size),.map (some (w.heap.size+1)),.map (some (w.heap.size+1+1))]:Array Value)[i]?:=fun i=>by
  unfold firstK
  rw [old_at _ _ _ _ (by simp),new_at _ _ _ _ _ (by simp)]
 have c5:∀ i,(firstK w).cell? ⟨w.heap.size+4,i,none⟩=(#[.slice none 0 0]:Array Value)[i]?:=fun i=>by
  unfold firstK
  rw [new_at _ _ _ _ _ (by simp)]
 have f5:∀ i,(firstK w).frozen? ⟨w.heap.size+4,i,none⟩=false:=fun i=>by
  unfold firstK
  exact new_fro _ _ _ _ _ (by simp)
 have hs:=firstK_size w
 refine⟨⟨(((((m1.alloc _).alloc _).alloc _).alloc _).alloc _),fun c=>rfl,rfl,List.nodup_nil⟩,fun c h=>(by cases h),⟨((((m2.alloc _).alloc _).alloc _).alloc _),fun c=>rfl,fun c=>World.ownsInts_nil _ _ _ _,fun _ _ _=>.inl rfl⟩,⟨(((m3.alloc _).alloc _).alloc _),fun c=>rfl⟩,World.ownsRow_nil _ _ _ _,fun _=>.inl rfl,⟨?_,?_,?_⟩,⟨?_,?_⟩,Nat.le_refl _,Nat.le_refl _⟩
 · rw [old_at _ _ _ _ (by omega),c4];rfl
 · rw [old_at _ _ _ _ (by omega),c4];rfl
 · rw [old_at _ _ _ _ (by omega),c4];rfl
 · rw [old_at _ _ _ _ (by omega),c5];rfl
 · rw [old_fro _ _ _ _ (by omega)];exact f5 0
theorem keys_dec {ps:List Uc.Pr} (hg:Uc.Good ps) {r:Uc.Pr} (hr:r∈ps):dcf ps r.a=intsN r.dec:=by
 unfold dcf intsN
 rw [pat_row hg r hr]
theorem rnf_of {ps:List Uc.Pr} (hg:Uc.Good ps) (hf:FlatR ps) (hn:ps.length≤2000) (hsm:∀ r∈ps,∀ d∈r.dec,d≤1114111):RnF (dcf ps) (keysL ps) (usL ps):=by
 have hkey:∀ c,dcf ps c ≠ []→∃ r∈ps,r.dec ≠ []∧r.a=c:=fun c hc=>by
  have hd:(Uc.patOf ps c).dec ≠ []:=fun e=>hc (by unfold dcf;rw [e];rfl)
  obtain⟨h1,h2,h3⟩:=pat_mem hd
  have:=hf _ h1 hd
  exact⟨_,h1,hd,by omega⟩
 have hwd:∀ c,∀ d∈dcf ps c,(Lit.int .i64 d).wf=true:=fun c d hd=>by
  obtain⟨r,hr,-,rfl⟩:=hkey c (List.ne_nil_of_mem hd)
  rw [keys_dec hg hr] at hd
  obtain⟨n,hn,rfl⟩:=List.mem_map.1 hd
  exact wf_nat n (by have:=hsm r hr n hn;omega)
 refine⟨fun c hc=>keys_mem.2 (hkey c hc),fun c hc=>?_,fun c x hx hd=>?_,fun c=>Nat.le_trans (dcf_two hg c) (by omega),hwd,fun c hc=>?_,fun c=>?_⟩
 · obtain⟨r,hr,hd,rfl⟩:=keys_mem.1 hc
   rw [keys_dec hg hr]
   exact fun e=>hd (List.map_eq_nil_iff.1 e)
 · obtain⟨r,hr,-,rfl⟩:=keys_mem.1 hx
   rw [keys_dec hg hr] at hd
   exact us_mem hr hd
 · obtain⟨r,hr,-,rfl⟩:=keys_mem.1 hc
   obtain⟨h1,h2,h3,-⟩:=hg.2 r hr
   exact WalkArith.wf_i64 (by omega)
 · have:=us_len (l:=ps) (us:=fun _=>[]) (N:=0) (fun r hr=>(hg.2 r hr).2.2.2) (fun _=>Nat.le_refl _) c
   have e:usL ps c=ps.foldl stepU (fun _=>[]) c:=rfl
   rw [e];omega
theorem toDo_le {us:Int→List Int} {N:Nat} (h:∀ c,(us c).length≤N):∀ O:List Int,toDo us O≤O.length*N
 | []=>Nat.zero_le _
 | c::l=>by rw [toDo,List.length_cons,Nat.succ_mul];have:=h c;have:=toDo_le h l;omega
def ckV (ps:List Uc.Pr):Int:=if cycB ps=true then 17 else if longB ps=true then 36 else 0
theorem row_base {W:World} {base base':Nat} {e:TypeId} {s n:Nat} {v:Value} {xs:List Value} (h:W.ownsRow base e s v n xs) (hb:base'≤base):W.ownsRow base' e s v n xs:=by
 refine⟨h.1,?_⟩
 rcases h.2 with hn | ⟨g,cap,cur,e1,e2,rest⟩
 · exact .inl hn
 · exact .inr ⟨g,cap,cur,e1,Nat.le_trans hb e2,rest⟩
theorem rn_first {H:Nat} {ps:List Uc.Pr} {W:World} {n1 n2:Nat} {D1 D2:DataW Value} {val:Int→Value} {wv:Value} (hR:RnF (dcf ps) (keysL ps) (usL ps)) (hn:ps.length≤2000) (h:CkS H (H+8) (dcf ps) ps W n1 n2 D1 D2 val wv) (hlow:∀ c,(usL ps c).length≤4000):
 RnB W (H+3) H (H+1) (H+2) (H+5) H∧RnS W (H+3) H (H+1) (H+2) (H+5) H n2 100000000 100000 D2 (dcf ps) (keysL ps) (usL ps) val W n1 0 D1 (.map []) (keysL ps) (keysL ps) (fun _=>0) 0 wv:=by
 have h4:=World.block_lt_of_cell? W _ h.wbx.1
 have hk:=keys_len ps
 have htd:=toDo_le hlow (keysL ps)
 have hm:(keysL ps).length*4000≤2000*4000:=Nat.mul_le_mul_right _ (by omega)
 refine⟨⟨by omega,by omega,by omega,by omega,⟨⟨by omega,by omega,by omega⟩,by omega,by omega,by omega⟩,⟨by omega,by omega,by omega⟩,h4⟩,⟨h.f1,h.a1.no (fun k _ e=>.inr (.inl e)),⟨h.f2.own,h.f2.at2,fun c=>⟨row_base (h.f2.row c).1 (by omega),(h.f2.row c).2⟩,h.f2.apt⟩,h.sep,h.f3,row_base h.row (by omega),fi_start hR.all,h.cel,hR.wfk,by omega,by omega,Below.refl _ _,fun k o hk _ _ _=>hk⟩⟩
theorem ck_cyc {ps:List Uc.Pr} {O:List Int} {sz:Int→Nat} {lg:Nat} (hg:Uc.Good ps) (hn:ps.length≤2000) (hR:RnF (dcf ps) (keysL ps) (usL ps)) (h:FI (dcf ps) (keysL ps) O [] sz lg):(0<O.length↔cycB ps=true):=by
 rw [cyc_iff hg hn,List.length_pos_iff,fi_end h hR.all]
 constructor
 · rintro⟨c,hc,hp⟩
   obtain⟨r,hr,-,rfl⟩:=keys_mem.1 hc
   exact⟨r,hr,hp⟩
 · rintro⟨r,hr,hp⟩
   exact⟨r.a,hR.all _ hp.has,hp⟩
theorem ck_long {ps:List Uc.Pr} {sz:Int→Nat} {lg:Nat} (hg:Uc.Good ps) (hf:FlatR ps) (hn:ps.length≤2000) (h:FI (dcf ps) (keysL ps) [] [] sz lg) (hc:cycB ps=false):(4<lg↔longB ps=true):=by
 rw [long_iff hg,fi_long h (no_cyc hg hf hn hc)]
 constructor
 · rintro⟨c,hc,hl⟩
   obtain⟨r,hr,-,rfl⟩:=keys_mem.1 hc
   exact⟨r,hr,hl⟩
 · rintro⟨r,hr,hl⟩
   refine⟨r.a,keys_mem.2 ⟨r,hr,fun e=>?_,rfl⟩,hl⟩
   have hd:dcf ps r.a = []:=by rw [keys_dec hg hr,e];rfl
   have:cnt (dcf ps) ps.length r.a=1:=by
    cases ps.length with
    | zero=>rfl
    | succ n=>rw [cnt,if_pos hd]
   omega
theorem next_key {ps pre:List Uc.Pr} {p:Uc.Pr} (hg:Uc.Good ps) (h:pre ++ [p] <+: ps):p∈ps∧p.a∉keysL pre∧∀ r∈pre,r∈ps:=by
 obtain⟨r,rfl⟩:=h
 have hm:p∈pre ++ [p]++r:=by simp
 have hp:=List.pairwise_append.1 (List.pairwise_append.1 hg.1).1
 refine⟨hm,fun hk=>?_,fun q hq=>by simp [hq]⟩
 obtain⟨q,hq,-,e⟩:=keys_mem.1 hk
 have h1:=hp.2.2 q hq p (List.mem_singleton.2 rfl)
 have h2:=(hg.2 q (by simp [hq])).2.1
 omega
theorem ckv_is {ps:List Uc.Pr} {k lg:Nat} (h:(0<k↔cycB ps=true)∧(k=0→(4<lg↔longB ps=true))):ckV ps=if 0<k then 17 else if 4<lg then 36 else 0:=by
 unfold ckV
 by_cases hk:0<k
 · rw [if_pos (h.1.1 hk),if_pos hk]
 · rw [if_neg (fun e=>hk (h.1.2 e)),if_neg hk]
   have h2:=h.2 (by omega)
   by_cases hl:4<lg
   · rw [if_pos (h2.1 hl),if_pos hl]
   · rw [if_neg (fun e=>hl (h2.2 e)),if_neg hl]
theorem leave73 {w Wf:World} {D m:Nat} {tmps:Array Value} {e:Int} (ht:tmps[2]?.getD undef=.int .i64 e) (hk:Wf.heap[D]? = some (.deferred (some []))) (hd:w.heap.size≤D) (hb:Below w.heap.size w Wf) {v:Int} (he:e=v):
 LeavesInM Fence.wide m Tryz.prog Tryz.f82 tmps (fun e w'=>e=.returned (.int .i64 v)∧Below w.heap.size w w') [{ target:=.collected D,args:=#[] }] .returning Wf:=by
 subst he
 refine⟨by simp,.inl ⟨_,_,rfl,run_takeDeferred hk,?_⟩⟩
 refine⟨.int .i64 e,?_,rfl,hb.trans (belowK_b (w:=w) (Nat.le_refl _) _ D _ _ hd hk rfl rfl)⟩
 simp [results,Tryz.results82,go_sem,ht]
set_option maxRecDepth 100000 in
set_option maxHeartbeats 4000000 in
theorem check73 (p A:Option Addr) (c:Nat) (ls:List Uc.Rw) (ps:List Uc.Pr) (w:World) (hT:Uc.TIn w p A c ls) (hI:Uc.Ist w ls ps) (hg:Uc.Good ps) (hf:FlatR ps) (hn:ps.length≤2000) (hsm:∀ r∈ps,∀ d∈r.dec,d≤1114111):
 Calls Tryz.prog 82 #[.pointer p] w fun e w'=>e=.returned (.int .i64 (ckV ps))∧Below w.heap.size w w':=by
 have c30:=callsIn_wide (n:=8) |>.2 (Uc.rows10 p A c ls (firstK w) (hT.below (firstK_below w)))
 have hmk:=@run_makeMap Tryz.prog
 rw [firstK_size] at c30
 unfold firstK at c30
 refine (callsIn_wide (n:=9)).1 ?_
 refine callsIn_of_wp_marks Tryz.func82 rfl trivial ?_ rfl
 simp only [Tryz.ntmps82,List.size_toArray,List.length_cons,List.length_nil,Nat.reduceAdd,Nat.reduceSub,Array.replicate_succ,Array.replicate_zero,List.push_toArray,List.append_toArray,List.nil_append,List.cons_append]
 gi_wp2_with (refine⟨trivial,?_⟩;gi_at_call 80;(with_reducible refine c30.mono ?_);rintro e W5 ⟨rfl,hw5⟩)
 have hs5:W5.heap.size=w.heap.size+6:=by rw [hw5,World.size_alloc];exact congrArg (· + 1) (firstK_size w)
 have hb5:Below w.heap.size w W5:=by rw [hw5];exact (firstK_below w).alloc (by rw [firstK_size];omega) _
 have hS5:=ck_start w A ls.length c (dcf ps)
 have hS5:CkS w.heap.size (w.heap.size+8) (dcf ps) [] W5 0 0 (.map []) (.map []) (fun _=>.slice none 0 0) (.slice none 0 0):=by rw [hw5];exact hS5
 have cr5:W5.cell? ⟨w.heap.size+5,0,none⟩=some (.slice A ls.length c):=by
  rw [hw5]
  show ((firstK w).alloc _).cell? _=_
  rw [new_at _ _ _ _ _ (by rw [firstK_size])]
  rfl
 rw [←hw5]
 clear hw5 c30 hmk
 have hT5:=hT.below hb5
 have hI5:=hI.below hb5
 have hTb:∀ a,p=some a→a.block<w.heap.size:=fun a e=>by
  rcases hT with ⟨h,-⟩ | ⟨b,h,h2,-⟩
  · rw [h] at e;cases e
  · rw [h] at e;cases e;exact h2
 have hA2:0<ls.length→∀ a,A=some a→a.block<w.heap.size:=fun hn a e=>by
  obtain⟨b,off,e',hlt,-⟩:=hT.rat.2 hn
  rw [e] at e';cases e';exact hlt
 have hD2:∀ t∈ls,0<t.dm→∀ a,t.dp=some a→a.block<w.heap.size:=fun t ht hd a e=>by
  obtain⟨q,-,hq⟩:=Uc.ist_mem hI ht
  obtain⟨b,off,e',hlt,-⟩:=hq.2.2.2.2.2.2.2 hd
  rw [e] at e';cases e';exact hlt
 have hq:=Uc.fseq25 8 (w.heap.size+5) ls.length c A ls ps (CkA w.heap.size (w.heap.size+8)) W5 (by omega) (by rw [hI.len];omega) (fun q hq=>by have:=(hg.2 q hq).2.2.2;omega) (by omega) cr5 hT5.rat hI5 (by
  rintro k hk (rfl | ⟨hn,a,e,rfl⟩ | ⟨t,ht,hd,a,e,rfl⟩)
  · exact⟨by omega,by omega,by omega,by omega⟩
  · have:=hA2 hn a e;exact⟨by omega,by omega,by omega,by omega⟩
  · have:=hD2 t ht hd a e;exact⟨by omega,by omega,by omega,by omega⟩)
 rw [hs5] at hq
 have h0:CkI w (w.heap.size+8) (dcf ps) [] W5:=⟨0,0,_,_,_,_,hS5,hb5⟩
 have HQ:=Lib.hid hq
 have H0:=Lib.hid h0
 have HSZ:=Lib.hid hs5
 have HG:=Lib.hid (And.intro hg (And.intro hf (And.intro hn hsm)))
 clear hs5 hb5 hS5 cr5 hT5 hI5 hTb hA2 hD2 hq h0 hT hI hg hf hn hsm
 refine range_nf2 rfl (by omega) rfl trivial (enters_of Tryz.func121 (by kernel_rfl) rfl) HQ.out (Nat.zero_le _) (by have:=HSZ.out;exact⟨by omega,by omega,by omega,by omega⟩) (by have:=HSZ.out;exact⟨by omega,by omega,by omega,by omega⟩) (fun _=>rfl)
  (CkI w (w.heap.size+8) (dcf ps)) (CkY w (w.heap.size+8) (dcf ps)) (fun pre x W0 W h hb hx=>ck_fresh rfl h hb hx) (fun pre x=>cky_abide w _ _ _ pre x (by have:=HSZ.out;omega)) (fun _ _ _=>False) (cki_abide w _ _ _ (by have:=HSZ.out;omega)) (fun _ _ _ _ _ h=>h.elim) H0.out RwBt (fun x b=>rwBt_abide x b _) ?a1 ?assign ?body ?done ?stop
 case assign=>
  rintro lq pre x W' K hi hK
  simp only [Uc.rwArr,Uc.rwV]
  gi_wp2
  obtain⟨b',hb'⟩:∃ b',W'.heap.size=b':=⟨_,rfl⟩
  rw [hb']
  have hbo:∀ o,Below W'.heap.size W' (W'.alloc o):=fun o=>(Below.refl _ _).alloc (Nat.le_refl _) o
  refine hK b' _ (Kept.of_below (hbo _)) ((cky_abide w _ _ _ pre x (Nat.le_refl _)).below (s:=()) hi (hbo _)) ?_
  rw [←hb']
  exact rwBt_new x W'
 case body=>
  rintro lq pre ⟨s,q⟩ b' Wb ⟨n1,n2,D1,D2,val,wv,⟨hS,hbe⟩,⟨hi,hbw⟩,hx⟩ hbx ⟨hnx,hlen⟩
  rw [List.map_append] at hnx
  obtain⟨hg,hf,hn,hsm⟩:=HG.out
  obtain⟨hm,hnk,hpre⟩:=next_key hg hnx
  dsimp only at hi hx
  have hia:s.a=q.a:=hi.1
  have hdm:s.dm=q.dec.length:=hi.2.2.2.2.2.1
  have hpl:(pre.map Prod.snd).length≤2000:=Nat.le_trans (by obtain⟨r,e⟩:=hnx;have:=congrArg List.length e;simp at this ⊢;omega) hn
  obtain⟨-,e0,e1,e2,e3,e4,e5⟩:=id hbx
  dsimp only at e0 e5
  by_cases hp:q.dec = []
  · have h0:s.dm=0:=by rw [hdm,hp];rfl
    rw [h0] at e5
    have HE:Hid (CkI w (w.heap.size+8) (dcf ps) (pre ++ [(s,q)]) Wb):=Lib.hid ⟨n1,n2,D1,D2,val,wv,by rw [List.map_append];exact ck_no hS hp,hbe⟩
    clear hS hbe hi hx hbx hnx hm hnk hpre hia hdm hp h0 hpl hlen e1 e2 e3 e4 hg hf hn hsm
    gi_wp2
    exact⟨Kept.refl _ _,HE.out⟩
  · have hpos:0<s.dm:=by rw [hdm];exact List.length_pos_iff.2 hp
    have hd2:=(hg.2 q hm).2.2.2
    obtain⟨i0,hi0,hz0,hz1,hz2⟩:=info_parts infoI
    have hiv:Vals Wb s.dp s.dm (nums .i64 (intsN q.dec)):=hi.2.2.2.2.2.2
    have hA:∀ a,s.dp=some a→Ofs w.heap.size (w.heap.size+1) val a.block∧a.block<Wb.heap.size:=fun a e=>by
     have h1:=hx a e
     obtain⟨b2,off,e',hlt,-⟩:=hiv.2 hpos
     rw [e] at e';cases e'
     have hge:w.heap.size+8≤b2:=Nat.le_of_not_lt (fun hh=>h1 (.inl hh))
     exact⟨⟨by show b2≠_;omega,by show b2≠_;omega,fun y hy=>h1 (.inr (.inr ⟨y,hy⟩))⟩,hlt⟩
    have hul:=us_len (l:=pre.map Prod.snd) (us:=fun _=>[]) (N:=0) (fun r hr=>(hg.2 r (hpre r hr)).2.2.2) (fun _=>Nat.le_refl _)
    have hqa:=hg.2 q hm
    have hwf:(Lit.int .i64 q.a).wf=true:=WalkArith.wf_i64 (by have:=hqa.1;have:=hqa.2.1;have:=hqa.2.2.1;omega)
    have c97:=add97 (w.heap.size+3) w.heap.size (w.heap.size+1) n1 n2 (w.heap.size+8) w.heap.size s.dm s.dc D1 D2 (usL (pre.map Prod.snd)) val q.a s.dp (intsN q.dec) Wb hS.cel.1 hS.cel.2.1 hS.f1.1 hS.f2 hwf (fun d hd=>by
     obtain⟨n,hn',rfl⟩:=List.mem_map.1 hd
     exact wf_nat n (by have:=hsm q hm n hn';omega)) hiv hA (by omega) (by omega) ⟨by omega,by omega⟩ (by omega) (by omega) hbw (Nat.le_refl _) (by omega) (by omega) (by have:=hS.few.1;omega) (by have:=hS.few.2;omega) (fun d=>by
     have e:usL (pre.map Prod.snd) d=(pre.map Prod.snd).foldl stepU (fun _=>[]) d:=rfl
     have:=hul d;rw [e];omega)
    have d97:Calls Tryz.prog 122 #[.pointer (some ⟨w.heap.size+1+1+1,0,none⟩),.int .i64 s.a,.slice s.dp s.dm s.dc] Wb fun e W1=>e=.returned (.tuple #[])∧Hid (AddPost Wb w.heap.size (w.heap.size+1) (n1+1) n2 (w.heap.size+8) w.heap.size s.dm (D1.put (key q.a) (.held (.slice s.dp s.dm s.dc))) (usL (pre.map Prod.snd)) val q.a (intsN q.dec) (.returned (.tuple #[])) W1∧W1.ownsRow (w.heap.size+8) 3 1 wv (keysL (pre.map Prod.snd)).length (nums .i64 (keysL (pre.map Prod.snd)))) ∧
     (W1.cell? ⟨w.heap.size+1+1+1+1,0,none⟩=some wv∧W1.cell? ⟨b',0,none⟩=some (.int .i64 s.a))∧(W1.frozen? ⟨w.heap.size+1+1+1+1,0,none⟩=false∧w.heap.size+8≤W1.heap.size):=by
     rw [hia]
     refine c97.mono fun e W1 ha=>?_
     obtain⟨rfl,ha'⟩:=ha
     obtain⟨⟨g1,g2,g3⟩,g4,g5⟩:=ck_mid rfl hS hbw hbx ⟨rfl,ha'⟩
     exact⟨rfl,Lib.hid ⟨⟨rfl,ha'⟩,g1⟩,⟨g2,by rw [←hia];exact g4⟩,g3,g5⟩
    have HX:Hid (∀ (W1 W2:World) (v':Value),AddPost Wb w.heap.size (w.heap.size+1) (n1+1) n2 (w.heap.size+8) w.heap.size s.dm (D1.put (key q.a) (.held (.slice s.dp s.dm s.dc))) (usL (pre.map Prod.snd)) val q.a (intsN q.dec) (.returned (.tuple #[])) W1 →
     W2.ownsRow (w.heap.size+8) 3 1 v' ((keysL (pre.map Prod.snd)).length+1) (nums .i64 (keysL (pre.map Prod.snd)) ++ [.int .i64 s.a])→W1.grownBy W2 wv.ownBlock→(∀ k,k<W1.heap.size→v'.ownBlock=some k→wv.ownBlock=some k) →
     (W2.cell? ⟨w.heap.size+1+1+1+1,0,none⟩=some wv∧W2.frozen? ⟨w.heap.size+1+1+1+1,0,none⟩=false)∧Hid (Kept (CkA w.heap.size (w.heap.size+8)) Wb (W2.setCell ⟨w.heap.size+1+1+1+1,0,none⟩ v')∧CkI w (w.heap.size+8) (dcf ps) (pre ++ [(s,q)]) (W2.setCell ⟨w.heap.size+1+1+1+1,0,none⟩ v'))):=Lib.hid (by
     intro W1 W2 v' ha h1 h2 h3
     rw [hia] at h1
     obtain⟨g1,g2,m1,m2,E1,E2,val',g3,g4⟩:=ck_yes rfl hS hbe hbw hp hnk hi (keys_dec hg hm) hd2 (fun c hc=>by
      obtain⟨r,hr,hd,rfl⟩:=keys_mem.1 hc
      rw [keys_dec hg (hpre r hr)]
      exact fun e=>hd (List.map_eq_nil_iff.1 e)) hx ha h1 h2 h3
     exact⟨g1,Lib.hid ⟨g2,m1,m2,E1,E2,val',v',by rw [List.map_append];exact g3,g4⟩⟩)
    have hkl:(keysL (pre.map Prod.snd)).length≤2000:=Nat.le_trans (keys_len _) hpl
    obtain⟨kl,hkl2⟩:∃ x,keysL (pre.map Prod.snd)=x:=⟨_,rfl⟩
    rw [hkl2] at d97 HX hkl
    obtain⟨dm,hdm2⟩:∃ x,s.dm=x:=⟨_,rfl⟩
    obtain⟨dp,hdp2⟩:∃ x,s.dp=x:=⟨_,rfl⟩
    obtain⟨dc,hdc2⟩:∃ x,s.dc=x:=⟨_,rfl⟩
    obtain⟨sa,hsa2⟩:∃ x,s.a=x:=⟨_,rfl⟩
    rw [hdm2,hdp2,hdc2] at d97 HX e5
    rw [hsa2] at d97 HX e0
    rw [hdm2] at hpos
    have HI0:=Lib.hid hi0
    obtain⟨Aw,cw,hwv,-⟩:∃ Aw cw,wv=.slice Aw kl.length cw∧True:=by
     obtain⟨Aw,cw,h,-⟩:=own_vals hS.row
     rw [hkl2] at h
     exact⟨Aw,cw,h,trivial⟩
    subst hwv
    clear hS hbe hi hx hbx hnx hm hnk hpre hia hdm hp hpl hlen e1 e2 e3 e4 hg hf hn hsm hiv hA hul hqa hwf c97 hkl2 hdm2 hdp2 hdc2 hsa2 hd2 hi0
    gi_wp2_with (first
     | (refine⟨trivial,?_⟩;gi_at_call 122;refine (CallsIn.inRound lq (callsIn_wide.2 d97)).mono ?_;rintro e W1 ⟨rfl,HA,⟨r0,r1⟩,r2,r3⟩)
     | (gi_at_builtin;refine Pq.append_lit_at rfl _ _ 25 rfl (w.heap.size+8) 3 i0 (.int .i64 0) 1 8 Tryz.underlying25 HI0.out hz0 hz1 hz2 rfl (by decide) _ _ _ rfl HA.out.2 [.int .i64 sa] rfl (by simp [Value.oneCell']) rfl (by unfold maxLen;omega) (by omega) r3 ?_;intro v' W2 hr2 hg2 hnew;obtain⟨⟨q0,q1⟩,HE⟩:=HX.out W1 W2 v' HA.out.1 hr2 hg2 hnew;obtain⟨Av,cv,rfl,-⟩:=own_vals hr2;clear hr2 hg2 hnew HX))
    exact HE.out
 case done=>
  rintro D xs W3 hD hxs ⟨n1,n2,D1,D2,val,wv,hS,hbe⟩ hKD
  rw [hxs] at hS
  obtain⟨hg,hf,hn,hsm⟩:=HG.out
  have hR:=rnf_of hg hf hn hsm
  obtain⟨hB,hRS⟩:=rn_first hR hn hS (fun c=>by
   have:=us_len (l:=ps) (us:=fun _=>[]) (N:=0) (fun r hr=>(hg.2 r hr).2.2.2) (fun _=>Nat.le_refl _) c
   have e:usL ps c=ps.foldl stepU (fun _=>[]) c:=rfl
   rw [e];omega)
  have c98:=run98 W3 (w.heap.size+3) w.heap.size (w.heap.size+1) (w.heap.size+2) (w.heap.size+5) w.heap.size n2 100000000 100000 D2 (dcf ps) (keysL ps) (usL ps) val n1 0 D1 (.map []) (keysL ps) (keysL ps) (fun _=>0) wv hB hR hRS (by omega) (by omega)
  have hDH:w.heap.size+6≤D:=by have:=HSZ.out;omega
  have d98:Calls Tryz.prog 123 #[.pointer (some ⟨w.heap.size+1+1+1,0,none⟩),wv] W3 fun e W4=>∃ (lg k:Nat),e=.returned (.int .i64 (lg:Nat))∧(W4.cell? ⟨w.heap.size+1+1+1,0,none⟩=some (.map (some w.heap.size))∧∀ ty,(Builtin.len_ #[183] ty #[.map (some w.heap.size)]).run Tryz.prog W4=.ok (.int .i64 (k:Nat)) W4)∧Hid ((W4.heap[D]? = some (.deferred (some []))∧Below w.heap.size w W4)∧((0<k↔cycB ps=true)∧(k=0→(4<lg↔longB ps=true))))∧lg≤5:=by
   refine c98.mono ?_
   rintro e W4 ⟨m1,E1,O,sz,lg,rfl,⟨q1,q2⟩,q3,q4,q5⟩
   refine⟨lg,O.length,rfl,⟨q3,fun ty=>?_⟩,Lib.hid ⟨⟨q5 D _ hKD rfl (by omega) (by omega),hbe.trans (q4.mono (Nat.le_refl _))⟩,ck_cyc hg hn hR q2,fun h0=>?_⟩,q2.lg5⟩
   · rw [←q1.2.2.1];exact q1.1.len Tryz.underlying183 ty
   · obtain rfl:O = []:=List.eq_nil_of_length_eq_zero h0
     have hc:cycB ps=false:=by
      have:=ck_cyc hg hn hR q2
      cases hcc:cycB ps with
      | false=>rfl
      | true=>exact absurd (this.2 hcc) (by simp)
     exact ck_long hg hf hn q2 hc
  obtain⟨w0,w1⟩:=hS.wbx
  have w0':W3.cell? ⟨w.heap.size+1+1+1+1,0,none⟩=some wv:=w0
  obtain⟨Aw,cw,rfl,-⟩:=own_vals hS.row
  obtain⟨kn,hkn⟩:∃ x,(keysL ps).length=x:=⟨_,rfl⟩
  rw [hkn] at w0' d98
  have D98:=callsIn_wide (n:=8) |>.2 d98
  clear hg hf hn hsm hR hB hRS c98 hS hbe hKD hxs w0 w1 hkn d98
  gi_wp2_with (refine⟨trivial,?_⟩;gi_at_call 123;(with_reducible refine D98.mono ?_);rintro e W4 ⟨lg,k,rfl,⟨s0,s1⟩,HE,hlg⟩)
  all_goals
   refine leave73 rfl HE.out.1.1 (by omega) HE.out.1.2 ?_
   rw [ckv_is HE.out.2]
   first
    | (rw [if_pos (by omega)];done)
    | (rw [if_neg (by omega),if_pos (by omega)];done)
    | (rw [if_neg (by omega),if_neg (by omega)];done)
 case stop=>
  rintro D c2 pre W3 hD hpre hx hKD
  exact hx.elim
end Go.Proofs.YtbkgbhlmeeodgaaGreatDoor
