/- A part. -/
import Derived.Test.YtmellioacefjjaaGreatDoorQA12
namespace Go.Proofs.YtmellioacefjjaaGreatDoor
open Go.RowKit
def Chg (B:Nat) (W W':World):Prop:=W'.heap.size=W.heap.size∧∀ k,k≠B→W'.heap[k]? = W.heap[k]?
theorem Chg.cell {B:Nat} {W W':World} (h:Chg B W W') {p:Addr} (hp:p.block≠B):W'.cell? p=W.cell? p:=by
 have e:=h.2 p.block hp
 unfold World.cell?
 rw [e]
theorem chg_set (W:World) (B k:Nat) (v:Value):Chg B W (W.setCell ⟨B,k,none⟩ v):=
 ⟨World.size_setCell _ _ _,fun j hj=>heap_setCell_other _ ⟨B,k,none⟩ j _ (fun e=>hj (by simpa using e))⟩
structure Ten (W:World) (B:Nat) (g:Nat→Value):Prop where
 cel:∀ i,i<10→W.cell? ⟨B,i,none⟩=some (g i)
 out:∀ i,10≤i→W.cell? ⟨B,i,none⟩=none
 fro:∀ i,W.frozen? ⟨B,i,none⟩=false
 sli:∀ i,∃ a n c,g i=.slice a n c
theorem Ten.no_int {W:World} {B:Nat} {g:Nat→Value} (h:Ten W B g) {k:Nat} {t:IntKind} {z:Int} (hc:W.cell? ⟨B,k,none⟩=some (.int t z)):False:=by
 by_cases hk:k<10
 · rw [h.cel k hk] at hc
   obtain⟨a,n,c,e⟩:=h.sli k
   rw [e] at hc
   cases hc
 · rw [h.out k (by omega)] at hc;cases hc
theorem Ten.lt {W:World} {B:Nat} {g:Nat→Value} (h:Ten W B g):B<W.heap.size:=World.block_lt_of_cell? W _ (h.cel 0 (by omega))
theorem Ten.below {W W':World} {B:Nat} {g:Nat→Value} (h:Ten W B g) {n:Nat} (hn:B<n) (hb:Below n W W'):Ten W' B g:=
 ⟨fun i hi=>(hb.cell (p:=⟨B,i,none⟩) hn).trans (h.cel i hi),fun i hi=>(hb.cell (p:=⟨B,i,none⟩) hn).trans (h.out i hi),fun i=>(hb.frozen (p:=⟨B,i,none⟩) hn).trans (h.fro i),h.sli⟩
def put1 (g:Nat→Value) (k:Nat) (v:Value):Nat→Value:=fun i=>if i=k then v else g i
theorem put1_at (g:Nat→Value) (k:Nat) (v:Value):put1 g k v k=v:=if_pos rfl
theorem put1_else (g:Nat→Value) {k i:Nat} (v:Value) (h:i≠k):put1 g k v i=g i:=if_neg h
theorem Ten.set {W:World} {B:Nat} {g:Nat→Value} (h:Ten W B g) {k:Nat} (hk:k<10) (a:Option Addr) (n c:Nat):Ten (W.setCell ⟨B,k,none⟩ (.slice a n c)) B (put1 g k (.slice a n c)):=by
 refine⟨fun i hi=>?_,fun i hi=>?_,fun i=>?_,fun i=>?_⟩
 · by_cases e:i=k
   · subst e
     rw [put1_at]
     exact World.cell?_setCell_same _ _ _ (h.cel i hk)
   · rw [put1_else g _ e]
     exact (World.cell?_setCell_other _ _ _ _ (by intro q;injection q with q1 q2;exact e q2.symm)).trans (h.cel i hi)
 · exact (World.cell?_setCell_other _ _ _ _ (by intro q;injection q with q1 q2;omega)).trans (h.out i hi)
 · rw [World.frozen?_setCell];exact h.fro i
 · by_cases e:i=k
   · subst e;exact⟨a,n,c,put1_at g i _⟩
   · rw [put1_else g _ e];exact h.sli i
theorem vals_chg {W W':World} {B:Nat} {g:Nat→Value} {A:Option Addr} {n:Nat} {zs:List Int} (ht:Ten W B g) (hc:Chg B W W') (h:Vals W A n (nums .i64 zs)):Vals W' A n (nums .i64 zs):=by
 refine⟨h.1,fun hn=>?_⟩
 obtain⟨b,off,rfl,hlt,hv⟩:=h.2 hn
 have hl:zs.length=n:=by have:=h.1;rwa [nums_len] at this
 have hne:b≠B:=by
  rintro rfl
  obtain⟨z,hz⟩:∃ z,zs[0]? = some z:=⟨_,List.getElem?_eq_getElem (by omega)⟩
  exact ht.no_int (hv 0 (.int .i64 z) (by unfold nums;rw [List.getElem?_map,hz];rfl))
 exact⟨b,off,rfl,by rw [hc.1];exact hlt,fun j v hj=>(hc.cell (p:=⟨b,off+j,none⟩) hne).trans (hv j v hj)⟩
theorem rat_chg {W W':World} {B:Nat} {g:Nat→Value} {A:Option Addr} {n:Nat} {ls:List Uc.Rw} (ht:Ten W B g) (hc:Chg B W W') (h:Uc.RAt W A n ls):Uc.RAt W' A n ls:=by
 refine⟨h.1,fun hn=>?_⟩
 obtain⟨b,off,rfl,hlt,hv⟩:=h.2 hn
 have hl:=h.1
 have hne:b≠B:=by
  rintro rfl
  obtain⟨z,hz⟩:∃ z,ls[0]? = some z:=⟨_,List.getElem?_eq_getElem (by omega)⟩
  exact ht.no_int (hv 0 z hz).1
 refine⟨b,off,rfl,by rw [hc.1];exact hlt,fun j s hj=>?_⟩
 obtain⟨h1,h2,h3,h4,h5,h6⟩:=hv j s hj
 exact⟨(hc.cell (p:=⟨b,_,none⟩) hne).trans h1,(hc.cell (p:=⟨b,_,none⟩) hne).trans h2,(hc.cell (p:=⟨b,_,none⟩) hne).trans h3,(hc.cell (p:=⟨b,_,none⟩) hne).trans h4,(hc.cell (p:=⟨b,_,none⟩) hne).trans h5,(hc.cell (p:=⟨b,_,none⟩) hne).trans h6⟩
theorem sat_chg {W W':World} {B:Nat} {g:Nat→Value} {A:Option Addr} {n:Nat} {ls:List Pq.Sp} (ht:Ten W B g) (hc:Chg B W W') (h:Pq.SAt W A n ls):Pq.SAt W' A n ls:=by
 refine⟨h.1,fun hn=>?_⟩
 obtain⟨b,off,rfl,hlt,hv⟩:=h.2 hn
 have hl:=h.1
 have hne:b≠B:=by
  rintro rfl
  obtain⟨z,hz⟩:∃ z,ls[0]? = some z:=⟨_,List.getElem?_eq_getElem (by omega)⟩
  exact ht.no_int (hv 0 z hz).1
 refine⟨b,off,rfl,by rw [hc.1];exact hlt,fun j s hj=>?_⟩
 obtain⟨h1,h2,h3⟩:=hv j s hj
 exact⟨(hc.cell (p:=⟨b,_,none⟩) hne).trans h1,(hc.cell (p:=⟨b,_,none⟩) hne).trans h2,(hc.cell (p:=⟨b,_,none⟩) hne).trans h3⟩
theorem pat_chg {W W':World} {B:Nat} {g:Nat→Value} {A:Option Addr} {n:Nat} {qs:List Cf.Pv} (ht:Ten W B g) (hc:Chg B W W') (h:Cf.PAt W A n qs):Cf.PAt W' A n qs:=by
 refine⟨h.1,fun hn=>?_⟩
 obtain⟨b,off,rfl,hlt,hv⟩:=h.2 hn
 have hl:=h.1
 have hne:b≠B:=by
  rintro rfl
  obtain⟨z,hz⟩:∃ z,qs[0]? = some z:=⟨_,List.getElem?_eq_getElem (by omega)⟩
  exact ht.no_int (hv 0 z hz).1
 refine⟨b,off,rfl,by rw [hc.1];exact hlt,fun j s hj=>?_⟩
 obtain⟨h1,h2⟩:=hv j s hj
 exact⟨(hc.cell (p:=⟨b,_,none⟩) hne).trans h1,(hc.cell (p:=⟨b,_,none⟩) hne).trans h2⟩
theorem rows_chg {W W':World} {B:Nat} {g:Nat→Value} {A:Option Addr} {n:Nat} {ls:List Uc.Rw} {ps:List Uc.Pr} (ht:Ten W B g) (hc:Chg B W W') (h:RowsIn W A n ls ps):RowsIn W' A n ls ps:=
 ⟨rat_chg ht hc h.1,Uc.Ist.of (fun _ _ q=>⟨q.1,q.2.1,q.2.2.1,q.2.2.2.1,q.2.2.2.2.1,q.2.2.2.2.2.1,vals_chg ht hc q.2.2.2.2.2.2⟩) h.2⟩
theorem isps_chg {W W':World} {B:Nat} {g:Nat→Value} (ht:Ten W B g) (hc:Chg B W W'):∀ {qs:List Cf.Pv} {rs:List Cf.Pp},Cf.IsPs W qs rs→Cf.IsPs W' qs rs
 | [],[],_=>trivial
 | _::_,_::_,h=>⟨⟨h.1.1,h.1.2.1,vals_chg ht hc h.1.2.2⟩,isps_chg ht hc h.2⟩
 | [],_::_,h=>h.elim
 | _::_,[],h=>h.elim
end Go.Proofs.YtmellioacefjjaaGreatDoor
namespace Go.Proofs.YtmellioacefjjaaGreatDoor.Uc
open Go.RowKit
theorem bs_emp (l:List UInt8):(bs l).toList.isEmpty=decide (l = []):=by
 have e:(bs l).toList=l:=by rw [Lib.toList_data,bs_data]
 rw [e,Bool.eq_iff_iff,decide_eq_true_eq,List.isEmpty_iff]
theorem flds {w:World} {F:Option Addr} {f:List (List UInt8)} {n:Nat} (h:Vals w F n (strs f)) (hn:n=15):∃ b off,F=some ⟨b,off,none⟩∧b<w.heap.size∧w.cell? ⟨b,off,none⟩=some (.string (bs (fld f 0)))∧w.cell? ⟨b,off+1,none⟩=some (.string (bs (fld f 1)))∧w.cell? ⟨b,off+2,none⟩=some (.string (bs (fld f 2)))∧w.cell? ⟨b,off+3,none⟩=some (.string (bs (fld f 3)))∧w.cell? ⟨b,off+4,none⟩=some (.string (bs (fld f 4)))∧w.cell? ⟨b,off+5,none⟩=some (.string (bs (fld f 5))):=by
 have hl:f.length=n:=by have:=h.1;rwa [strs_length] at this
 obtain⟨b,off,rfl,hlt,hc⟩:=h.2 (by omega)
 exact⟨b,off,rfl,hlt,hc 0 _ (strs_get (by omega)),hc 1 _ (strs_get (by omega)),hc 2 _ (strs_get (by omega)),hc 3 _ (strs_get (by omega)),hc 4 _ (strs_get (by omega)),hc 5 _ (strs_get (by omega))⟩
theorem fld_len {f:List (List UInt8)} (h:∀ x∈f,x.length≤4000) (k:Nat):(fld f k).length≤4000:=by
 unfold fld
 rw [List.getD_eq_getElem?_getD]
 cases hk:f[k]? with
 | none=>simp
 | some x=>exact h x (List.mem_of_getElem? hk)
def RowPost (f:List (List UInt8)) (w:World) (e:Ending) (w':World):Prop:=
 Below w.heap.size w w'∧∃ s:Rw,e=.returned (.tuple #[rwV s,.int .i64 (rowErr f)])∧Is w' s (rowRef f)∧∀ a,s.dp=some a→w.heap.size≤a.block
theorem rowRef_bad {f:List (List UInt8)} {e:Int} (h:rowErr f=e) (he:¬e=0):rowRef f=pr0:=by unfold rowRef;rw [if_neg (by rw [h];exact he)]
theorem row_bad {f:List (List UInt8)} {e:Int} {w w':World} (h:rowErr f=e) (he:¬e=0) (hb:Below w.heap.size w w'):RowPost f w (.returned (.tuple #[rwV rw0,.int .i64 e])) w':=
 ⟨hb,rw0,by rw [h],by rw [rowRef_bad h he];exact is0 _,fun a h=>by cases h⟩
set_option maxRecDepth 100000 in
set_option maxHeartbeats 4000000 in
theorem row22_len (F:Option Addr) (n cf:Nat) (f:List (List UInt8)) (w:World) (hV:Vals w F n (strs f)) (hne:¬n=15):
 Calls Tryz.prog 76 #[.slice F n cf] w (RowPost f w):=by
 have hl:f.length=n:=by have:=hV.1;rwa [strs_length] at this
 have HE:=Lib.hid (row_len (f:=f) (by rw [hl];exact hne))
 have hb:((n:Int)==15)=false:=beq_false_of_ne (by omega)
 have hb':((n:Int) != 15)=true:=bne_iff_ne.2 (by omega)
 clear hV hl hne
 go_enter Tryz.func76,Tryz.ntmps76
 go_wp2
 exact bodyPost_ret (v:=.tuple #[rwV rw0,.int .i64 12]) (by simp [results,Tryz.results76,go_sem,rwV,rw0,bs_nil]) rfl (row_bad HE.out (by decide) (Below.alloc (Below.refl _ _) (Nat.le_refl _) _))
set_option maxRecDepth 100000 in
set_option maxHeartbeats 4000000 in
theorem row22_hex (F:Option Addr) (cf:Nat) (f:List (List UInt8)) (w:World) (hV:Vals w F 15 (strs f)) (hfl:∀ x∈f,x.length≤4000) (hp:point (fld f 0)=none):
 Calls Tryz.prog 76 #[.slice F 15 cf] w (RowPost f w):=by
 have hl:f.length=15:=by have:=hV.1;rwa [strs_length] at this
 obtain⟨b,off,rfl,hbl,q0,-,q2,q3,q4,q5⟩:=flds hV rfl
 have hb0:Below w.heap.size w (w.alloc (.cells #[.int .i64 0,.int .i64 0,.string ⟨#[]⟩,.int .i64 0,.string ⟨#[]⟩,.slice none 0 0] 33)):=(Below.refl _ _).alloc (Nat.le_refl _) _
 have c39:=point12 (fld f 0) (w.alloc (.cells #[.int .i64 0,.int .i64 0,.string ⟨#[]⟩,.int .i64 0,.string ⟨#[]⟩,.slice none 0 0] 33)) (by have:=fld_len hfl 0;omega)
 have HE:=Lib.hid (row_hex hl hp)
 rw [hp] at c39
 simp only [ptI] at c39
 obtain⟨S0,hS0⟩:∃ S,bs (fld f 0)=S:=⟨_,rfl⟩
 rw [hS0] at q0 c39
 have HB:=Lib.hid hb0
 clear hV hfl hl hp hS0 hb0 q2 q3 q4 q5
 go_enter Tryz.func76,Tryz.ntmps76
 go_wp2_with (go_at_call 81;(with_reducible refine c39.mono ?_);rintro e w1 ⟨rfl,hb1⟩;have HB1:=Lib.hid hb1;obtain⟨⟨e0,e1,e2,e3,e4,e5⟩,ef⟩:=six_box hb1;clear hb1)
 exact bodyPost_ret (v:=.tuple #[rwV rw0,.int .i64 13]) (by simp [results,Tryz.results76,go_sem,e0,e1,e2,e3,e4,e5,rwV,rw0,bs_nil]) rfl (row_bad HE.out (by decide) (below_store _ HB.out HB1.out))
theorem ok_parts {f:List (List UInt8)}:okB f=(decide ((fld f 2).length=2∧caps ((fld f 2).take 1)=true∧97≤oct (fld f 2) 1∧oct (fld f 2) 1≤122∧0≤cccOf (fld f 3)∧1≤(fld f 4).length∧(fld f 4).length≤3∧caps (fld f 4)=true)):=by
 unfold okB gcB bdB
 by_cases h:(fld f 2).length=2
 · have e:caps ((fld f 2).take 1)=capB (oct (fld f 2) 0):=by
    obtain⟨x,y,hxy⟩:∃ x y,fld f 2 = [x,y]:=by
     generalize fld f 2=l at h
     match l,h with
     | [x,y],_=>exact⟨x,y,rfl⟩
    rw [hxy]
    unfold caps capB oct
    simp only [List.take_succ_cons,List.take_zero,List.all_cons,List.all_nil,Bool.and_true,List.getD_cons_zero,decide_eq_decide]
    omega
   rw [e,Bool.eq_iff_iff]
   simp only [Bool.and_eq_true,decide_eq_true_eq]
   constructor
   · rintro⟨⟨h1,h2,h3,h4⟩,h5,⟨h6,h7⟩,h8⟩
     exact⟨h1,h2,h3,h4,h5,h6,h7,h8⟩
   · rintro⟨h1,h2,h3,h4,h5,h6,h7,h8⟩
     exact⟨⟨h1,h2,h3,h4⟩,h5,⟨h6,h7⟩,h8⟩
 · rw [decide_eq_false h,Bool.false_and,Bool.false_and,decide_eq_false (fun h'=>h h'.1)]
def Box6 (w:World) (b:Nat) (v0 v1 v2 v3 v4 v5:Value):Prop:=
 (w.cell? ⟨b,0,none⟩=some v0∧w.cell? ⟨b,1,none⟩=some v1∧w.cell? ⟨b,2,none⟩=some v2∧w.cell? ⟨b,3,none⟩=some v3∧w.cell? ⟨b,4,none⟩=some v4∧w.cell? ⟨b,5,none⟩=some v5)∧∀ i,w.frozen? ⟨b,i,none⟩=false
theorem Box6.below {w w':World} {b:Nat} {v0 v1 v2 v3 v4 v5:Value} (h:Box6 w b v0 v1 v2 v3 v4 v5) (hl:b<w.heap.size) (hb:Below w.heap.size w w'):Box6 w' b v0 v1 v2 v3 v4 v5:=
 ⟨⟨(hb.cell (p:=⟨b,0,none⟩) hl).trans h.1.1,(hb.cell (p:=⟨b,1,none⟩) hl).trans h.1.2.1,(hb.cell (p:=⟨b,2,none⟩) hl).trans h.1.2.2.1,(hb.cell (p:=⟨b,3,none⟩) hl).trans h.1.2.2.2.1,(hb.cell (p:=⟨b,4,none⟩) hl).trans h.1.2.2.2.2.1,(hb.cell (p:=⟨b,5,none⟩) hl).trans h.1.2.2.2.2.2⟩,fun i=>(hb.frozen (p:=⟨b,i,none⟩) hl).trans (h.2 i)⟩
theorem row_fin {f:List (List UInt8)} {c:Nat} (h:f.length=15) (hp:point (fld f 0)=some c) (ho:okB f=true) (hd:decErr (fld f 5)=0):rowRef f=⟨c,c,fld f 2,cccOf (fld f 3),fld f 4,decVal (fld f 5)⟩:=by
 unfold rowRef
 rw [if_pos (by rw [row_dec h hp ho];exact hd)]
 unfold rowVal
 rw [hp]
 rfl
theorem dec_err {l:List UInt8} (h:tagB l=false):decErr l=match seqOf l with | none=>13 | some cs=>if 2<cs.length then 16 else 0:=by unfold decErr;rw [if_neg (by rw [h];decide)];cases seqOf l <;> rfl
theorem seq_none {l:List UInt8} {w w':World} {e:Ending} (hs:seqOf l=none) (h:SeqPost l w e w'):e=.returned (.tuple #[.slice none 0 0,.int .i64 13])∧Below w.heap.size w w':=by
 rcases h.2 with ⟨cs,A,ca,h1,-⟩ | ⟨-,h2⟩
 · rw [hs] at h1;cases h1
 · exact⟨h2,h.1⟩
theorem seq_some {l:List UInt8} {w w':World} {e:Ending} {cs:List Nat} (hs:seqOf l=some cs) (h:SeqPost l w e w'):Below w.heap.size w w'∧∃ A ca,e=.returned (.tuple #[.slice A cs.length ca,.int .i64 0])∧Hid (Vals w' A cs.length (i64s cs)∧∀ a,A=some a→w.heap.size≤a.block):=by
 rcases h.2 with ⟨cs',A,ca,h1,h2,h3⟩ | ⟨h1,-⟩
 · rw [hs] at h1
   cases h1
   exact⟨h.1,A,ca,h2,Lib.hid h3⟩
 · rw [hs] at h1;cases h1
theorem vals_set {w:World} {A:Option Addr} {n b i:Nat} {vs:List Value} {v:Value} (h:Vals w A n vs) (hA:∀ a,A=some a→¬a.block=b):Vals (w.setCell ⟨b,i,none⟩ v) A n vs:=by
 refine⟨h.1,fun hn=>?_⟩
 obtain⟨b',off,rfl,hlt,hc⟩:=h.2 hn
 refine⟨b',off,rfl,by rw [World.size_setCell];exact hlt,fun j u hj=>?_⟩
 rw [World.cell?_setCell_other _ _ _ _ (by intro e;have:=hA _ rfl;injection e with e1;exact this e1.symm)]
 exact hc j u hj
theorem vals_set6 {w:World} {A:Option Addr} {n b:Nat} {vs:List Value} {v0 v1 v2 v3 v4 v5:Value} (h:Vals w A n vs) (hA:∀ a,A=some a→¬a.block=b):
 Vals ((((((w.setCell ⟨b,0,none⟩ v0).setCell ⟨b,1,none⟩ v1).setCell ⟨b,2,none⟩ v2).setCell ⟨b,3,none⟩ v3).setCell ⟨b,4,none⟩ v4).setCell ⟨b,5,none⟩ v5) A n vs:=
 vals_set (vals_set (vals_set (vals_set (vals_set (vals_set h hA) hA) hA) hA) hA) hA
theorem below_set {w v:World} {r:Nat} (h:Below w.heap.size w v) (hr:w.heap.size≤r) (i:Nat) (x:Value):Below w.heap.size w (v.setCell ⟨r,i,none⟩ x):=Below.setCell h hr _
set_option maxRecDepth 100000 in
set_option maxHeartbeats 4000000 in
theorem row22_ok (F:Option Addr) (cf:Nat) (f:List (List UInt8)) (w:World) (hV:Vals w F 15 (strs f)) (hfl:∀ x∈f,x.length≤4000) (c:Nat) (hp:point (fld f 0)=some c) (ho:okB f=true):
 Calls Tryz.prog 76 #[.slice F 15 cf] w (RowPost f w):=by
 have hl:f.length=15:=by have:=hV.1;rwa [strs_length] at this
 obtain⟨b,off,rfl,hbl,q0,-,q2,q3,q4,q5⟩:=flds hV rfl
 have hb0:Below w.heap.size w (w.alloc (.cells #[.int .i64 0,.int .i64 0,.string ⟨#[]⟩,.int .i64 0,.string ⟨#[]⟩,.slice none 0 0] 33)):=(Below.refl _ _).alloc (Nat.le_refl _) _
 have c39:=point12 (fld f 0) (w.alloc (.cells #[.int .i64 0,.int .i64 0,.string ⟨#[]⟩,.int .i64 0,.string ⟨#[]⟩,.slice none 0 0] 33)) (by have:=fld_len hfl 0;omega)
 have HE:=Lib.hid (row_dec hl hp ho)
 rw [hp] at c39
 simp only [ptI] at c39
 have c40:=fun W=>number40 (fld f 3) W (by have:=fld_len hfl 3;omega)
 have c41:=fun W=>capitals41 ((fld f 2).take 1) W (by rw [List.length_take];omega)
 have c42:=fun W=>capitals41 (fld f 4) W (by have:=fld_len hfl 4;omega)
 have hs2:=bs_size (fld f 2)
 have hs4:=bs_size (fld f 4)
 have hx2:=bs_ext (fld f 2) 0 1
 have hy2:=bs_oct (fld f 2) 1
 have hyr:=oct_range (fld f 2) 1
 rw [List.drop_zero,Nat.sub_zero] at hx2
 have hok:=ok_parts (f:=f)
 obtain⟨S0,hS0⟩:∃ S,bs (fld f 0)=S:=⟨_,rfl⟩
 obtain⟨S2,hS2⟩:∃ S,bs (fld f 2)=S:=⟨_,rfl⟩
 obtain⟨S3,hS3⟩:∃ S,bs (fld f 3)=S:=⟨_,rfl⟩
 obtain⟨S4,hS4⟩:∃ S,bs (fld f 4)=S:=⟨_,rfl⟩
 obtain⟨S5,hS5⟩:∃ S,bs (fld f 5)=S:=⟨_,rfl⟩
 obtain⟨T2,hT2⟩:∃ S,bs ((fld f 2).take 1)=S:=⟨_,rfl⟩
 obtain⟨n2,hn2⟩:∃ n,(fld f 2).length=n:=⟨_,rfl⟩
 obtain⟨n4,hn4⟩:∃ n,(fld f 4).length=n:=⟨_,rfl⟩
 obtain⟨Y,hY⟩:∃ Y,oct (fld f 2) 1=Y:=⟨_,rfl⟩
 obtain⟨N,hN⟩:∃ N,cccOf (fld f 3)=N:=⟨_,rfl⟩
 obtain⟨B2,hB2⟩:∃ B,caps ((fld f 2).take 1)=B:=⟨_,rfl⟩
 obtain⟨B4,hB4⟩:∃ B,caps (fld f 4)=B:=⟨_,rfl⟩
 rw [hS0] at q0 c39
 rw [hS2] at q2 hs2 hx2 hy2
 rw [hS3] at q3 c40
 rw [hS4] at q4 c42 hs4
 rw [hS5] at q5
 rw [hT2] at hx2 c41
 rw [hn2] at hs2 hok
 rw [hn4] at hs4 hok
 rw [hY] at hy2 hyr hok
 rw [hN] at c40 hok
 rw [hB2] at c41 hok
 rw [hB4] at c42 hok
 obtain⟨hy0,hy1⟩:=hyr
 have C40:=Lib.hid c40
 have C41:=Lib.hid c41
 have C42:=Lib.hid c42
 have HB:=Lib.hid hb0
 have hl2:n2≤4000:=by have:=fld_len hfl 2;omega
 have hl4:n4≤4000:=by have:=fld_len hfl 4;omega
 rw [ho] at hok
 obtain⟨rfl,rfl,h3,h4,h5,h6,h7,rfl⟩:=of_decide_eq_true hok.symm
 have h3':¬Y<97:=by omega
 have h3d:decide (Y<97)=false:=decide_eq_false h3'
 have h4':¬122<Y:=by omega
 have h4d:decide (122<Y)=false:=decide_eq_false h4'
 have h5':¬N<0:=by omega
 have h5d:decide (N<0)=false:=decide_eq_false h5'
 have h6':¬(n4:Int)<1:=by omega
 have h6d:decide ((n4:Int)<1)=false:=decide_eq_false h6'
 have h7':¬3<(n4:Int):=by omega
 have h7d:decide (3<(n4:Int))=false:=decide_eq_false h7'
 have hs5:=bs_size (fld f 5)
 have hz5:=bs_oct (fld f 5) 0
 have hzr:=oct_range (fld f 5) 0
 have HL5:=Lib.hid (fld_len hfl 5)
 obtain⟨n5,hn5⟩:∃ n,(fld f 5).length=n:=⟨_,rfl⟩
 obtain⟨Z5,hZ5⟩:∃ Z,oct (fld f 5) 0=Z:=⟨_,rfl⟩
 have hl5:n5≤4000:=by have:=fld_len hfl 5;omega
 rw [hS5] at hs5 hz5
 rw [hn5] at hs5
 rw [hZ5] at hz5 hzr
 have HN5:=Lib.hid hn5
 have HZ5:=Lib.hid hZ5
 have HS5:=Lib.hid hS5
 have HFIN:=Lib.hid (row_fin hl hp ho)
 have HS2:=Lib.hid hS2
 have HS4:=Lib.hid hS4
 have HN:=Lib.hid hN
 obtain⟨hz50,hz51⟩:=hzr
 clear hV hfl hl hp ho hS0 hS2 hS3 hS4 hS5 hT2 hn2 hn4 hY hN hB2 hB4 hok hb0 c40 c41 c42 hn5 hZ5
 go_enter Tryz.func76,Tryz.ntmps76
 go_wp2_with (first
  | (go_at_call 81;(with_reducible refine c39.mono ?_);rintro e w1 ⟨rfl,hb1⟩;have HB1:=Lib.hid hb1;obtain⟨⟨e0,e1,e2,e3,e4,e5⟩,ef⟩:=six_box hb1;have hbw:b<w1.heap.size:=(by have:=hb1.size;simp at this;omega);have k2:=(hb1.cell (p:=⟨b,off+2,none⟩) (by show b<_;simp;omega)).trans ((HB.out.cell (p:=⟨b,off+2,none⟩) hbl).trans q2);have k3:=(hb1.cell (p:=⟨b,off+3,none⟩) (by show b<_;simp;omega)).trans ((HB.out.cell (p:=⟨b,off+3,none⟩) hbl).trans q3);have k4:=(hb1.cell (p:=⟨b,off+4,none⟩) (by show b<_;simp;omega)).trans ((HB.out.cell (p:=⟨b,off+4,none⟩) hbl).trans q4);have k5:=(hb1.cell (p:=⟨b,off+5,none⟩) (by show b<_;simp;omega)).trans ((HB.out.cell (p:=⟨b,off+5,none⟩) hbl).trans q5);clear hb1)
  | (go_at_call 102;(with_reducible refine (C40.out _).mono ?_);rintro e w' ⟨rfl,rfl⟩)
  | (go_at_call 103;(with_reducible refine (C41.out _).mono ?_);rintro e w' ⟨rfl,rfl⟩)
  | (go_at_call 103;(with_reducible refine (C42.out _).mono ?_);rintro e w' ⟨rfl,rfl⟩))
 go_region
 have hwl:w.heap.size<w'.heap.size:=World.block_lt_of_cell? w' _ e0
 have hB2:Below w'.heap.size w' (w'.alloc (.cells #[.int .i64 (c:Int),.int .i64 (c:Int),.string S2,.int .i64 N,.string S4,.slice none 0 0] 33)).drew:=below_drew ((Below.refl _ _).alloc (Nat.le_refl _) _)
 have E2:=Box6.below ⟨⟨e0,e1,e2,e3,e4,e5⟩,ef⟩ hwl hB2
 have R2:Box6 (w'.alloc (.cells #[.int .i64 (c:Int),.int .i64 (c:Int),.string S2,.int .i64 N,.string S4,.slice none 0 0] 33)).drew w'.heap.size (.int .i64 (c:Int)) (.int .i64 (c:Int)) (.string S2) (.int .i64 N) (.string S4) (.slice none 0 0):=six_box (below_drew (Below.refl _ _))
 have k5':=(hB2.cell (p:=⟨b,off+5,none⟩) hbw).trans k5
 have hr2:w'.heap.size<(w'.alloc (.cells #[.int .i64 (c:Int),.int .i64 (c:Int),.string S2,.int .i64 N,.string S4,.slice none 0 0] 33)).drew.heap.size:=by simp [World.drew]
 have HB2:=Lib.hid ((HB.out.trans (HB1.out.mono HB.out.size)).trans (hB2.mono (by omega)))
 obtain⟨W2,hW2⟩:∃ W2,(w'.alloc (.cells #[.int .i64 (c:Int),.int .i64 (c:Int),.string S2,.int .i64 N,.string S4,.slice none 0 0] 33)).drew=W2:=⟨_,rfl⟩
 rw [hW2] at E2 R2 k5' hr2 HB2 ⊢
 obtain⟨r,hr⟩:∃ r,w'.heap.size=r:=⟨_,rfl⟩
 rw [hr] at R2 hr2 hwl ⊢
 have HR2:=Lib.hid R2
 have HEE:=Lib.hid E2
 have c76:=sequence16 (fld f 5) W2 HL5.out
 rw [HS5.out] at c76
 clear hW2 hr hB2 e0 e1 e2 e3 e4 e5 ef k2 k3 k4 k5 HB1 HB c39 C40 C41 C42 q0 q2 q3 q4 q5 hbw hs2 hs4 hx2 hy2 h3 h4 h5 h6 h7 h3' h3d h4' h4d h5' h5d h6' h6d h7' h7d hl2 hl4 hy0 hy1
 cases htag:tagB (fld f 5)
 · have hdec:=dec_err (l:=fld f 5) htag
   have htest:n5=0∨(0<n5∧(Z5==60)=false):=by
    rcases Nat.eq_zero_or_pos n5 with h | h
    · exact .inl h
    · refine .inr ⟨h,beq_false_of_ne fun hz=>?_⟩
      have:=of_decide_eq_false htag
      rw [HN5.out,HZ5.out] at this
      exact this ⟨h,hz⟩
   have HD:=Lib.hid hdec
   have HTG:=Lib.hid htag
   clear hdec htag
   have hne1:¬r=w.heap.size:=by omega
   have hne2:¬w.heap.size=r:=by omega
   cases hsq:seqOf (fld f 5) with
   | none=>
    rw [hsq] at HD
    have HDZ:Hid (rowErr f=13):=Lib.hid (by rw [HE.out,HD.out])
    replace c76:=c76.mono (fun e w' h=>seq_none hsq h)
    have hn5:0<n5∧(Z5==60)=false:=by
     rcases htest with h | h
     · exfalso
       have e:fld f 5 = []:=List.eq_nil_of_length_eq_zero (by rw [HN5.out,h])
       rw [e] at hsq
       cases hsq
     · exact h
    obtain⟨hpos,hz60⟩:=hn5
    clear hsq htest
    obtain⟨⟨e0,e1,e2,e3,e4,e5⟩,ef⟩:=E2
    obtain⟨⟨r0,r1,r2,r3,r4,r5⟩,rf⟩:=R2
    go_wp2_with (go_at_call 82;(with_reducible refine c76.mono ?_);rintro e w3 ⟨rfl,hb3⟩;obtain⟨⟨y0,y1,y2,y3,y4,y5⟩,yf⟩:=HEE.out.below (by omega) hb3)
    exact bodyPost_ret (v:=.tuple #[rwV rw0,.int .i64 13]) (by simp [results,Tryz.results76,go_sem,y0,y1,y2,y3,y4,y5,rwV,rw0,bs_nil]) rfl (row_bad HDZ.out (by decide) (below_six _ _ _ (HB2.out.trans (hb3.mono (by have:=HB2.out.size;omega)))))
   | some cs=>
    rw [hsq] at HD
    replace c76:=c76.mono (fun e w' h=>seq_some hsq h)
    have HDV:Hid (decVal (fld f 5)=cs):=Lib.hid (by unfold decVal;rw [if_neg (by rw [HTG.out];decide),hsq];rfl)
    by_cases hlong:2<cs.length
    · have HDZ:Hid (rowErr f=16):=Lib.hid (by rw [HE.out,HD.out];simp only [if_pos hlong])
      have hn5:0<n5∧(Z5==60)=false:=by
       rcases htest with h | h
       · exfalso
         have e:fld f 5 = []:=List.eq_nil_of_length_eq_zero (by rw [HN5.out,h])
         rw [e] at hsq
         cases hsq
         simp at hlong
       · exact h
      obtain⟨hpos,hz60⟩:=hn5
      have hlI:2<(cs.length:Int):=by omega
      clear hsq htest
      obtain⟨⟨e0,e1,e2,e3,e4,e5⟩,ef⟩:=E2
      obtain⟨⟨r0,r1,r2,r3,r4,r5⟩,rf⟩:=R2
      go_wp2_with (go_at_call 82;(with_reducible refine c76.mono ?_);rintro e w3 ⟨hb3,A3,ca3,rfl,hV3⟩;obtain⟨⟨y0,y1,y2,y3,y4,y5⟩,yf⟩:=HEE.out.below (by omega) hb3)
      exact bodyPost_ret (v:=.tuple #[rwV rw0,.int .i64 16]) (by simp [results,Tryz.results76,go_sem,y0,y1,y2,y3,y4,y5,rwV,rw0,bs_nil]) rfl (row_bad HDZ.out (by decide) (below_six _ _ _ (HB2.out.trans (hb3.mono (by have:=HB2.out.size;omega)))))
    have HDZ:Hid (decErr (fld f 5)=0):=Lib.hid (by rw [HD.out];simp only [if_neg hlong])
    have hlI:¬2<(cs.length:Int):=by omega
    clear hsq
    rcases htest with rfl | ⟨hpos,hz60⟩
    all_goals
     obtain⟨⟨e0,e1,e2,e3,e4,e5⟩,ef⟩:=E2
     obtain⟨⟨r0,r1,r2,r3,r4,r5⟩,rf⟩:=R2
     go_wp2_with (go_at_call 82;(with_reducible refine c76.mono ?_);rintro e w3 ⟨hb3,A3,ca3,rfl,hV3⟩;obtain⟨⟨y0,y1,y2,y3,y4,y5⟩,yf⟩:=HEE.out.below (by omega) hb3;obtain⟨⟨z0,z1,z2,z3,z4,z5⟩,zf⟩:=HR2.out.below hr2 hb3)
     have hV4:=vals_set6 (b:=w.heap.size) (v0:=.int .i64 (c:Int)) (v1:=.int .i64 (c:Int)) (v2:=.string S2) (v3:=.int .i64 N) (v4:=.string S4) (v5:=.slice A3 cs.length ca3) (vals_set (b:=r) (i:=5) (v:=.slice A3 cs.length ca3) hV3.out.1 (fun a e=>by have:=hV3.out.2 a e;omega)) (fun a e=>by have:=hV3.out.2 a e;omega)
     have HFR:Hid (∀ a,A3=some a→w.heap.size≤a.block):=Lib.hid (fun a e=>by have:=hV3.out.2 a e;omega)
     have HV4:=Lib.hid hV4
     have HB4:=Lib.hid (below_set (HB2.out.trans (hb3.mono (by have:=HB2.out.size;omega))) (show w.heap.size≤r by omega) 5 (.slice A3 cs.length ca3))
     clear hV3 hV4
     exact bodyPost_ret (v:=.tuple #[rwV ⟨c,c,fld f 2,cccOf (fld f 3),fld f 4,A3,cs.length,ca3⟩,.int .i64 0]) (by simp [results,Tryz.results76,go_sem,y0,y1,y2,y3,y4,y5,rwV,HS2.out,HS4.out,HN.out]) rfl
      ⟨below_six _ _ _ HB4.out,_,by rw [HE.out,HDZ.out],by rw [HFIN.out HDZ.out];exact⟨rfl,rfl,rfl,rfl,rfl,by rw [HDV.out],by rw [HDV.out];exact HV4.out⟩,HFR.out⟩
 · have HDZ:Hid (decErr (fld f 5)=0):=Lib.hid (by unfold decErr;rw [if_pos htag])
   have HDV:Hid (decVal (fld f 5) = []):=Lib.hid (by unfold decVal;rw [if_pos htag])
   have ht:=of_decide_eq_true htag
   rw [HN5.out,HZ5.out] at ht
   obtain⟨hpos,rfl⟩:=ht
   have hne1:¬r=w.heap.size:=by omega
   have hne2:¬w.heap.size=r:=by omega
   clear htag c76
   obtain⟨⟨e0,e1,e2,e3,e4,e5⟩,ef⟩:=E2
   obtain⟨⟨r0,r1,r2,r3,r4,r5⟩,rf⟩:=R2
   go_wp2
   exact bodyPost_ret (v:=.tuple #[rwV ⟨c,c,fld f 2,cccOf (fld f 3),fld f 4,none,0,0⟩,.int .i64 0]) (by simp [results,Tryz.results76,go_sem,e0,e1,e2,e3,e4,e5,rwV,HS2.out,HS4.out,HN.out]) rfl
    ⟨below_six _ _ _ HB2.out,_,by rw [HE.out,HDZ.out],by rw [HFIN.out HDZ.out];exact⟨rfl,rfl,rfl,rfl,rfl,by rw [HDV.out];rfl,by rw [HDV.out];exact Vals.nil _ _⟩,fun a h=>by cases h⟩
end Go.Proofs.YtmellioacefjjaaGreatDoor.Uc
