/- A part. -/
import Derived.Test.YtbkgbhlmeeodgaaGreatDoorQc19
import Derived.Lib.AppendZerosOnto
namespace Go.Proofs.YtbkgbhlmeeodgaaGreatDoor
open Go.RowKit Go.Shelf
def RwBt (x:Uc.RwP) (b:Nat) (W:World):Prop:=
 (∃ cs fr,W.heap[b]? = some (.cells cs 65 fr))∧(W.cell? ⟨b,0,none⟩=some (.int .i64 x.1.a)∧W.cell? ⟨b,1,none⟩=some (.int .i64 x.1.b)∧W.cell? ⟨b,2,none⟩=some (.string (bs x.1.gc))∧W.cell? ⟨b,3,none⟩=some (.int .i64 x.1.ccc)∧W.cell? ⟨b,4,none⟩=some (.string (bs x.1.bd))∧W.cell? ⟨b,5,none⟩=some (.slice x.1.dp x.1.dm x.1.dc))
theorem rwBt_abide (x:Uc.RwP) (b B:Nat):Abide 0 0 B (fun (_:Unit) W=>RwBt x b W):=by
 intro _ W W' row ⟨⟨cs,fr,h⟩,h0,h1,h2,h3,h4,h5⟩ hg hr
 refine⟨⟨cs,fr,?_⟩,Pq.cell_abide (β:=Unit) (B:=B) _ _ () W W' row h0 hg hr,Pq.cell_abide (β:=Unit) (B:=B) _ _ () W W' row h1 hg hr,Pq.cell_abide (β:=Unit) (B:=B) _ _ () W W' row h2 hg hr,Pq.cell_abide (β:=Unit) (B:=B) _ _ () W W' row h3 hg hr,Pq.cell_abide (β:=Unit) (B:=B) _ _ () W W' row h4 hg hr,Pq.cell_abide (β:=Unit) (B:=B) _ _ () W W' row h5 hg hr⟩
 refine (hg.block b (Array.getElem?_eq_some_iff.1 h).1 (fun e=>?_)).trans h
 rcases hr b e.symm with h' | ⟨-,o,ho,hc⟩
 · omega
 · rw [h] at ho;cases ho;cases hc
theorem rwBt_new (x:Uc.RwP) (W:World):RwBt x W.heap.size (W.alloc (.cells #[.int .i64 x.1.a,.int .i64 x.1.b,.string (bs x.1.gc),.int .i64 x.1.ccc,.string (bs x.1.bd),.slice x.1.dp x.1.dm x.1.dc] 65)):=
 ⟨⟨_,_,World.alloc_heap_new _ _⟩,by simp,by simp,by simp,by simp,by simp,by simp⟩
theorem box_ne {W:World} {b base:Nat} {cs:Array Value} {fr:Nat×Nat} {n:Nat} {v:Value} {xs:List Value} (hb:W.heap[b]? = some (.cells cs 65 fr)) (h:W.ownsRow base 3 1 v n xs):v.ownBlock≠some b:=by
 intro e
 rcases h.2 with ⟨rfl,-⟩ | ⟨g,cap,cur,rfl,-,hg,-⟩
 · cases e
 · have e:g=b:=by injection e
   rw [e,hb] at hg
   cases hg
theorem ck_no {H base:Nat} {dec:Int→List Int} {l:List Uc.Pr} {p:Uc.Pr} {W:World} {n1 n2:Nat} {D1 D2:DataW Value} {val:Int→Value} {wv:Value} (h:CkS H base dec l W n1 n2 D1 D2 val wv) (hp:p.dec = []):CkS H base dec (l ++ [p]) W n1 n2 D1 D2 val wv:=by
 refine⟨by rw [keys_no hp];exact h.f1,by rw [keys_no hp];exact h.a1,by rw [us_no hp];exact h.f2,h.f3,by rw [keys_no hp];exact h.row,h.sep,h.cel,h.wbx,?_,?_⟩
 · have:=h.few.1;simp;omega
 · have:=h.few.2;simp;omega
section
variable {w W W1:World} {base:Nat} {dec:Int→List Int} {l:List Uc.Pr} {s:Uc.Rw} {p:Uc.Pr} {n1 n2:Nat} {D1 D2:DataW Value} {val:Int→Value} {wv:Value} {e:Ending}
theorem ck_mid {b':Nat} (hbase:base=w.heap.size+8) (h:CkS w.heap.size base dec l W n1 n2 D1 D2 val wv) (hbw:base≤W.heap.size) (hbx:RwBt (s,p) b' W)
 (ha:AddPost W w.heap.size (w.heap.size+1) (n1+1) n2 base w.heap.size s.dm (D1.put (key p.a) (.held (.slice s.dp s.dm s.dc))) (usL l) val p.a (intsN p.dec) e W1):
 (W1.ownsRow base 3 1 wv (keysL l).length (nums .i64 (keysL l))∧W1.cell? ⟨w.heap.size+4,0,none⟩=some wv∧W1.frozen? ⟨w.heap.size+4,0,none⟩=false)∧(W1.cell? ⟨b',0,none⟩=some (.int .i64 s.a)∧base≤W1.heap.size):=by
 obtain⟨-,m,D,v,⟨hf,hm⟩,ho,hmv,hk,hbe⟩:=ha
 obtain⟨⟨cs,fr,hbh⟩,q0,-⟩:=hbx
 obtain⟨o1,ho1,hc1⟩:=map_obj h.f1.1
 obtain⟨o2,ho2,hc2⟩:=map_obj h.f2.own
 have hob:Ofs w.heap.size (w.heap.size+1) val b':=⟨(fun e=>by rw [e,ho1] at hbh;cases hbh;cases hc1),(fun e=>by rw [e,ho2] at hbh;cases hbh;cases hc2),fun x=>box_ne hbh (h.f2.row x).1⟩
 have hlow:∀ j,j<base→j≠w.heap.size→j≠w.heap.size+1→Ofs w.heap.size (w.heap.size+1) val j:=fun j hj h1 h2=>⟨h1,h2,fun x e=>by have:=((h.f2.row x).1.lt j e).1;omega⟩
 have hwv:∀ g,wv.ownBlock=some g→Ofs w.heap.size (w.heap.size+1) val g:=fun g e=>by
  have:=(h.row.lt g e).1
  exact⟨by omega,by omega,fun x e2=>by rcases h.sep x with e3 | e3 <;> simp_all⟩
 have hl4:=World.block_lt_of_cell? W _ h.wbx.1
 have h4:=hlow (w.heap.size+4) (by omega) (by omega) (by omega)
 exact⟨⟨row_k h.row hk hwv,hk.cell (a:=⟨w.heap.size+4,0,none⟩) h4 h.wbx.1,(World.frozen?_of_block (a:=⟨w.heap.size+4,0,none⟩) (hk.2 _ h4 hl4)).trans h.wbx.2⟩,hk.cell (a:=⟨b',0,none⟩) hob q0,Nat.le_trans hbw hk.1⟩
theorem ck_yes {W2:World} {v':Value} (hbase:base=w.heap.size+8) (h:CkS w.heap.size base dec l W n1 n2 D1 D2 val wv) (hbe:Below w.heap.size w W) (hbw:base≤W.heap.size) (hp:p.dec ≠ []) (hc:p.a∉keysL l) (hi:Uc.Is W s p) (hdec:dec p.a=intsN p.dec) (hd2:p.dec.length≤2) (hds:∀ c∈keysL l,dec c ≠ [])
 (hx:∀ a,s.dp=some a→¬NoB base val wv a.block)
 (ha:AddPost W w.heap.size (w.heap.size+1) (n1+1) n2 base w.heap.size s.dm (D1.put (key p.a) (.held (.slice s.dp s.dm s.dc))) (usL l) val p.a (intsN p.dec) e W1)
 (hr2:W2.ownsRow base 3 1 v' ((keysL l).length+1) (nums .i64 (keysL l) ++ [.int .i64 p.a])) (hg2:W1.grownBy W2 wv.ownBlock) (hnew:∀ k,k<W1.heap.size→v'.ownBlock=some k→wv.ownBlock=some k):
 (W2.cell? ⟨w.heap.size+4,0,none⟩=some wv∧W2.frozen? ⟨w.heap.size+4,0,none⟩=false) ∧
 Kept (CkA w.heap.size base) W (W2.setCell ⟨w.heap.size+4,0,none⟩ v')∧∃ (m1 m2:Nat) (E1 E2:DataW Value) (val':Int→Value),CkS w.heap.size base dec (l ++ [p]) (W2.setCell ⟨w.heap.size+4,0,none⟩ v') m1 m2 E1 E2 val' v'∧Below w.heap.size w (W2.setCell ⟨w.heap.size+4,0,none⟩ v'):=by
 obtain⟨-,m,D,v,⟨hf,hm⟩,ho,hmv,hk,hb1⟩:=ha
 obtain⟨o1,ho1,hc1⟩:=map_obj h.f1.1
 obtain⟨o2,ho2,hc2⟩:=map_obj h.f2.own
 have hdm:s.dm=p.dec.length:=hi.2.2.2.2.2.1
 have hpos:0<p.dec.length:=List.length_pos_iff.2 hp
 have hlow:∀ j,j<base→j≠w.heap.size→j≠w.heap.size+1→Ofs w.heap.size (w.heap.size+1) val j:=fun j hj h1 h2=>⟨h1,h2,fun x e=>by have:=((h.f2.row x).1.lt j e).1;omega⟩
 have hwv:∀ g,wv.ownBlock=some g→Ofs w.heap.size (w.heap.size+1) val g:=fun g e=>by
  have:=(h.row.lt g e).1
  exact⟨by omega,by omega,fun x e2=>by rcases h.sep x with e3 | e3 <;> simp_all⟩
 have hrow1:=row_k h.row hk hwv
 have hrow4:∀ j,j<base→some j≠wv.ownBlock:=fun j hj e=>by have:=(h.row.lt j e.symm).1;omega
 have hl4:=World.block_lt_of_cell? W _ h.wbx.1
 have h4:=hlow (w.heap.size+4) (by omega) (by omega) (by omega)
 have c41:W1.cell? ⟨w.heap.size+4,0,none⟩=some wv:=hk.cell (a:=⟨w.heap.size+4,0,none⟩) h4 h.wbx.1
 have f41:W1.frozen? ⟨w.heap.size+4,0,none⟩=false:=(World.frozen?_of_block (a:=⟨w.heap.size+4,0,none⟩) (hk.2 _ h4 hl4)).trans h.wbx.2
 have hl41:=World.block_lt_of_cell? W1 _ c41
 have c42:W2.cell? ⟨w.heap.size+4,0,none⟩=some wv:=hg2.cell (a:=⟨w.heap.size+4,0,none⟩) c41 (hrow4 (w.heap.size+4) (by omega))
 have f42:W2.frozen? ⟨w.heap.size+4,0,none⟩=false:=(World.frozen?_of_block (a:=⟨w.heap.size+4,0,none⟩) (hg2.block _ hl41 (hrow4 (w.heap.size+4) (by omega)))).trans f41
 -- from W1 on: all but wv's row and the box
 have k13:Kept (fun k=>some k≠wv.ownBlock∧k≠w.heap.size+4) W1 (W2.setCell ⟨w.heap.size+4,0,none⟩ v'):=by
  refine⟨by rw [World.size_setCell];exact hg2.size,fun k ⟨ha,hb⟩ hkl=>?_⟩
  rw [heap_setCell_other _ ⟨w.heap.size+4,0,none⟩ k _ (fun e=>hb (by simpa using e))]
  exact hg2.block k hkl ha
 have mv:∀ x,(v x).ownBlock≠wv.ownBlock∨(v x).ownBlock=none:=fun x=>by
  rcases hmv x with e | ⟨g,e,hg⟩
  · rcases h.sep x with e2 | e2
    · exact .inr (e.trans e2)
    · exact .inl (by rw [e];exact e2)
  · exact .inl (fun e2=>by rw [e] at e2;have:=(h.row.lt g e2.symm).2;omega)
 have hs1:=hk.1
 have hvl:∀ x g,(v x).ownBlock=some g→base≤g∧g<W1.heap.size:=fun x g e=>(hf.row x).1.lt g e
 have hNb:∀ k,k<W.heap.size→¬NoB base val wv k→¬NoB base v v' k:=fun k hkl hno hn=>by
  rcases hn with e | e | ⟨x,e⟩
  · exact hno (.inl e)
  · exact hno (.inr (.inl (hnew k (Nat.lt_of_lt_of_le hkl hs1) e)))
  · rcases hmv x with e2 | ⟨g,e2,hg⟩
    · exact hno (.inr (.inr ⟨x,e2.symm.trans e⟩))
    · rw [e2] at e;injection e with e;omega
 have valsK:∀ {A:Option Addr} {zs:List Int} {n:Nat},0<n→Vals W A n (nums .i64 zs)→(∀ a,A=some a→a.block<W.heap.size∧¬NoB base val wv a.block)→Vals (W2.setCell ⟨w.heap.size+4,0,none⟩ v') A n (nums .i64 zs):=fun {A zs n} hn hv hA=>by
  have e1:=vals_ne hn hv ho1 hc1
  have e2:=vals_ne hn hv ho2 hc2
  refine vals_k (vals_k hv hk (fun _ a e=>⟨e1 a e,e2 a e,fun x e3=>(hA a e).2 (.inr (.inr ⟨x,e3⟩))⟩)) k13 (fun _ a e=>⟨fun e3=>(hA a e).2 (.inr (.inl e3.symm)),fun e3=>(hA a e).2 (.inl (by omega))⟩)
 have kall:Kept (fun k=>Ofs w.heap.size (w.heap.size+1) val k∧some k≠wv.ownBlock∧k≠w.heap.size+4) W (W2.setCell ⟨w.heap.size+4,0,none⟩ v'):=(hk.mono (fun _ h=>h.1)).trans (k13.mono (fun _ h=>h.2))
 have klow:∀ j,j<base→j≠w.heap.size→j≠w.heap.size+1→j≠w.heap.size+4→Ofs w.heap.size (w.heap.size+1) val j∧some j≠wv.ownBlock∧j≠w.heap.size+4:=fun j hj h1 h2 h3=>⟨hlow j hj h1 h2,hrow4 j hj,h3⟩
 have b1:=klow (w.heap.size+3) (by omega) (by omega) (by omega) (by omega)
 have b2:=klow (w.heap.size+2) (by omega) (by omega) (by omega) (by omega)
 refine⟨⟨c42,f42⟩,kall.mono (fun k hk=>klow k hk.1 hk.2.1 hk.2.2.1 hk.2.2.2),n1+1,m,D1.put (key p.a) (.held (.slice s.dp s.dm s.dc)),D,v,⟨?_,?_,?_,f3_k h.f3 kall b2,?_,?_,⟨?_,?_,?_⟩,⟨?_,?_⟩,?_,?_⟩,?_⟩
 · rw [keys_yes hp]
   have hf1:F1 W1 w.heap.size (n1+1) (D1.put (key p.a) (.held (.slice s.dp s.dm s.dc))) (keysL l ++ [p.a]):=f1_put (W:=W) (n:=n1) h.f1 hc ho
   exact f1_k hf1 k13 ⟨hrow4 _ (by omega),by omega⟩
 · rw [keys_yes hp]
   intro x hx'
   have hiv:Vals W s.dp s.dm (nums .i64 (intsN p.dec)):=hi.2.2.2.2.2.2
   have hold:A1 (W2.setCell ⟨w.heap.size+4,0,none⟩ v') D1 dec (keysL l) (NoB base v v'):=fun c hc'=>by
    obtain⟨A,k,q1,q2,q3⟩:=h.a1 c hc'
    exact⟨A,k,q1,valsK (List.length_pos_iff.2 (hds c hc')) q2 q3,fun a e=>⟨Nat.lt_of_lt_of_le (q3 a e).1 kall.1,hNb _ (q3 a e).1 (q3 a e).2⟩⟩
   have hlb:∀ a,s.dp=some a→a.block<W.heap.size:=fun a e=>by
    obtain⟨b',off,e',hlt,-⟩:=hiv.2 (by omega)
    rw [e] at e';cases e';exact hlt
   have hlen:s.dm=(dec p.a).length:=by rw [hdec,hdm];exact (List.length_map _).symm
   have hnv:=valsK (by omega) hiv (fun a e=>⟨hlb a e,hx a e⟩)
   rw [←hdec,hlen] at hnv
   have:=a1_put (A:=s.dp) (k:=s.dc) (f1_tidy h.f1) hold hc hnv (fun a e=>⟨Nat.lt_of_lt_of_le (hlb a e) kall.1,hNb _ (hlb a e) (hx a e)⟩)
   rw [←hlen] at this
   exact this x hx'
 · rw [us_yes hp]
   exact f2_k hf k13 ⟨hrow4 _ (by omega),by omega⟩ (fun x g e=>⟨fun e2=>(mv x).elim (fun e3=>e3 (e.trans e2)) (fun e3=>by rw [e] at e3;cases e3),by have:=(hvl x g e).1;omega⟩)
 · rw [keys_yes hp]
   have e:nums .i64 (keysL l ++ [p.a])=nums .i64 (keysL l) ++ [.int .i64 p.a]:=by unfold nums;rw [List.map_append];rfl
   rw [e,List.length_append]
   exact row_k (A:=fun k=>k≠w.heap.size+4) hr2 (Kept.setCell _ _ _ (by simp)) (fun g eg=>by have:=(hr2.lt g eg).1;omega)
 · intro x
   cases hx2:(v x).ownBlock with
   | none=>exact .inl rfl
   | some g=>
    refine .inr (fun e2=>?_)
    have h1:=hnew g (hvl x g hx2).2 e2.symm
    rcases mv x with e3 | e3
    · exact e3 (hx2.trans h1.symm)
    · rw [hx2] at e3;cases e3
 · exact kall.cell (a:=⟨w.heap.size+3,0,none⟩) b1 h.cel.1
 · exact kall.cell (a:=⟨w.heap.size+3,1,none⟩) b1 h.cel.2.1
 · exact kall.cell (a:=⟨w.heap.size+3,2,none⟩) b1 h.cel.2.2
 · exact World.cell?_setCell_same' _ _ _ (by rw [c42];rfl)
 · rw [World.frozen?_setCell];exact f42
 · have:=h.few.1;simp;omega
 · have:=h.few.2;simp;omega
 · exact ((hbe.trans (hb1.mono (Nat.le_refl _))).grown hg2 (by have:=hbe.size;omega) (fun g e=>by have:=(h.row.lt g e).1;omega)).setCell (p:=⟨w.heap.size+4,0,none⟩) (by show w.heap.size≤w.heap.size+4;omega) _
end
structure Szs (ps:List Uc.Pr) (sp:Nat→List Pq.Sp):Prop where
 good:Uc.Good ps
 flat:FlatR ps
 few:ps.length≤2000
 low:∀ r∈ps,∀ d∈r.dec,d≤1114111
 spg:∀ i,Pq.Good (sp i)
 spf:∀ i,(sp i).length≤10000
 ex:∀ s∈sp 0,s.v=exclV
 ign:∀ s∈sp 1,s.v=ignV
theorem value_of {ls:List Pq.Sp} {v:List UInt8} (h:∀ s∈ls,s.v=v) (c:Int):Pq.valueOf ls c = []∨Pq.valueOf ls c=v:=by
 induction ls with
 | nil=>exact .inl rfl
 | cons s l ih=>
  rw [Pq.value_cons]
  split
  · exact .inr (h s (List.mem_cons_self ..))
  · exact ih (fun t ht=>h t (List.mem_cons_of_mem _ ht))
theorem has_is {ls:List Pq.Sp} {v:List UInt8} (hv:v ≠ []) (h:∀ s∈ls,s.v=v) (c:Int):Pq.hasOf ls c v=decide (¬Pq.valueOf ls c = []):=by
 unfold Pq.hasOf
 rw [decide_eq_true hv,Bool.true_and]
 refine decide_eq_decide.2 ?_
 rcases value_of h c with e | e
 · rw [e];exact⟨fun h=>absurd h.symm hv,fun h=>absurd rfl h⟩
 · rw [e];exact⟨fun _=>hv,fun _=>rfl⟩
theorem made99 (b:Nat) (ps:List Uc.Pr) (sp:Nat→List Pq.Sp) (cf:List Cf.Pp) (s:Uc.Rw) (r:Uc.Pr) (w:World) (h:PF w b ps sp cf) (hs:Szs ps sp) (hr:Uc.Is w s r):
 Calls Tryz.prog 124 #[.pointer (some ⟨b,0,none⟩),Uc.rwV s] w fun e w'=>e=.returned (.bool (decide (¬idle (sp 0) ps r)))∧Below w.heap.size w w':=by
 obtain⟨p,A,c,ls,h1,h2,h3⟩:=h.uni
 obtain⟨p0,A0,c0,k1,k2⟩:=h.prs 0 (by omega)
 have hl:=h3.len
 have hsp:=hs.spg 0
 refine (made99_at b p A c ls p0 A0 c0 (sp 0) s (dec0 r) w h1 k1 h2 (by rw [hl];have:=hs.few;omega) (Uc.ist_rises h3 hs.good) k2 (by have:=hs.spf 0;omega) hsp.1 (fun t ht=>(hsp.2 t ht).2.2.1) (fun hd=>?_)).mono ?_
 · obtain⟨b2,off,e,hlt,hc⟩:=hr.2.2.2.2.2.2.2 (by omega)
   have hlen:r.dec.length=2:=by rw [←hr.2.2.2.2.2.1];exact hd
   refine⟨b2,off,e,?_⟩
   have:=hc 0 (.int .i64 (dec0 r)) (by
    unfold dec0 nums
    rw [List.getElem?_map,List.getElem?_map]
    match hh:r.dec,hlen with
    | [x,y],_=>rfl)
   exact this
 · rintro e w' ⟨rfl,hb⟩
   refine⟨?_,hb⟩
   have e1:(Uc.atOf ls (dec0 r)).ccc=(Uc.patOf ps (dec0 r)).ccc:=(Uc.ist_at _ h3).2.2.2.1
   rw [e1,hr.2.2.2.2.2.1,hr.2.2.2.1,hr.1,has_is (by decide) hs.ex]
   have:madeV r.dec.length r.ccc (Uc.patOf ps (dec0 r)).ccc (decide (¬Pq.valueOf (sp 0) r.a = []))=decide (¬idle (sp 0) ps r):=by
    unfold madeV idle
    by_cases q1:r.dec.length=2 <;> by_cases q2:r.ccc=0 <;> by_cases q3:(Uc.patOf ps (dec0 r)).ccc=0 <;> by_cases q4:Pq.valueOf (sp 0) r.a = [] <;> simp [q1,q2,q3,q4]
   rw [this]
theorem mkp_idle {ex:List Pq.Sp} {ps:List Uc.Pr} {out:List (Int×Int×Int)} {r:Uc.Pr} {l:List Uc.Pr} (h:idle ex ps r):mkP ex ps out (r::l)=mkP ex ps out l:=by rw [mkP,if_pos h]
theorem mkp_add {ex:List Pq.Sp} {ps:List Uc.Pr} {out:List (Int×Int×Int)} {r:Uc.Pr} {l:List Uc.Pr} (h:¬idle ex ps r) (hn:findM out (dec0 r) (dec1 r)=none):mkP ex ps out (r::l)=mkP ex ps (out ++ [(r.a,dec0 r,dec1 r)]) l:=by rw [mkP,if_neg h,if_pos hn]
theorem mkp_twice {ex:List Pq.Sp} {ps:List Uc.Pr} {out:List (Int×Int×Int)} {r:Uc.Pr} {l:List Uc.Pr} (h:¬idle ex ps r) (hn:¬findM out (dec0 r) (dec1 r)=none):mkP ex ps out (r::l)=none:=by rw [mkP,if_neg h,if_neg hn]
theorem drop_next {α:Type} {ps pre:List α} {p:α} (h:pre ++ [p] <+: ps):ps.drop pre.length=p::ps.drop (pre.length+1):=by
 obtain⟨r,rfl⟩:=h
 simp
structure PrB (H b:Nat) (W:World) (rm:Value) (re:Int):Prop where
 bd:W.cell? ⟨H,0,none⟩=some (.pointer (some ⟨b,0,none⟩))
 rm:W.cell? ⟨H+1,0,none⟩=some rm∧W.frozen? ⟨H+1,0,none⟩=false
 re:W.cell? ⟨H+2,0,none⟩=some (.int .i64 re)∧W.frozen? ⟨H+2,0,none⟩=false
 mb:W.cell? ⟨H+4,0,none⟩=some (.map (some (H+3)))
theorem prB_abide {H b B:Nat} (rm:Value) (re:Int):Abide 0 0 B (fun (_:Unit) W=>PrB H b W rm re):=by
 intro _ W W' row h hg hr
 exact⟨Pq.cell_abide (β:=Unit) (B:=B) _ _ () W W' row h.bd hg hr,abide_cell (β:=Unit) (n₀:=0) (n₁:=0) (B:=B) (fun _=>⟨H+1,0,none⟩) (fun _=>rm) (fun _=>by omega) () W W' row h.rm hg hr,abide_cell (β:=Unit) (n₀:=0) (n₁:=0) (B:=B) (fun _=>⟨H+2,0,none⟩) (fun _=>.int .i64 re) (fun _=>by omega) () W W' row h.re hg hr,Pq.cell_abide (β:=Unit) (B:=B) _ _ () W W' row h.mb hg hr⟩
def PrI (w:World) (b:Nat) (ex:List Pq.Sp) (ps:List Uc.Pr) (pre:List Uc.RwP) (W:World):Prop:=
 ∃ (n:Nat) (D:DataW Value) (out:List (Int×Int×Int)),(mkP ex ps out (ps.drop pre.length)=mkP ex ps [] ps∧n≤pre.length∧out.length≤pre.length)∧(W.ownsMap Tryz.prog 131 (plainElem (H:=Value) Tryz.prog 3) (w.heap.size+3) n D∧MkIs D out)∧(PrB w.heap.size b W (.map none) 0∧Below w.heap.size w W)
def PrX (w:World) (b:Nat) (ex:List Pq.Sp) (ps:List Uc.Pr) (c:Code) (_pre:List Uc.RwP) (W:World):Prop:=
 (c=.ret∧mkP ex ps [] ps=none)∧(PrB w.heap.size b W (.map none) 15∧Below w.heap.size w W)
theorem pri_abide (w:World) (b B:Nat) (ex:List Pq.Sp) (ps:List Uc.Pr) (hB:w.heap.size+4≤B):Abide 0 0 B (PrI w b ex ps):=by
 intro pre W W' row ⟨n,D,out,h1,⟨h2,h3⟩,h4,h5⟩ hg hr
 exact⟨n,D,out,h1,⟨h2.kept hg (fun e=>by rcases hr _ e.symm with h | h <;> omega),h3⟩,prB_abide (B:=B) _ _ () W W' row h4 hg hr,abide_below (β:=Unit) w (.inr (by omega)) (by omega) (Nat.le_refl _) () W W' row h5 hg hr⟩
theorem prx_abide (w:World) (b B:Nat) (ex:List Pq.Sp) (ps:List Uc.Pr) (hB:w.heap.size≤B) (c:Code):Abide 0 0 B (PrX w b ex ps c):=by
 intro pre W W' row ⟨h0,h4,h5⟩ hg hr
 exact⟨h0,prB_abide (B:=B) _ _ () W W' row h4 hg hr,abide_below (β:=Unit) w (.inr (by omega)) hB (Nat.le_refl _) () W W' row h5 hg hr⟩
def PrA (H k:Nat):Prop:=k≠H+1∧k≠H+2∧k≠H+3
def PairsPost (ex:List Pq.Sp) (ps:List Uc.Pr) (w:World) (e:Ending) (w':World):Prop:=
 Below w.heap.size w w'∧((∃ ms m n D,mkP ex ps [] ps=some ms∧e=.returned (.tuple #[.map (some m),.int .i64 0])∧(w'.ownsMap Tryz.prog 131 (plainElem (H:=Value) Tryz.prog 3) m n D∧MkIs D ms))∨(mkP ex ps [] ps=none∧e=.returned (.tuple #[.map none,.int .i64 15])))
def firstP (w:World) (b:Nat):World:=((((w.alloc (.cells #[.pointer (some ⟨b,0,none⟩)] 28)).alloc (.cells #[.map none] 77)).alloc (.cells #[.int .i64 0] 40)).alloc (.map #[] 0)).alloc (.cells #[.map (some (w.heap.size+3))] 77)
theorem firstP_size (w:World) (b:Nat):(firstP w b).heap.size=w.heap.size+5:=by unfold firstP;simp
theorem firstP_below (w:World) (b:Nat):Below w.heap.size w (firstP w b):=by
 unfold firstP
 exact (((((Below.refl _ _).alloc (Nat.le_refl _) _).alloc (by simp) _).alloc (by simp;omega) _).alloc (by simp;omega) _).alloc (by simp;omega) _
theorem pr_start (w:World) (b:Nat) (ex:List Pq.Sp) (ps:List Uc.Pr):PrI w b ex ps [] (firstP w b):=by
 have m1:=World.ownsMap_made (((w.alloc (.cells #[.pointer (some ⟨b,0,none⟩)] 28)).alloc (.cells #[.map none] 77)).alloc (.cells #[.int .i64 0] 40)) Tryz.prog 131 (plainElem (H:=Value) Tryz.prog 3)
 rw [World.size_alloc,World.size_alloc,World.size_alloc] at m1
 refine⟨0,.map [],[],⟨rfl,Nat.le_refl _,Nat.le_refl _⟩,⟨m1.alloc _,mkIs_nil⟩,⟨?_,⟨?_,?_⟩,⟨?_,?_⟩,?_⟩,firstP_below w b⟩
 · unfold firstP
   rw [old_at _ _ _ _ (by simp <;> omega),old_at _ _ _ _ (by simp <;> omega),old_at _ _ _ _ (by simp <;> omega),old_at _ _ _ _ (by simp <;> omega),new_at _ _ _ _ _ rfl];rfl
 · unfold firstP
   rw [old_at _ _ _ _ (by simp <;> omega),old_at _ _ _ _ (by simp <;> omega),old_at _ _ _ _ (by simp <;> omega),new_at _ _ _ _ _ (by simp <;> omega)];rfl
 · unfold firstP
   rw [old_fro _ _ _ _ (by simp <;> omega),old_fro _ _ _ _ (by simp <;> omega),old_fro _ _ _ _ (by simp <;> omega)];exact new_fro _ _ _ _ _ (by simp <;> omega)
 · unfold firstP
   rw [old_at _ _ _ _ (by simp <;> omega),old_at _ _ _ _ (by simp <;> omega),new_at _ _ _ _ _ (by simp <;> omega)];rfl
 · unfold firstP
   rw [old_fro _ _ _ _ (by simp <;> omega),old_fro _ _ _ _ (by simp <;> omega)];exact new_fro _ _ _ _ _ (by simp <;> omega)
 · unfold firstP
   rw [new_at _ _ _ _ _ (by simp <;> omega)];rfl
end Go.Proofs.YtbkgbhlmeeodgaaGreatDoor
namespace Go.Proofs.YtbkgbhlmeeodgaaGreatDoor.Pq
open Go.RowKit
def word (ws:List Nat) (k:Nat):Nat:=ws.getD k 0
def hasC (ws:List Nat) (c:Nat):Bool:=(word ws (c/64)).testBit (c%64)
def putC (ws:List Nat) (c:Nat):List Nat:=ws.set (c/64) (word ws (c/64) ||| 2 ^ (c%64))
def Small (ws:List Nat):Prop:=∀ x∈ws,x<18446744073709551616
def words (ws:List Nat):List Value:=ws.map fun x:Nat=>Value.int .u64 (x:Int)
theorem words_get {ws:List Nat} {k:Nat} (h:k<ws.length):(words ws)[k]? = some (.int .u64 (word ws k:Int)):=by
 unfold words word
 rw [List.getElem?_map,List.getElem?_eq_getElem h]
 simp [List.getD_eq_getElem?_getD,List.getElem?_eq_getElem h]
theorem put_len (ws:List Nat) (c:Nat):(putC ws c).length=ws.length:=List.length_set
theorem put_has {ws:List Nat} {c:Nat} (h:c/64<ws.length) (d:Nat):hasC (putC ws c) d=(hasC ws d||decide (c=d)):=by
 unfold hasC putC
 by_cases hw:c/64=d/64
 · have e:word (ws.set (c/64) (word ws (c/64) ||| 2 ^ (c%64))) (d/64)=word ws (d/64) ||| 2 ^ (c%64):=by
    rw [←hw]
    unfold word
    rw [List.getD_eq_getElem?_getD,List.getElem?_set_self h]
    rfl
   rw [e,Nat.testBit_or,Nat.testBit_two_pow]
   congr 1
   rw [decide_eq_decide]
   omega
 · have e:word (ws.set (c/64) (word ws (c/64) ||| 2 ^ (c%64))) (d/64)=word ws (d/64):=by
    unfold word
    simp only [List.getD_eq_getElem?_getD,List.getElem?_set_ne hw]
   rw [e]
   have:¬c=d:=fun h=>hw (by rw [h])
   rw [decide_eq_false this,Bool.or_false]
theorem word_lt {ws:List Nat} (h:Small ws) (k:Nat):word ws k<18446744073709551616:=by
 unfold word
 rw [List.getD_eq_getElem?_getD]
 cases hk:ws[k]? with
 | none=>simp
 | some x=>exact h x (List.mem_of_getElem? hk)
theorem put_small {ws:List Nat} (h:Small ws) (c:Nat):Small (putC ws c):=by
 intro x hx
 unfold putC at hx
 rcases List.mem_or_eq_of_mem_set hx with hx | rfl
 · exact h x hx
 · exact Nat.or_lt_two_pow (n:=64) (word_lt h _) (Nat.pow_lt_pow_right (by decide) (Nat.mod_lt _ (by decide)))
def moreW (ws:List Nat) (n:Nat):List Nat:=ws++List.replicate n 0
theorem more_word (ws:List Nat) (n k:Nat):word (moreW ws n) k=word ws k:=by
 unfold word moreW
 rw [List.getD_eq_getElem?_getD,List.getD_eq_getElem?_getD]
 rcases Nat.lt_or_ge k ws.length with h | h
 · rw [List.getElem?_append_left h]
 · rw [List.getElem?_append_right h,List.getElem?_eq_none h,List.getElem?_replicate]
   split <;> rfl
theorem more_has (ws:List Nat) (n c:Nat):hasC (moreW ws n) c=hasC ws c:=by unfold hasC;rw [more_word]
theorem more_small {ws:List Nat} (h:Small ws) (n:Nat):Small (moreW ws n):=by
 intro x hx
 rcases List.mem_append.1 hx with hx | hx
 · exact h x hx
 · rw [List.eq_of_mem_replicate hx];decide
theorem more_len (ws:List Nat) (n:Nat):(moreW ws n).length=ws.length+n:=by unfold moreW;simp
theorem more_words (ws:List Nat) (n:Nat):words (moreW ws n)=words ws++List.replicate n (.int .u64 0):=by unfold words moreW;simp
theorem nil_has (c:Nat):hasC [] c=false:=by unfold hasC word;simp
theorem words_set (ws:List Nat) (c:Nat):words (putC ws c)=(words ws).set (c/64) (.int .u64 ((word ws (c/64) ||| 2 ^ (c%64):Nat):Int)):=by unfold words putC;rw [List.map_set]
theorem ofIntU (x:Nat) (h:x<18446744073709551616):(BitVec.ofInt 64 (x:Int)).toNat=x:=by
 rw [BitVec.toNat_ofInt]
 omega
theorem wrapU (n:Nat) (h:n<18446744073709551616):IntKind.u64.wrap (n:Int)=n:=by
 simp [IntKind.wrap,IntKind.bits,IntKind.signed]
 omega
theorem pow_lt64 {k:Nat} (h:k<64):2 ^ k<18446744073709551616:=Nat.pow_lt_pow_right (n:=64) (by decide) h
theorem andU (x y:Nat) (hx:x<18446744073709551616) (hy:y<18446744073709551616):bits .and .u64 (x:Int) (y:Int)=((x &&& y:Nat):Int):=by
 show IntKind.u64.wrap ((BitVec.ofInt 64 (x:Int) &&& BitVec.ofInt 64 (y:Int)).toNat:Int)=_
 rw [BitVec.toNat_and,ofIntU x hx,ofIntU y hy]
 exact wrapU _ (Nat.lt_of_le_of_lt Nat.and_le_left hx)
theorem orU (x y:Nat) (hx:x<18446744073709551616) (hy:y<18446744073709551616):bits .or .u64 (x:Int) (y:Int)=((x ||| y:Nat):Int):=by
 show IntKind.u64.wrap ((BitVec.ofInt 64 (x:Int) ||| BitVec.ofInt 64 (y:Int)).toNat:Int)=_
 rw [BitVec.toNat_or,ofIntU x hx,ofIntU y hy]
 exact wrapU _ (Nat.or_lt_two_pow (n:=64) hx hy)
theorem and_pow (x k:Nat):(x &&& 2 ^ k=0)↔x.testBit k=false:=by
 constructor
 · intro h
   have:=congrArg (fun y=>Nat.testBit y k) h
   simpa [Nat.testBit_and,Nat.testBit_two_pow_self] using this
 · intro h
   apply Nat.eq_of_testBit_eq
   intro i
   rw [Nat.testBit_and,Nat.testBit_two_pow,Nat.zero_testBit]
   by_cases e:k=i
   · subst e;rw [h];rfl
   · rw [decide_eq_false e,Bool.and_false]
def Tells (ws:List Nat) (ls:List Sp):Prop:=Small ws∧∀ c:Nat,hasC ws c=true↔∃ s∈ls,s.a≤c∧c≤s.b
def Partly (ws0 ws:List Nat) (a c:Nat):Prop:=ws.length=ws0.length∧Small ws∧(∀ d,hasC ws d=(hasC ws0 d||decide (a≤d∧d<c)))∧∀ d,a≤d→d<c→hasC ws0 d=false
theorem partly_nil {ws:List Nat} (h:Small ws) (a:Nat):Partly ws ws a a:=⟨rfl,h,fun d=>by rw [decide_eq_false (by omega),Bool.or_false],fun d h1 h2=>by omega⟩
theorem partly_old {ws0 ws:List Nat} {a c:Nat} (h:Partly ws0 ws a c):hasC ws c=hasC ws0 c:=by rw [h.2.2.1,decide_eq_false (by omega),Bool.or_false]
theorem partly_next {ws0 ws:List Nat} {a c:Nat} (h:Partly ws0 ws a c) (hac:a≤c) (hc:c/64<ws.length) (hn:hasC ws c=false):Partly ws0 (putC ws c) a (c+1):=by
 refine⟨by rw [put_len,h.1],put_small h.2.1 c,fun d=>?_,fun d h1 h2=>?_⟩
 · rw [put_has hc,h.2.2.1,Bool.or_assoc]
   congr 1
   rw [Bool.eq_iff_iff]
   simp only [Bool.or_eq_true,decide_eq_true_eq]
   omega
 · rcases Nat.lt_or_ge d c with hd | hd
   · exact h.2.2.2 d h1 hd
   · obtain rfl:d=c:=by omega
     rw [←partly_old h];exact hn
def AddsTo (ws0:List Nat) (a b:Nat):Bool→List Nat→Prop
 | true,ws=>Small ws∧(∀ d,hasC ws d=(hasC ws0 d||decide (a≤d∧d≤b)))∧∀ d,a≤d→d≤b→hasC ws0 d=false
 | false,_=>∃ d,a≤d∧d≤b∧hasC ws0 d=true
theorem adds_ok {ws0 ws:List Nat} {ls:List Sp} {s:Sp} {a b:Nat} (ht:Tells ws0 ls) (hf:∀ t∈ls,t.a≤t.b∧0≤t.a) (ha:s.a=a) (hb:s.b=b) (hab:a≤b) (hs:Fit s) (h:AddsTo ws0 a b true ws):check ls s=0∧Tells ws (ls ++ [s]):=by
 obtain⟨h1,h2,h3⟩:=h
 refine⟨check_ok.2 ⟨hs,fun t hm=>?_⟩,h1,fun c=>?_⟩
 · cases hmt:meets t s with
   | false=>rfl
   | true=>
    exfalso
    unfold meets at hmt
    simp only [Bool.and_eq_true,decide_eq_true_eq] at hmt
    have hq:=hf t hm
    obtain⟨m,hm1,hm2,hm3,hm4⟩:∃ m:Nat,a≤m∧m≤b∧t.a≤m∧m≤t.b:=by
     rcases Nat.lt_or_ge a t.a.toNat with h | h
     · exact⟨t.a.toNat,by omega,by omega,by omega,by omega⟩
     · exact⟨a,by omega,by omega,by omega,by omega⟩
    have:=h3 m hm1 hm2
    rw [(ht.2 m).2 ⟨t,hm,hm3,hm4⟩] at this
    cases this
 · rw [h2]
   simp only [Bool.or_eq_true,decide_eq_true_eq,List.mem_append,List.mem_singleton]
   rw [ht.2 c]
   constructor
   · rintro (⟨t,h4,h5⟩ | ⟨h4,h5⟩)
     · exact⟨t,.inl h4,h5⟩
     · exact⟨s,.inr rfl,by omega,by omega⟩
   · rintro⟨t,h4 | rfl,h5⟩
     · exact .inl ⟨t,h4,h5⟩
     · exact .inr ⟨by omega,by omega⟩
theorem adds_no {ws0 ws:List Nat} {ls:List Sp} {s:Sp} {a b:Nat} (ht:Tells ws0 ls) (ha:s.a=a) (hb:s.b=b) (hs:Fit s) (h:AddsTo ws0 a b false ws):check ls s=15:=by
 obtain⟨d,h1,h2,h3⟩:=h
 obtain⟨t,h4,h5,h6⟩:=(ht.2 d).1 h3
 have hany:ls.any (meets · s)=true:=by
  rw [List.any_eq_true]
  refine⟨t,h4,?_⟩
  unfold meets
  simp only [Bool.and_eq_true,decide_eq_true_eq]
  omega
 obtain⟨f1,f2,f3,f4⟩:=hs
 unfold check
 rw [if_neg (by omega),if_neg f4,if_pos hany]
theorem tells_nil:Tells [] []:=⟨fun x h=>(by cases h),fun c=>by rw [nil_has];simp⟩
end Go.Proofs.YtbkgbhlmeeodgaaGreatDoor.Pq
namespace Go.Proofs.YtbkgbhlmeeodgaaGreatDoor
open Go.RowKit
theorem zero_cells (z:Value) (hz:z.cells=#[z]) (n:Nat):(Builtin.zeroCells z.cells n).toList=List.replicate n z:=by
 rw [hz]
 apply List.ext_getElem?
 intro j
 by_cases hj:j<n
 · simp [Builtin.zeroCells,hj,Nat.mod_one]
 · simp [Builtin.zeroCells,hj]
theorem run_zeros_room {P:Program} (w:World) (t tn ty e:TypeId) (i:TypeInfo) (z:Value) (kq kn:IntKind) (ht:P.underlying t=some (.slice e)) (htn:P.underlying tn=some (.int kn)) (hi:P.info? e=some i) (hz:i.zero=some z) (hsize:i.size=1) (hz1:z.cells=#[z]) (ho1:z.oneCell'=true)
 (g sLen sCap k:Nat) (cur:Array Value) (hg:w.heap[g]? = some (.cells cur e (0,0))) (h0:0<k) (h63:(k:Int)≤9223372036854775807) (h48:k*i.bytes≤281474976710656) (hroom:sLen+k≤sCap) (hfit:sLen+k≤cur.size):
 (Builtin.append_ #[t,tn] ty #[.slice (some ⟨g,0,none⟩) sLen sCap,.int kq k]).run P w =
  .ok (.slice (some ⟨g,0,none⟩) (sLen+k) sCap) (w.setRow g (cur.toList.take sLen++List.replicate k z++cur.toList.drop (sLen+k)).toArray):=by
 have hst:=run_storeCells_at P g sLen e (List.replicate k z) 0 cur w hg (by simpa using hfit) (fun u hu=>by rw [List.eq_of_mem_replicate hu];exact ho1)
 simp only [Nat.add_zero,List.length_replicate] at hst
 have hk:k≠0:=by omega
 have hw:IntKind.i64.wrap (k:Int)=k:=by rw [IntKind.wrap_i64];omega
 have h48i:¬(281474976710656<(k:Int)*(i.bytes:Int)):=by
  rw [←Int.natCast_mul]
  omega
 have hneg:¬((k:Int)<0):=by omega
 have hzc:=zero_cells z hz1 k
 simp [Builtin.append_,run_underlying ht,run_underlying htn,sizeOf,typeInfo,zeroValue,hi,hz,asInt,asIntOf,hw,hk,hneg,hsize,h48i,hroom,Addr.add_lit,hzc,hst]
theorem run_append_own_zeros {P:Program} (w:World) (base:Nat) (t tn ty e:TypeId) (i:TypeInfo) (z:Value) (bytes:Nat) (kq kn:IntKind) (ht:P.underlying t=some (.slice e)) (htn:P.underlying tn=some (.int kn)) (hi:P.info? e=some i) (hz:i.zero=some z)
 (hsize:i.size=1) (hby:i.bytes=bytes) (hz1:z.cells=#[z]) (ho1:z.oneCell'=true)
 (v:Value) (n:Nat) (xs:List Value) (hown:w.ownsRow base e 1 v n xs) (k:Nat) (h0:0<k) (h63:n+k≤maxLen) (hbytes:(n+k)*bytes≤140737488355328) (hbase:base≤w.heap.size):
 ∃ v' w',(Builtin.append_ #[t,tn] ty #[v,.int kq k]).run P w=.ok v' w'∧w'.ownsRow base e 1 v' (n+k) (xs++List.replicate k z)∧w.grownBy w' v.ownBlock∧∀ j,j<w.heap.size→v'.ownBlock=some j→v.ownBlock=some j:=by
 subst hby
 have hsmall:n+k≤9223372036854775807:=by simp only [maxLen] at h63;omega
 have hxs:xs.length=n:=by have:=hown.1;omega
 have hkb:k*i.bytes≤281474976710656:=by
  have:k*i.bytes≤(n+k)*i.bytes:=Nat.mul_le_mul_right _ (by omega)
  omega
 have hlen:(xs++List.replicate k z).length=(n+k)*1:=by rw [List.length_append,hxs,List.length_replicate];omega
 have hzk:=zero_cells z hz1
 have grown:∀ (old:Nat),old<n+k→∀ (row:Option Nat),
  (w.drew.alloc (.cells (xs.toArray++Builtin.zeroCells z.cells k++Builtin.zeroCells z.cells (grownCap w (n+k) old e-(n+k))) e)).ownsRow base e 1
   (.slice (some ⟨w.heap.size,0,none⟩) (n+k) (grownCap w (n+k) old e)) (n+k) (xs++List.replicate k z) ∧
  w.grownBy (w.drew.alloc (.cells (xs.toArray++Builtin.zeroCells z.cells k++Builtin.zeroCells z.cells (grownCap w (n+k) old e-(n+k))) e)) row:=by
  intro old ho row
  have hge:=grownCap_ge w (n+k) old e
  have hcm:grownCap w (n+k) old e≤maxLen:=grownCap_le_maxLen w (n+k) old e h63
  refine⟨⟨hlen,.inr ⟨w.heap.size,_,_,rfl,hbase,heap_alloc_new w.drew _,hge,hcm,?_,?_⟩⟩,⟨rfl,rfl,rfl,by simp,fun k hk _=>Below.heap_alloc w.drew _ k hk⟩⟩
  · simp only [Array.size_append,List.size_toArray,size_zeroCells,hz1,hxs,List.length_cons,List.length_nil]
    omega
  · simp only [Array.toList_append,List.append_assoc,hzk]
    rw [←List.append_assoc,←hlen]
    exact List.take_left
 rcases hown.2 with ⟨rfl,rfl⟩ | ⟨g,cap,cur,rfl,hbg,hg,hnc,hcm,hcs,htake⟩
 · have hx:xs = []:=List.eq_nil_of_length_eq_zero hxs
   subst hx
   have hr:=Lib.run_append_nil_zeros (P:=P) w t tn ty e i z kq kn ht htn hi hz k h0 (by omega) (by omega) hkb
   have hgr:=grown 0 (by omega) (Value.ownBlock (.slice none 0 0))
   simp only [Nat.zero_add,List.nil_append,Array.empty_append] at hgr ⊢
   exact⟨_,_,hr,hgr.1,hgr.2,fun j hj e=>by cases e;exact absurd hj (Nat.lt_irrefl _)⟩
 · by_cases hroom:n+k≤cap
   · have hr:=run_zeros_room (P:=P) w t tn ty e i z kq kn ht htn hi hz hsize hz1 ho1 g n cap k cur hg h0 (by omega) hkb hroom (by omega)
     refine⟨_,_,hr,⟨hlen,.inr ⟨g,cap,_,rfl,hbg,setRow_heap w g cur _ e _ hg,hroom,hcm,?_,?_⟩⟩,⟨rfl,rfl,rfl,by simp,fun k _ hk=>setRow_other w g k _ (fun e=>hk (by simp [Value.ownBlock,e]))⟩,fun j _ e=>e⟩
     · simp only [List.size_toArray,List.length_append,List.length_take,List.length_drop,Array.length_toList,List.length_replicate]
       omega
     · rw [Nat.mul_one] at htake
       rw [htake,←hlen]
       exact List.take_left
   · have hold:(Builtin.firstCells i.size n (.slice (some ⟨g,0,none⟩) n cap)).run P w.drew=.ok xs.toArray w.drew:=run_firstCells_some (P:=P) w.drew i.size n ⟨g,0,none⟩ n cap xs (by rw [hsize];omega) (fun j u hj=>hown.cells (g:=g) rfl j u hj)
     have hr:=Lib.run_append_grow_zeros (P:=P) w t tn ty e i z kq kn ht htn hi hz (some ⟨g,0,none⟩) n cap xs hold k h0 (by omega) (by omega) (by omega) hkb (growslice_fits (by omega) hbytes)
     have hgr:=grown cap (by omega) (Value.ownBlock (.slice (some ⟨g,0,none⟩) n cap))
     exact⟨_,_,hr,hgr.1,hgr.2,fun j hj e=>by cases e;exact absurd hj (Nat.lt_irrefl _)⟩
end Go.Proofs.YtbkgbhlmeeodgaaGreatDoor
