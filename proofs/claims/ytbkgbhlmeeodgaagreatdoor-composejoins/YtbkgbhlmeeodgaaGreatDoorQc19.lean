/- A part. -/
import Derived.Test.YtbkgbhlmeeodgaaGreatDoorQc18
import Derived.Deep.CutBlock
import Derived.Deep.CutRange
import Derived.Test.YtbkgbhlmeeodgaaGreatDoorQc13
namespace Go.Proofs.YtbkgbhlmeeodgaaGreatDoor.Uc
open Go.RowKit Go.Shelf Go.Sort
theorem grown_cells {W W':World} {row:Option Nat} {b:Nat} {o:Obj} (hg:W.grownBy W' row) (hr:∀ r,row=some r→∃ o:Obj,W.heap[r]? = some o∧o.isCells=false) (hb:W.heap[b]? = some o) (ho:o.isCells=true):W'.heap[b]? = W.heap[b]?:=by
 refine hg.block b (Array.getElem?_eq_some_iff.1 hb).1 (fun e=>?_)
 obtain⟨o',h1,h2⟩:=hr b e.symm
 rw [hb] at h1
 cases h1
 rw [ho] at h2
 cases h2
theorem grown_cell {W W':World} {row:Option Nat} {a:Addr} {v:Value} (hg:W.grownBy W' row) (hr:∀ r,row=some r→∃ o:Obj,W.heap[r]? = some o∧o.isCells=false) (hc:W.cell? a=some v):W'.heap[a.block]? = W.heap[a.block]?:=by
 obtain⟨o,ho,hcl⟩:=cells_of_cell hc
 exact grown_cells hg hr ho hcl
theorem RdrI.grown {R base:Nat} {ps:List Pr} {op:Option Ln} {W W':World} {row:Option Nat} (h:RdrI R base ps op W) (hg:W.grownBy W' row) (hr:∀ r,row=some r→∃ o:Obj,W.heap[r]? = some o∧o.isCells=false):RdrI R base ps op W':=by
 obtain⟨v,ls,num,nm,bare,s,hx,⟨h1,h2,h3,h4⟩,h5⟩:=h
 refine⟨v,ls,num,nm,bare,s,rbx_block hx (grown_cell (a:=⟨R,0,none⟩) hg hr hx.1.1),⟨own_block h1 fun k e=>?_,Ist.blocks hg.size h2 fun t ht hd a ha hlt=>?_,h3,h4⟩,h5⟩
 · rcases h1.2 with ⟨rfl,-⟩ | ⟨g,cap,cur,rfl,-,hgg,-⟩
   · cases e
   · have e:some g=some k:=e
     cases e
     exact grown_cells hg hr hgg rfl
 · obtain⟨p,-,hp⟩:=ist_mem h2 ht
   obtain⟨b,off,e,-,hc⟩:=hp.2.2.2.2.2.2.2 hd
   rw [ha] at e
   cases e
   have hl:=hp.2.2.2.2.2.2.1
   have:=hc 0 _ (List.getElem?_eq_getElem (by rw [hl];exact hd))
   exact grown_cell (a:=⟨b,off+0,none⟩) hg hr this
theorem rdr_abide {β:Type} {R base B:Nat} (ps:β → List Pr) (op:β → Option Ln):Abide 0 0 B (fun s W=>RdrI R base (ps s) (op s) W):=fun _ _ _ _ hs hg hr=>hs.grown hg (fun r e=>(hr r e).elim (fun h=>absurd h.2 (by omega)) (fun h=>h.2))
def PA (H R:Nat) (W:World) (k:Nat):Prop:=GA R W k∧(k≠H∧k≠H+1∧k≠H+2)
theorem pa_lets (H R:Nat):Lets (PA H R):=(ga_lets R).and _
theorem pa_hold {H R:Nat} {W W':World} (h:Hold (GA R) W W'):Hold (PA H R) W W':=⟨h.1,fun k ha hk=>have q:=h.2 k ha.1 hk;⟨q.1,q.2,ha.2⟩⟩
def RB3 (H:Nat) (p:Option Addr) (e n:Int) (W:World):Prop:=
 (W.cell? ⟨H,0,none⟩=some (.pointer p)∧W.frozen? ⟨H,0,none⟩=false)∧((W.cell? ⟨H+1,0,none⟩=some (.int .i64 e)∧W.frozen? ⟨H+1,0,none⟩=false)∧(W.cell? ⟨H+2,0,none⟩=some (.int .i64 n)∧W.frozen? ⟨H+2,0,none⟩=false))
theorem rb3_abide {β:Type} {B:Nat} (H:Nat) (p:β → Option Addr) (e n:β → Int):Abide 0 0 B (fun s W=>RB3 H (p s) (e s) (n s) W):=
 Abide.and (abide_cell (fun _=>⟨H,0,none⟩) (fun s=>.pointer (p s)) (fun _=>by omega)) (Abide.and (abide_cell (fun _=>⟨H+1,0,none⟩) (fun s=>.int .i64 (e s)) (fun _=>by omega)) (abide_cell (fun _=>⟨H+2,0,none⟩) (fun s=>.int .i64 (n s)) (fun _=>by omega)))
theorem RB3.below {H:Nat} {p:Option Addr} {e n:Int} {W W':World} (h:RB3 H p e n W) {B:Nat} (hl:H+2<B) (hb:Below B W W'):RB3 H p e n W':=
 ⟨⟨(hb.cell (p:=⟨H,0,none⟩) (by show H<B;omega)).trans h.1.1,(hb.frozen (p:=⟨H,0,none⟩) (by show H<B;omega)).trans h.1.2⟩,⟨(hb.cell (p:=⟨H+1,0,none⟩) (by show H+1<B;omega)).trans h.2.1.1,(hb.frozen (p:=⟨H+1,0,none⟩) (by show H+1<B;omega)).trans h.2.1.2⟩,(hb.cell (p:=⟨H+2,0,none⟩) (by show H+2<B;omega)).trans h.2.2.1,(hb.frozen (p:=⟨H+2,0,none⟩) (by show H+2<B;omega)).trans h.2.2.2⟩
def stOf (xs:List LnV):St:=(xs.map view).foldl step (.at [] none)
theorem st_snoc (xs:List LnV) (x:LnV):stOf (xs ++ [x])=step (stOf xs) (view x):=by unfold stOf;rw [List.map_append,List.foldl_append];rfl
def PaI (w:World) (base:Nat) (pre:List LnV) (W:World):Prop:=
 ∃ s:List Pr×Option Ln,(stOf pre=.at s.1 s.2∧s.1.length≤pre.length)∧(RdrI (w.heap.size+3) base s.1 s.2 W∧(RB3 w.heap.size none 0 0 W∧(ML W∧Below w.heap.size w W)))
def PaX (w:World) (c:Code) (pre:List LnV) (W:World):Prop:=
 ∃ s:Int×Int,(c=.ret∧stOf pre=.bad s.1 s.2∧¬s.1=0)∧(RB3 w.heap.size none s.1 s.2 W∧Below w.heap.size w W)
theorem pai_abide (w:World) (base B:Nat) (hB:w.heap.size≤B):Abide 0 0 B (PaI w base):=by
 intro pre W W' row ⟨s,h1,h2,h3,h4,h5⟩ hg hr
 exact⟨s,h1,rdr_abide (β:=Unit) (B:=B) (fun _=>s.1) (fun _=>s.2) () W W' row h2 hg hr,rb3_abide (β:=Unit) (B:=B) _ (fun _=>none) (fun _=>0) (fun _=>0) () W W' row h3 hg hr,ml_abide (β:=Unit) (B:=B) () W W' row h4 hg hr,abide_below (β:=Unit) w (.inr (by omega)) hB (Nat.le_refl _) () W W' row h5 hg hr⟩
theorem pax_abide (w:World) (B:Nat) (hB:w.heap.size≤B) (c:Code):Abide 0 0 B (PaX w c):=by
 intro pre W W' row ⟨s,h1,h3,h5⟩ hg hr
 exact⟨s,h1,rb3_abide (β:=Unit) (B:=B) _ (fun _=>none) (fun _=>s.1) (fun _=>s.2) () W W' row h3 hg hr,abide_below (β:=Unit) w (.inr (by omega)) hB (Nat.le_refl _) () W W' row h5 hg hr⟩
theorem rdr_free {R base:Nat} {ps:List Pr} {op:Option Ln} {W:World} (h:RdrI R base ps op W):∀ k,W.heap.size≤k→GA R W k:=by
 obtain⟨v,ls,num,nm,bare,s,hx,hr,-⟩:=h
 intro k hk
 have:=hx.lt
 exact⟨v,hx.1.1,by omega,fun e=>by have:=(hr.1.lt k e).2;omega⟩
def rb3_set (H:Nat) (p:Option Addr) (e n:Int) (W:World):World:=((W.setCell ⟨H,0,none⟩ (.pointer p)).setCell ⟨H+1,0,none⟩ (.int .i64 e)).setCell ⟨H+2,0,none⟩ (.int .i64 n)
theorem rb3_new {H:Nat} {p p':Option Addr} {e n e' n':Int} {W:World} (h:RB3 H p e n W):RB3 H p' e' n' (rb3_set H p' e' n' W):=by
 obtain⟨⟨h1,h2⟩,⟨h3,h4⟩,h5,h6⟩:=h
 unfold rb3_set
 refine⟨⟨by simp [go_sem,h1],?_⟩,⟨by simp [go_sem,h3],?_⟩,by simp [go_sem,h5],?_⟩ <;> simp only [World.frozen?_setCell] <;> assumption
theorem rb3_other {H k:Nat} {p:Option Addr} {e n:Int} {W:World} (h:k≠H∧k≠H+1∧k≠H+2):(rb3_set H p e n W).heap[k]? = W.heap[k]?:=by
 unfold rb3_set
 rw [heap_setCell_other _ ⟨H+2,0,none⟩ k _ (fun e=>h.2.2 (by simpa using e)),heap_setCell_other _ ⟨H+1,0,none⟩ k _ (fun e=>h.2.1 (by simpa using e)),heap_setCell_other _ ⟨H,0,none⟩ k _ (fun e=>h.1 (by simpa using e))]
theorem rb3_size {H:Nat} {p:Option Addr} {e n:Int} {W:World}:(rb3_set H p e n W).heap.size=W.heap.size:=by unfold rb3_set;simp only [World.size_setCell]
theorem rb3_below {w:World} {p:Option Addr} {e n:Int} {W:World} (h:Below w.heap.size w W):Below w.heap.size w (rb3_set w.heap.size p e n W):=by
 unfold rb3_set
 exact ((h.setCell (p:=⟨w.heap.size,0,none⟩) (Nat.le_refl _) _).setCell (p:=⟨w.heap.size+1,0,none⟩) (by show w.heap.size≤w.heap.size+1;omega) _).setCell (p:=⟨w.heap.size+2,0,none⟩) (by show w.heap.size≤w.heap.size+2;omega) _
theorem rb3_hold {H R:Nat} {p:Option Addr} {e n:Int} {W:World} (hR:R≠H∧R≠H+1∧R≠H+2):Hold (PA H R) W (rb3_set H p e n W):=
 ⟨by rw [rb3_size];exact Nat.le_refl _,fun k ha _=>⟨rb3_other ha.2,(by
  obtain⟨⟨v,h1,h2⟩,h3⟩:=ha
  exact⟨⟨v,(World.cell?_of_block (a:=⟨R,0,none⟩) (rb3_other hR)).trans h1,h2⟩,h3⟩)⟩⟩
theorem rat_block {W W':World} {A:Option Addr} {n:Nat} {ls:List Rw} (h:RAt W A n ls) (hs:W.heap.size≤W'.heap.size) (he:∀ a,A=some a→W'.heap[a.block]? = W.heap[a.block]?):RAt W' A n ls:=by
 refine⟨h.1,fun hn=>?_⟩
 obtain⟨b,off,rfl,hlt,hc⟩:=h.2 hn
 refine⟨b,off,rfl,Nat.lt_of_lt_of_le hlt hs,fun j s hj=>?_⟩
 obtain⟨h1,h2,h3,h4,h5,h6⟩:=hc j s hj
 have c:∀ i u,W.cell? ⟨b,i,none⟩=some u→W'.cell? ⟨b,i,none⟩=some u:=fun i u hu=>(World.cell?_of_block (a:=⟨b,i,none⟩) (he ⟨b,off,none⟩ rfl)).trans hu
 exact⟨c _ _ h1,c _ _ h2,c _ _ h3,c _ _ h4,c _ _ h5,c _ _ h6⟩
def Fresh (B:Nat) (A:Option Addr) (ls:List Rw):Prop:=(∀ a,A=some a→B≤a.block)∧∀ t∈ls,0<t.dm→∀ a,t.dp=some a→B≤a.block
def ParsePost (l:List UInt8) (w:World) (e:Ending) (w':World):Prop:=
 Below w.heap.size w w'∧(((parseOf (linesIn l)).err=0∧∃ b A c ls,e=.returned (.tuple #[.pointer (some ⟨b,0,none⟩),.int .i64 0,.int .i64 0])∧w.heap.size≤b∧TIn w' (some ⟨b,0,none⟩) A c ls∧Ist w' ls (parseOf (linesIn l)).rows∧Fresh w.heap.size A ls) ∨
  (¬(parseOf (linesIn l)).err=0∧e=.returned (.tuple #[.pointer none,.int .i64 (parseOf (linesIn l)).err,.int .i64 (parseOf (linesIn l)).num])))
theorem put_other {W:World} {D k:Nat} {o:Obj} (h:k≠D):(W.putObj D o).heap[k]? = W.heap[k]?:=World.putObj_heap_other h
theorem table_done {w W:World} {base D n c:Nat} {A:Option Addr} {ls:List Rw} {ps:List Pr} (hn:ls.length=n) (hr:RRows (w.heap.size+3) base (.slice A n c) ls ps W) (hD:W.heap[D]? = some (.deferred (some []))) (hb:Below w.heap.size w W) (hDw:w.heap.size+3<D) (hbase:w.heap.size+3<W.heap.size):
 let X:=(rb3_set w.heap.size (some ⟨W.heap.size,0,none⟩) 0 0 (W.alloc (.cells #[.slice A n c] 168))).putObj D (.deferred none)
 Below w.heap.size w X∧TIn X (some ⟨W.heap.size,0,none⟩) A c ls∧Ist X ls ps∧Fresh w.heap.size A ls:=by
 intro X
 obtain⟨h1,h2,h3,h4⟩:=hr
 have hDl:D<W.heap.size:=(Array.getElem?_eq_some_iff.1 hD).1
 have ho:∀ k,k<W.heap.size→k≠D→(k≠w.heap.size∧k≠w.heap.size+1∧k≠w.heap.size+2)→X.heap[k]? = W.heap[k]?:=fun k hk hkD hk3=>by
  show ((rb3_set w.heap.size _ 0 0 (W.alloc _)).putObj D _).heap[k]? = _
  rw [put_other hkD,rb3_other hk3]
  exact Below.heap_alloc W _ k hk
 have hsz:X.heap.size=W.heap.size+1:=by
  show ((rb3_set w.heap.size _ 0 0 (W.alloc _)).putObj D _).heap.size=_
  rw [World.putObj_size,rb3_size,World.size_alloc]
 have hcD:∀ k o,W.heap[k]? = some o→o.isCells=true→k≠D:=fun k o hk hc e=>by
  subst e
  rw [hD] at hk
  cases hk
  cases hc
 have hbox:X.cell? ⟨W.heap.size,0,none⟩=some (.slice A n c):=by
  refine (World.cell?_of_block (a:=⟨W.heap.size,0,none⟩) (w:=W.alloc (.cells #[.slice A n c] 168)) ?_).trans (by simp)
  show ((rb3_set w.heap.size _ 0 0 (W.alloc _)).putObj D _).heap[W.heap.size]? = _
  rw [put_other (by omega),rb3_other ⟨by omega,by omega,by omega⟩]
 have hrat:RAt W A n ls:=by
  rw [←hn] at h1
  obtain⟨A',c',e,-,hr',-⟩:=own_rat h1
  cases e
  rw [←hn]
  exact hr'
 refine⟨?_,.inr ⟨W.heap.size,rfl,by omega,by rw [hn];exact hbox,?_⟩,?_,fun a ha=>?_,fun t ht hd a ha=>?_⟩
 · have hk2:(rb3_set w.heap.size (some ⟨W.heap.size,0,none⟩) 0 0 (W.alloc (.cells #[.slice A n c] 168))).heap[D]? = some (.deferred (some [])):=by
    rw [rb3_other ⟨by omega,by omega,by omega⟩]
    exact (Below.heap_alloc W _ D hDl).trans hD
   exact (rb3_below (hb.alloc (by omega) _)).trans (belowK_b (w:=w) (Nat.le_refl _) _ D _ _ (by omega) hk2 rfl rfl)
 · rw [hn]
   refine rat_block hrat (by omega) fun a ha=>?_
   rcases h1.2 with ⟨e,-⟩ | ⟨g,cap,cur,e,hg1,hg2,-⟩
   · cases e
     cases ha
   · cases e
     cases ha
     exact ho g (Array.getElem?_eq_some_iff.1 hg2).1 (hcD g _ hg2 rfl) ⟨by omega,by omega,by omega⟩
 · refine Ist.blocks (W:=W) (by omega) h2 fun t ht hd a ha hlt=>?_
   have h3':=(h3 t ht hd a ha).2
   obtain⟨p,-,hp⟩:=ist_mem h2 ht
   obtain⟨b,off,e,-,hc⟩:=hp.2.2.2.2.2.2.2 hd
   rw [ha] at e
   cases e
   have hl:=hp.2.2.2.2.2.2.1
   have hc0:=hc 0 _ (List.getElem?_eq_getElem (by rw [hl];exact hd))
   obtain⟨o,ho1,ho2⟩:=cells_of_cell hc0
   exact ho b hlt (hcD b o ho1 ho2) ⟨by simp only at h3';omega,by simp only at h3';omega,by simp only at h3';omega⟩
 · rcases h1.2 with ⟨e,-⟩ | ⟨g,cap,cur,e,hg1,hg2,-⟩
   · cases e
     cases ha
   · cases e
     cases ha
     show w.heap.size≤g
     omega
 · have:=(h3 t ht hd a ha).2
   omega
end Go.Proofs.YtbkgbhlmeeodgaaGreatDoor.Uc
namespace Go.Proofs.YtbkgbhlmeeodgaaGreatDoor
open Go.RowKit
def bunV (v0 v1 v2 v3 v4 v5 v6:Value):Nat→Value:=fun i=>match i with
 | 0=>v0 | 1=>v1 | 2=>v2 | 3=>v3 | 4=>v4 | 5=>v5 | _=>v6
theorem new_at (w:World) (C:Array Value) (t:TypeId) (n i:Nat) (hn:n=w.heap.size):(w.alloc (.cells C t)).cell? ⟨n,i,none⟩=C[i]?:=World.cell?_alloc_at _ _ _ _ hn
theorem old_at (w:World) (o:Obj) (n i:Nat) (hn:n<w.heap.size):(w.alloc o).cell? ⟨n,i,none⟩=w.cell? ⟨n,i,none⟩:=World.cell?_alloc_past _ _ _ hn
theorem old_fro (w:World) (o:Obj) (n i:Nat) (hn:n<w.heap.size):(w.alloc o).frozen? ⟨n,i,none⟩=w.frozen? ⟨n,i,none⟩:=World.frozen?_alloc_past _ _ _ hn
theorem new_fro (w:World) (C:Array Value) (t:TypeId) (n i:Nat) (hn:n=w.heap.size):(w.alloc (.cells C t)).frozen? ⟨n,i,none⟩=false:=by subst hn;exact frozen_new w C t i
theorem seven_at (v0 v1 v2 v3 v4 v5 v6:Value):∀ i,i<7→(#[v0,v1,v2,v3,v4,v5,v6]:Array Value)[i]? = some (bunV v0 v1 v2 v3 v4 v5 v6 i)
 | 0,_=>rfl | 1,_=>rfl | 2,_=>rfl | 3,_=>rfl | 4,_=>rfl | 5,_=>rfl | 6,_=>rfl
 | _+7,h=>absurd h (by omega)
theorem three_at:∀ i,i<3→(#[.int .i64 0,.int .i64 0,.int .i64 0]:Array Value)[i]? = some (.int .i64 0)
 | 0,_=>rfl | 1,_=>rfl | 2,_=>rfl
 | _+3,h=>absurd h (by omega)
section
variable {w W:World} {bv g:Nat→Value} {R:Option Addr} {n c:Nat} {ls:List Uc.Rw} {ps:List Uc.Pr} {F:Nat} {f:Nat→List UInt8} {k:Nat}
end
def whV (x:Wh):Value:=.agg #[.int .i64 x.file,.int .i64 x.line,.int .i64 x.err]
def setR (w W:World) (a b c:Int):World:=((W.setCell ⟨w.heap.size+1,0,none⟩ (.int .i64 a)).setCell ⟨w.heap.size+1,1,none⟩ (.int .i64 b)).setCell ⟨w.heap.size+1,2,none⟩ (.int .i64 c)
theorem pat_row:∀ {ps:List Uc.Pr},Uc.Good ps→∀ r∈ps,Uc.patOf ps r.a=r
 | [],_,_,h=>by cases h
 | p::ps,hg,r,hr=>by
  have hp:=List.pairwise_cons.1 hg.1
  rcases List.mem_cons.1 hr with rfl | hr'
  · have hf:=hg.2 r (List.mem_cons_self ..)
    unfold Uc.patOf
    rw [List.find?_cons_of_pos (by simpa using hf.2.1)]
    rfl
  · have h1:=hp.1 r hr'
    have ih:=pat_row (ps:=ps) ⟨hp.2,fun s hs=>hg.2 s (List.mem_cons_of_mem _ hs)⟩ r hr'
    unfold Uc.patOf at ih ⊢
    rw [List.find?_cons_of_neg (by simp;omega)]
    exact ih
end Go.Proofs.YtbkgbhlmeeodgaaGreatDoor
namespace Go.Proofs.YtbkgbhlmeeodgaaGreatDoor.Pq
open Go.RowKit
theorem frozen_new (w:World) (C:Array Value) (e:TypeId) (j:Nat):(w.alloc (.cells C e)).frozen? ⟨w.heap.size,j,none⟩=false:=by
 have h:=World.alloc_heap_new w (.cells C e)
 simp only [World.frozen?]
 rw [h]
 simp
theorem box_new (W:World) (v:Value) (t:TypeId):(W.alloc (.cells #[v] t)).cell? ⟨W.heap.size,0,none⟩=some v∧(W.alloc (.cells #[v] t)).frozen? ⟨W.heap.size,0,none⟩=false:=⟨by simp,frozen_new W _ _ _⟩
theorem box_cell {W:World} {a:Addr} {v:Value} (o:Obj) (h:W.cell? a=some v):(W.alloc o).cell? a=some v:=(World.cell?_alloc_lt _ _ _ (World.block_lt_of_cell? W a h)).trans h
theorem box_frozen {W:World} {a:Addr} {v:Value} (o:Obj) (h:W.cell? a=some v) (hf:W.frozen? a=false):(W.alloc o).frozen? a=false:=(World.frozen?_alloc_past _ _ _ (World.block_lt_of_cell? W a h)).trans hf
theorem cell_abide {β:Type} {B:Nat} (a:Addr) (v:Value):Abide 0 0 B (fun (_:β) W=>W.cell? a=some v):=by
 intro _ W W' row hs hg hr
 refine cell_kept hs hg (fun r e=>?_)
 rcases hr r e with h | ⟨_,h⟩
 · omega
 · exact h
theorem own_abide {β:Type} {B base:Nat} {v:Value} {n size:Nat} {xs:List Value} {e:TypeId}:Abide 0 0 B (fun (_:β) W=>W.ownsRow base e size v n xs):=by
 intro _ W W' row hs hg hr
 refine⟨hs.1,?_⟩
 rcases hs.2 with hn | ⟨g,cap,cur,rfl,hbg,hgg,rest⟩
 · exact .inl hn
 · refine .inr ⟨g,cap,cur,rfl,hbg,?_,rest⟩
   rw [hg.block g (Array.getElem?_eq_some_iff.1 hgg).1 (fun e=>?_)]
   · exact hgg
   · rcases hr g e.symm with h | ⟨_,o,ho,hc⟩
     · omega
     · rw [hgg] at ho;cases ho;cases hc
def GotI (w:World) (bo base:Nat) (e:TypeId) (size n:Nat) (xs:List Value) (W:World):Prop:=
 (∃ v,(W.cell? ⟨bo,0,none⟩=some v∧W.frozen? ⟨bo,0,none⟩=false)∧W.ownsRow base e size v n xs)∧Below w.heap.size w W
theorem got_abide {β:Type} (w:World) (bo base:Nat) (e:TypeId) (size B:Nat) (n:β → Nat) (xs:β → List Value) (hB:w.heap.size≤B):Abide 0 0 B (fun s W=>GotI w bo base e size (n s) (xs s) W):=by
 intro s W W' row hs hg hr
 obtain⟨⟨v,h2,h3⟩,h4⟩:=hs
 exact⟨⟨v,abide_cell (β:=Unit) (fun _=>⟨bo,0,none⟩) (fun _=>v) (fun _=>by omega) () W W' row h2 hg hr,own_abide (β:=Unit) () W W' row h3 hg hr⟩,abide_below (β:=Unit) w (.inr (by omega)) hB (Nat.le_refl _) () W W' row h4 hg hr⟩
theorem got_next {w W w2:World} {bo base:Nat} {e:TypeId} {size n:Nat} {xs us:List Value} {v v':Value} {o:Obj}
 (hv:W.cell? ⟨bo,0,none⟩=some v) (hf:W.frozen? ⟨bo,0,none⟩=false) (hown:W.ownsRow base e size v n xs) (hb:Below w.heap.size w W)
 (ho':w2.ownsRow base e size v' (n+1) (xs++us)) (hg:(W.alloc o).grownBy w2 v.ownBlock) (h1:w.heap.size≤bo) (h2:bo<base):
 Kept (fun k=>k≠bo∧k<base) W (w2.setCell ⟨bo,0,none⟩ v')∧GotI w bo base e size (n+1) (xs++us) (w2.setCell ⟨bo,0,none⟩ v')∧w2.cell? ⟨bo,0,none⟩=some v∧w2.frozen? ⟨bo,0,none⟩=false:=by
 have hgb:∀ g,v.ownBlock=some g→base≤g:=fun g e=>(hown.lt g e).1
 have hW2:bo<W.heap.size:=World.block_lt_of_cell? W _ hv
 have e0:w2.heap[bo]? = W.heap[bo]?:=by
  rw [hg.block bo (by simp;omega) (fun e=>by have:=hgb bo e.symm;omega)]
  exact Below.heap_alloc W o bo hW2
 have c0:w2.cell? ⟨bo,0,none⟩=some v:=(World.cell?_of_block e0).trans hv
 have f0:w2.frozen? ⟨bo,0,none⟩=false:=by
  unfold World.frozen? at hf ⊢
  rw [e0]
  exact hf
 have hb2:Below w.heap.size w w2:=(hb.alloc (by omega) o).grown hg (by simp;omega) (fun g e=>by have:=hgb g e;omega)
 have k1:Kept (fun k=>k≠bo∧k<base) W w2:=(Kept.alloc W o).trans (Kept.grown hg (fun r e=>by have:=hgb r e;omega))
 refine⟨k1.trans (Kept.setCell _ _ _ (by omega)),⟨⟨v',⟨?_,?_⟩,?_⟩,hb2.setCell (p:=⟨bo,0,none⟩) h1 _⟩,c0,f0⟩
 · exact World.cell?_setCell_same' _ _ _ (by rw [c0];rfl)
 · rw [World.frozen?_setCell];exact f0
 · refine⟨ho'.1,?_⟩
   rcases ho'.2 with hn | ⟨g,cap,cur,rfl,hbg,hgg,rest⟩
   · exact .inl hn
   · refine .inr ⟨g,cap,cur,rfl,hbg,?_,rest⟩
     rw [(grownBy_setCell' w2 bo _).block g (Array.getElem?_eq_some_iff.1 hgg).1 (fun e=>by cases e;omega)]
     exact hgg
theorem own_shape {w:World} {base n size:Nat} {e:TypeId} {v:Value} {xs:List Value} (h:w.ownsRow base e size v n xs):∃ A c,v=.slice A n c∧(A=none→c=0):=by
 rcases h.2 with ⟨rfl,h0⟩ | ⟨g,cap,cur,rfl,-⟩
 · exact⟨none,0,by rw [h0],fun _=>rfl⟩
 · exact⟨_,cap,rfl,fun h=>by cases h⟩
end Go.Proofs.YtbkgbhlmeeodgaaGreatDoor.Pq
namespace Go.Proofs.YtbkgbhlmeeodgaaGreatDoor
open Go.RowKit Go.Shelf
def intsN (l:List Nat):List Int:=l.map fun n:Nat=>(n:Int)
def keysL (l:List Uc.Pr):List Int:=(l.filter fun r=>decide (r.dec ≠ [])).map fun r=>r.a
def stepU (us:Int→List Int) (r:Uc.Pr):Int→List Int:=if r.dec = [] then us else addU us r.a (intsN r.dec)
def usL (l:List Uc.Pr):Int→List Int:=l.foldl stepU (fun _=>[])
theorem keys_yes {l:List Uc.Pr} {p:Uc.Pr} (h:p.dec ≠ []):keysL (l ++ [p])=keysL l ++ [p.a]:=by unfold keysL;rw [List.filter_append,List.map_append,List.filter_cons_of_pos (by simpa using h)];rfl
theorem keys_no {l:List Uc.Pr} {p:Uc.Pr} (h:p.dec = []):keysL (l ++ [p])=keysL l:=by unfold keysL;rw [List.filter_append,List.filter_cons_of_neg (by simpa using h)];simp
theorem us_yes {l:List Uc.Pr} {p:Uc.Pr} (h:p.dec ≠ []):usL (l ++ [p])=addU (usL l) p.a (intsN p.dec):=by unfold usL;rw [List.foldl_append];show stepU _ p=_;unfold stepU;rw [if_neg h]
theorem us_no {l:List Uc.Pr} {p:Uc.Pr} (h:p.dec = []):usL (l ++ [p])=usL l:=by unfold usL;rw [List.foldl_append];show stepU _ p=_;unfold stepU;rw [if_pos h]
theorem keys_mem {l:List Uc.Pr} {c:Int}:c∈keysL l↔∃ r∈l,r.dec ≠ []∧r.a=c:=by
 unfold keysL
 rw [List.mem_map]
 constructor
 · rintro⟨r,hr,e⟩
   rw [List.mem_filter] at hr
   exact⟨r,hr.1,of_decide_eq_true hr.2,e⟩
 · rintro⟨r,hr,hd,e⟩
   exact⟨r,List.mem_filter.2 ⟨hr,decide_eq_true hd⟩,e⟩
theorem keys_len (l:List Uc.Pr):(keysL l).length≤l.length:=by unfold keysL;rw [List.length_map];exact List.length_filter_le _ _
theorem addU_mono {us:Int→List Int} {c x d:Int}:∀ {ps:List Int},x∈us d→x∈addU us c ps d:=by
 intro ps
 induction ps generalizing us with
 | nil=>exact id
 | cons p ps ih=>
  intro h
  show x∈addU (putV us p (us p ++ [c])) c ps d
  refine ih ?_
  by_cases e:d=p
  · subst e;rw [putV_same];exact List.mem_append_left _ h
  · rw [putV_other _ _ e];exact h
theorem addU_mem {us:Int→List Int} {c d:Int}:∀ {ps:List Int},d∈ps→c∈addU us c ps d:=by
 intro ps
 induction ps generalizing us with
 | nil=>intro h;cases h
 | cons p ps ih=>
  intro h
  show c∈addU (putV us p (us p ++ [c])) c ps d
  rcases List.mem_cons.1 h with rfl | h
  · exact addU_mono (by rw [putV_same];simp)
  · exact ih h
theorem us_mem:∀ {l:List Uc.Pr} {us:Int→List Int} {r:Uc.Pr} {d:Int},r∈l→d∈intsN r.dec→r.a∈l.foldl stepU us d:=by
 have mono:∀ (l:List Uc.Pr) (us:Int→List Int) (x d:Int),x∈us d→x∈l.foldl stepU us d:=by
  intro l
  induction l with
  | nil=>exact fun us x d h=>h
  | cons q l ih=>
   intro us x d h
   rw [List.foldl_cons]
   refine ih _ _ _ ?_
   unfold stepU
   split
   · exact h
   · exact addU_mono h
 intro l
 induction l with
 | nil=>intro us r d h;cases h
 | cons q l ih=>
  intro us r d h hd
  rw [List.foldl_cons]
  rcases List.mem_cons.1 h with rfl | h
  · refine mono _ _ _ _ ?_
    unfold stepU
    rw [if_neg (fun e=>by rw [e] at hd;cases hd)]
    exact addU_mem hd
  · exact ih h hd
theorem us_len:∀ {l:List Uc.Pr} {us:Int→List Int} {N:Nat},(∀ r∈l,r.dec.length≤2)→(∀ d,(us d).length≤N)→∀ d,(l.foldl stepU us d).length≤N+2*l.length:=by
 intro l
 induction l with
 | nil=>intro us N _ h d;exact h d
 | cons q l ih=>
  intro us N h2 h d
  rw [List.foldl_cons]
  have hq:=h2 q (List.mem_cons_self ..)
  have h3:=ih (us:=stepU us q) (N:=N+2) (fun r hr=>h2 r (List.mem_cons_of_mem _ hr)) (fun x=>by
   unfold stepU
   split
   · have:=h x;omega
   · have:=addU_len us q.a h (intsN q.dec) x
     have e:(intsN q.dec).length=q.dec.length:=List.length_map _
     omega) d
  rw [List.length_cons]
  omega
theorem map_k {H:Type} {A:Nat→Prop} {w w':World} {P:Program} {k:TypeId} {R:Value→Option (DataW H×List MemPlace)} {M n:Nat} {D:DataW H} (h:w.ownsMap P k R M n D) (hk:Kept A w w') (hA:A M):w'.ownsMap P k R M n D:=by
 have hl:=h.lt
 obtain⟨es,clock,hb,F⟩:=h
 exact⟨es,clock,(hk.2 M hA hl).trans hb,F⟩
theorem f1_k {A:Nat→Prop} {w w':World} {M n:Nat} {D:DataW Value} {O:List Int} (h:F1 w M n D O) (hk:Kept A w w') (hA:A M):F1 w' M n D O:=⟨map_k h.1 hk hA,h.2⟩
theorem f3_k {A:Nat→Prop} {w w':World} {M n:Nat} {D:DataW Value} {sz:Int→Nat} (h:F3 w M n D sz) (hk:Kept A w w') (hA:A M):F3 w' M n D sz:=⟨map_k h.1 hk hA,h.2⟩
theorem row_k {A:Nat→Prop} {w w':World} {base:Nat} {e:TypeId} {s n:Nat} {v:Value} {xs:List Value} (h:w.ownsRow base e s v n xs) (hk:Kept A w w') (hA:∀ g,v.ownBlock=some g→A g):w'.ownsRow base e s v n xs:=by
 refine⟨h.1,?_⟩
 rcases h.2 with hn | ⟨g,cap,cur,rfl,hb,hg,rest⟩
 · exact .inl hn
 · exact .inr ⟨g,cap,cur,rfl,hb,(hk.2 g (hA g rfl) (Array.getElem?_eq_some_iff.1 hg).1).trans hg,rest⟩
theorem vals_k {S:Nat→Prop} {w w':World} {A:Option Addr} {n:Nat} {vs:List Value} (h:Vals w A n vs) (hk:Kept S w w') (hA:0<n→∀ a,A=some a→S a.block):Vals w' A n vs:=by
 refine⟨h.1,fun hn=>?_⟩
 obtain⟨b,off,rfl,hlt,hc⟩:=h.2 hn
 exact⟨b,off,rfl,Nat.lt_of_lt_of_le hlt hk.1,fun j v hj=>hk.cell (a:=⟨b,off+j,none⟩) (show S b from hA hn ⟨b,off,none⟩ rfl) (hc j v hj)⟩
theorem f2_k {A:Nat→Prop} {w w':World} {M n base:Nat} {D:DataW Value} {us:Int→List Int} {val:Int→Value} (h:F2 w M n base D us val) (hk:Kept A w w') (hM:A M) (hr:∀ c g,(val c).ownBlock=some g→A g):F2 w' M n base D us val:=
 ⟨map_k h.own hk hM,h.at2,fun c=>⟨row_k (h.row c).1 hk (hr c),(h.row c).2⟩,h.apt⟩
theorem vals_ne {W:World} {A:Option Addr} {n:Nat} {zs:List Int} {M:Nat} {o:Obj} (hn:0<n) (hv:Vals W A n (nums .i64 zs)) (hM:W.heap[M]? = some o) (hc:o.isCells=false):∀ a,A=some a→a.block≠M:=by
 intro a ha e
 obtain⟨b',off,e',-,hcc⟩:=hv.2 hn
 rw [ha] at e'
 cases e'
 obtain⟨z,hz⟩:∃ z,(nums .i64 zs)[0]? = some z:=⟨_,List.getElem?_eq_getElem (by have:=hv.1;omega)⟩
 obtain⟨o',ho',hc'⟩:=cells_of_cell (hcc 0 z hz)
 have e:b'=M:=e
 rw [e,hM] at ho'
 cases ho'
 rw [hc] at hc'
 cases hc'
theorem map_obj {H:Type} {W:World} {P:Program} {k:TypeId} {R:Value→Option (DataW H×List MemPlace)} {M n:Nat} {D:DataW H} (h:W.ownsMap P k R M n D):∃ o:Obj,W.heap[M]? = some o∧o.isCells=false:=by
 obtain⟨es,clock,hb,-⟩:=h
 exact⟨_,hb,rfl⟩
theorem vals_abide {β:Type} {B:Nat} {A:Option Addr} {n:Nat} {vs:List Value}:Abide 0 0 B (fun (_:β) W=>Vals W A n vs):=by
 intro s W W' row h hg hr
 refine⟨h.1,fun hn=>?_⟩
 obtain⟨b,off,rfl,hlt,hc⟩:=h.2 hn
 exact⟨b,off,rfl,Nat.lt_of_lt_of_le hlt hg.size,fun j v hj=>Pq.cell_abide (β:=Unit) (B:=B) _ _ () W W' row (hc j v hj) hg hr⟩
def NoB (base:Nat) (val:Int→Value) (wv:Value) (k:Nat):Prop:=k<base∨wv.ownBlock=some k∨∃ x,(val x).ownBlock=some k
structure CkS (H base:Nat) (dec:Int→List Int) (l:List Uc.Pr) (W:World) (n1 n2:Nat) (D1 D2:DataW Value) (val:Int→Value) (wv:Value):Prop where
 f1:F1 W H n1 D1 (keysL l)
 a1:A1 W D1 dec (keysL l) (NoB base val wv)
 f2:F2 W (H+1) n2 base D2 (usL l) val
 f3:F3 W (H+2) 0 (.map []) (fun _=>0)
 row:W.ownsRow base 3 1 wv (keysL l).length (nums .i64 (keysL l))
 sep:∀ c,(val c).ownBlock=none∨(val c).ownBlock≠wv.ownBlock
 cel:W.cell? ⟨H+3,0,none⟩=some (.map (some H))∧W.cell? ⟨H+3,1,none⟩=some (.map (some (H+1)))∧W.cell? ⟨H+3,2,none⟩=some (.map (some (H+2)))
 wbx:W.cell? ⟨H+4,0,none⟩=some wv∧W.frozen? ⟨H+4,0,none⟩=false
 few:n1≤l.length∧n2≤2*l.length
theorem cks_abide {H base B:Nat} {dec:Int→List Int} {l:List Uc.Pr} {n1 n2:Nat} {D1 D2:DataW Value} {val:Int→Value} {wv:Value} (hB:H+5≤B):Abide 0 0 B (fun (_:Unit) W=>CkS H base dec l W n1 n2 D1 D2 val wv):=by
 intro _ W W' row h hg hr
 have hM:∀ M,M<H+5→some M≠row:=fun M hM e=>by rcases hr M e.symm with h | h <;> omega
 refine⟨h.f1.kept hg (hM _ (by omega)),fun c hc=>?_,⟨h.f2.own.kept hg (hM _ (by omega)),h.f2.at2,fun c=>⟨Pq.own_abide (β:=Unit) (B:=B) () W W' row (h.f2.row c).1 hg hr,(h.f2.row c).2⟩,h.f2.apt⟩,h.f3.kept hg (hM _ (by omega)),Pq.own_abide (β:=Unit) (B:=B) () W W' row h.row hg hr,h.sep,⟨?_,?_,?_⟩,?_,h.few⟩
 · obtain⟨A,k,h1,h2,h3⟩:=h.a1 c hc
   exact⟨A,k,h1,vals_abide (β:=Unit) (B:=B) () W W' row h2 hg hr,fun a e=>⟨Nat.lt_of_lt_of_le (h3 a e).1 hg.size,(h3 a e).2⟩⟩
 · exact Pq.cell_abide (β:=Unit) (B:=B) _ _ () W W' row h.cel.1 hg hr
 · exact Pq.cell_abide (β:=Unit) (B:=B) _ _ () W W' row h.cel.2.1 hg hr
 · exact Pq.cell_abide (β:=Unit) (B:=B) _ _ () W W' row h.cel.2.2 hg hr
 · exact abide_cell (β:=Unit) (n₀:=0) (n₁:=0) (B:=B) (fun _=>⟨H+4,0,none⟩) (fun _=>wv) (fun _=>by omega) () W W' row h.wbx hg hr
def CkI (w:World) (base:Nat) (dec:Int→List Int) (pre:List Uc.RwP) (W:World):Prop:=
 ∃ (n1 n2:Nat) (D1 D2:DataW Value) (val:Int→Value) (wv:Value),CkS w.heap.size base dec (pre.map Prod.snd) W n1 n2 D1 D2 val wv∧Below w.heap.size w W
def CkY (w:World) (base:Nat) (dec:Int→List Int) (pre:List Uc.RwP) (x:Uc.RwP) (W:World):Prop:=
 ∃ (n1 n2:Nat) (D1 D2:DataW Value) (val:Int→Value) (wv:Value),(CkS w.heap.size base dec (pre.map Prod.snd) W n1 n2 D1 D2 val wv∧Below w.heap.size w W)∧(Uc.Is W x.1 x.2∧base≤W.heap.size)∧∀ a,x.1.dp=some a→¬NoB base val wv a.block
theorem cki_abide (w:World) (base B:Nat) (dec:Int→List Int) (hB:w.heap.size+5≤B):Abide 0 0 B (CkI w base dec):=by
 intro pre W W' row ⟨n1,n2,D1,D2,val,wv,h1,h2⟩ hg hr
 exact⟨n1,n2,D1,D2,val,wv,cks_abide hB () W W' row h1 hg hr,abide_below (β:=Unit) w (.inr (by omega)) (by omega) (Nat.le_refl _) () W W' row h2 hg hr⟩
theorem cky_abide (w:World) (base B:Nat) (dec:Int→List Int) (pre:List Uc.RwP) (x:Uc.RwP) (hB:w.heap.size+5≤B):Abide 0 0 B (fun (_:Unit) W=>CkY w base dec pre x W):=by
 intro _ W W' row ⟨n1,n2,D1,D2,val,wv,⟨h1,h2⟩,⟨h3,h4⟩,h5⟩ hg hr
 exact⟨n1,n2,D1,D2,val,wv,⟨cks_abide hB () W W' row h1 hg hr,abide_below (β:=Unit) w (.inr (by omega)) (by omega) (Nat.le_refl _) () W W' row h2 hg hr⟩,⟨⟨h3.1,h3.2.1,h3.2.2.1,h3.2.2.2.1,h3.2.2.2.2.1,h3.2.2.2.2.2.1,vals_abide (β:=Unit) (B:=B) () W W' row h3.2.2.2.2.2.2 hg hr⟩,Nat.le_trans h4 hg.size⟩,h5⟩
theorem ck_fresh {w:World} {base N0:Nat} {dec:Int→List Int} {pre:List Uc.RwP} {x:Uc.RwP} {W0 W:World} (hN:N0=base) (h:CkI w base dec pre W0) (hb:Below W0.heap.size W0 W) (hx:Uc.RwRf N0 W0 x W):CkY w base dec pre x W:=by
 obtain⟨n1,n2,D1,D2,val,wv,h1,h2⟩:=h
 have hs:w.heap.size+5≤W0.heap.size:=World.block_lt_of_cell? W0 _ h1.wbx.1
 refine⟨n1,n2,D1,D2,val,wv,⟨(cks_abide hs).below (s:=()) h1 hb,h2.trans (hb.mono h2.size)⟩,⟨hx.1,Nat.le_trans (hN▸hx.2.1) hb.size⟩,fun a e hno=>?_⟩
 have hge:=hx.2.2 a e
 have hge2:base≤W0.heap.size:=hN▸hx.2.1
 rcases hno with h | h | ⟨y,h⟩
 · omega
 · have:=(h1.row.lt _ h).2;omega
 · have:=((h1.f2.row y).1.lt _ h).2;omega
def CkA (H base k:Nat):Prop:=k<base∧k≠H∧k≠H+1∧k≠H+4
end Go.Proofs.YtbkgbhlmeeodgaaGreatDoor
