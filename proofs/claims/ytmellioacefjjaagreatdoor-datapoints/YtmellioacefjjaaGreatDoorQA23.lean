/- A part. -/
import Derived.Test.YtmellioacefjjaaGreatDoorQA22
namespace Go.Proofs.YtmellioacefjjaaGreatDoor.Uc
open Go.RowKit Go.Shelf Go.Sort
theorem grown_cells {W W':World} {row:Option Nat} {b:Nat} {o:Obj} (hg:W.grownBy W' row) (hr:∀ r,row=some r→∃ o:Obj,W.heap[r]? = some o∧o.isCells=false) (hb:W.heap[b]? = some o) (ho:o.isCells=true):W'.heap[b]? = W.heap[b]?:=by
 refine hg.block b (Array.getElem?_eq_some_iff.1 hb).1 (fun e=>?_)
 obtain⟨o',h1,h2⟩:=hr b e.symm
 rw [hb] at h1
 cases h1
 rw [ho] at h2
 cases h2
theorem grown_cell {W W':World} {row:Option Nat} {a:Addr} {v:Value} (hg:W.grownBy W' row) (hr:∀ r,row=some r→∃ o:Obj,W.heap[r]? = some o∧o.isCells=false) (hc:W.cell? a=some v):W'.heap[a.block]? = W.heap[a.block]?:=by
 obtain⟨o,ho,hcl⟩:=cells_of_cell hc
 exact grown_cells hg hr ho hcl
theorem RdrI.grown {R base:Nat} {ps:List Pr} {op:Option Ln} {W W':World} {row:Option Nat} (h:RdrI R base ps op W) (hg:W.grownBy W' row) (hr:∀ r,row=some r→∃ o:Obj,W.heap[r]? = some o∧o.isCells=false):RdrI R base ps op W':=by
 obtain⟨v,ls,num,nm,bare,s,hx,⟨h1,h2,h3,h4⟩,h5⟩:=h
 refine⟨v,ls,num,nm,bare,s,rbx_block hx (grown_cell (a:=⟨R,0,none⟩) hg hr hx.1.1),⟨own_block h1 fun k e=>?_,Ist.blocks hg.size h2 fun t ht hd a ha hlt=>?_,h3,h4⟩,h5⟩
 · rcases h1.2 with ⟨rfl,-⟩ | ⟨g,cap,cur,rfl,-,hgg,-⟩
   · cases e
   · have e:some g=some k:=e
     cases e
     exact grown_cells hg hr hgg rfl
 · obtain⟨p,-,hp⟩:=ist_mem h2 ht
   obtain⟨b,off,e,-,hc⟩:=hp.2.2.2.2.2.2.2 hd
   rw [ha] at e
   cases e
   have hl:=hp.2.2.2.2.2.2.1
   have:=hc 0 _ (List.getElem?_eq_getElem (by rw [hl];exact hd))
   exact grown_cell (a:=⟨b,off+0,none⟩) hg hr this
theorem rdr_abide {β:Type} {R base B:Nat} (ps:β → List Pr) (op:β → Option Ln):Abide 0 0 B (fun s W=>RdrI R base (ps s) (op s) W):=fun _ _ _ _ hs hg hr=>hs.grown hg (fun r e=>(hr r e).elim (fun h=>absurd h.2 (by omega)) (fun h=>h.2))
def PA (H R:Nat) (W:World) (k:Nat):Prop:=GA R W k∧(k≠H∧k≠H+1∧k≠H+2)
theorem pa_lets (H R:Nat):Lets (PA H R):=(ga_lets R).and _
theorem pa_hold {H R:Nat} {W W':World} (h:Hold (GA R) W W'):Hold (PA H R) W W':=⟨h.1,fun k ha hk=>have q:=h.2 k ha.1 hk;⟨q.1,q.2,ha.2⟩⟩
def RB3 (H:Nat) (p:Option Addr) (e n:Int) (W:World):Prop:=
 (W.cell? ⟨H,0,none⟩=some (.pointer p)∧W.frozen? ⟨H,0,none⟩=false)∧((W.cell? ⟨H+1,0,none⟩=some (.int .i64 e)∧W.frozen? ⟨H+1,0,none⟩=false)∧(W.cell? ⟨H+2,0,none⟩=some (.int .i64 n)∧W.frozen? ⟨H+2,0,none⟩=false))
theorem rb3_abide {β:Type} {B:Nat} (H:Nat) (p:β → Option Addr) (e n:β → Int):Abide 0 0 B (fun s W=>RB3 H (p s) (e s) (n s) W):=
 Abide.and (abide_cell (fun _=>⟨H,0,none⟩) (fun s=>.pointer (p s)) (fun _=>by omega)) (Abide.and (abide_cell (fun _=>⟨H+1,0,none⟩) (fun s=>.int .i64 (e s)) (fun _=>by omega)) (abide_cell (fun _=>⟨H+2,0,none⟩) (fun s=>.int .i64 (n s)) (fun _=>by omega)))
theorem RB3.below {H:Nat} {p:Option Addr} {e n:Int} {W W':World} (h:RB3 H p e n W) {B:Nat} (hl:H+2<B) (hb:Below B W W'):RB3 H p e n W':=
 ⟨⟨(hb.cell (p:=⟨H,0,none⟩) (by show H<B;omega)).trans h.1.1,(hb.frozen (p:=⟨H,0,none⟩) (by show H<B;omega)).trans h.1.2⟩,⟨(hb.cell (p:=⟨H+1,0,none⟩) (by show H+1<B;omega)).trans h.2.1.1,(hb.frozen (p:=⟨H+1,0,none⟩) (by show H+1<B;omega)).trans h.2.1.2⟩,(hb.cell (p:=⟨H+2,0,none⟩) (by show H+2<B;omega)).trans h.2.2.1,(hb.frozen (p:=⟨H+2,0,none⟩) (by show H+2<B;omega)).trans h.2.2.2⟩
def stOf (xs:List LnV):St:=(xs.map view).foldl step (.at [] none)
theorem st_snoc (xs:List LnV) (x:LnV):stOf (xs ++ [x])=step (stOf xs) (view x):=by unfold stOf;rw [List.map_append,List.foldl_append];rfl
def PaI (w:World) (base:Nat) (pre:List LnV) (W:World):Prop:=
 ∃ s:List Pr×Option Ln,(stOf pre=.at s.1 s.2∧s.1.length≤pre.length)∧(RdrI (w.heap.size+3) base s.1 s.2 W∧(RB3 w.heap.size none 0 0 W∧(ML W∧Below w.heap.size w W)))
def PaX (w:World) (c:Code) (pre:List LnV) (W:World):Prop:=
 ∃ s:Int×Int,(c=.ret∧stOf pre=.bad s.1 s.2∧¬s.1=0)∧(RB3 w.heap.size none s.1 s.2 W∧Below w.heap.size w W)
theorem pai_abide (w:World) (base B:Nat) (hB:w.heap.size≤B):Abide 0 0 B (PaI w base):=by
 intro pre W W' row ⟨s,h1,h2,h3,h4,h5⟩ hg hr
 exact⟨s,h1,rdr_abide (β:=Unit) (B:=B) (fun _=>s.1) (fun _=>s.2) () W W' row h2 hg hr,rb3_abide (β:=Unit) (B:=B) _ (fun _=>none) (fun _=>0) (fun _=>0) () W W' row h3 hg hr,ml_abide (β:=Unit) (B:=B) () W W' row h4 hg hr,abide_below (β:=Unit) w (.inr (by omega)) hB (Nat.le_refl _) () W W' row h5 hg hr⟩
theorem pax_abide (w:World) (B:Nat) (hB:w.heap.size≤B) (c:Code):Abide 0 0 B (PaX w c):=by
 intro pre W W' row ⟨s,h1,h3,h5⟩ hg hr
 exact⟨s,h1,rb3_abide (β:=Unit) (B:=B) _ (fun _=>none) (fun _=>s.1) (fun _=>s.2) () W W' row h3 hg hr,abide_below (β:=Unit) w (.inr (by omega)) hB (Nat.le_refl _) () W W' row h5 hg hr⟩
theorem rdr_free {R base:Nat} {ps:List Pr} {op:Option Ln} {W:World} (h:RdrI R base ps op W):∀ k,W.heap.size≤k→GA R W k:=by
 obtain⟨v,ls,num,nm,bare,s,hx,hr,-⟩:=h
 intro k hk
 have:=hx.lt
 exact⟨v,hx.1.1,by omega,fun e=>by have:=(hr.1.lt k e).2;omega⟩
def rb3_set (H:Nat) (p:Option Addr) (e n:Int) (W:World):World:=((W.setCell ⟨H,0,none⟩ (.pointer p)).setCell ⟨H+1,0,none⟩ (.int .i64 e)).setCell ⟨H+2,0,none⟩ (.int .i64 n)
theorem rb3_new {H:Nat} {p p':Option Addr} {e n e' n':Int} {W:World} (h:RB3 H p e n W):RB3 H p' e' n' (rb3_set H p' e' n' W):=by
 obtain⟨⟨h1,h2⟩,⟨h3,h4⟩,h5,h6⟩:=h
 unfold rb3_set
 refine⟨⟨by simp [go_sem,h1],?_⟩,⟨by simp [go_sem,h3],?_⟩,by simp [go_sem,h5],?_⟩ <;> simp only [World.frozen?_setCell] <;> assumption
theorem rb3_other {H k:Nat} {p:Option Addr} {e n:Int} {W:World} (h:k≠H∧k≠H+1∧k≠H+2):(rb3_set H p e n W).heap[k]? = W.heap[k]?:=by
 unfold rb3_set
 rw [heap_setCell_other _ ⟨H+2,0,none⟩ k _ (fun e=>h.2.2 (by simpa using e)),heap_setCell_other _ ⟨H+1,0,none⟩ k _ (fun e=>h.2.1 (by simpa using e)),heap_setCell_other _ ⟨H,0,none⟩ k _ (fun e=>h.1 (by simpa using e))]
theorem rb3_size {H:Nat} {p:Option Addr} {e n:Int} {W:World}:(rb3_set H p e n W).heap.size=W.heap.size:=by unfold rb3_set;simp only [World.size_setCell]
theorem rb3_below {w:World} {p:Option Addr} {e n:Int} {W:World} (h:Below w.heap.size w W):Below w.heap.size w (rb3_set w.heap.size p e n W):=by
 unfold rb3_set
 exact ((h.setCell (p:=⟨w.heap.size,0,none⟩) (Nat.le_refl _) _).setCell (p:=⟨w.heap.size+1,0,none⟩) (by show w.heap.size≤w.heap.size+1;omega) _).setCell (p:=⟨w.heap.size+2,0,none⟩) (by show w.heap.size≤w.heap.size+2;omega) _
theorem rb3_hold {H R:Nat} {p:Option Addr} {e n:Int} {W:World} (hR:R≠H∧R≠H+1∧R≠H+2):Hold (PA H R) W (rb3_set H p e n W):=
 ⟨by rw [rb3_size];exact Nat.le_refl _,fun k ha _=>⟨rb3_other ha.2,(by
  obtain⟨⟨v,h1,h2⟩,h3⟩:=ha
  exact⟨⟨v,(World.cell?_of_block (a:=⟨R,0,none⟩) (rb3_other hR)).trans h1,h2⟩,h3⟩)⟩⟩
theorem rat_block {W W':World} {A:Option Addr} {n:Nat} {ls:List Rw} (h:RAt W A n ls) (hs:W.heap.size≤W'.heap.size) (he:∀ a,A=some a→W'.heap[a.block]? = W.heap[a.block]?):RAt W' A n ls:=by
 refine⟨h.1,fun hn=>?_⟩
 obtain⟨b,off,rfl,hlt,hc⟩:=h.2 hn
 refine⟨b,off,rfl,Nat.lt_of_lt_of_le hlt hs,fun j s hj=>?_⟩
 obtain⟨h1,h2,h3,h4,h5,h6⟩:=hc j s hj
 have c:∀ i u,W.cell? ⟨b,i,none⟩=some u→W'.cell? ⟨b,i,none⟩=some u:=fun i u hu=>(World.cell?_of_block (a:=⟨b,i,none⟩) (he ⟨b,off,none⟩ rfl)).trans hu
 exact⟨c _ _ h1,c _ _ h2,c _ _ h3,c _ _ h4,c _ _ h5,c _ _ h6⟩
def Fresh (B:Nat) (A:Option Addr) (ls:List Rw):Prop:=(∀ a,A=some a→B≤a.block)∧∀ t∈ls,0<t.dm→∀ a,t.dp=some a→B≤a.block
def ParsePost (l:List UInt8) (w:World) (e:Ending) (w':World):Prop:=
 Below w.heap.size w w'∧(((parseOf (linesIn l)).err=0∧∃ b A c ls,e=.returned (.tuple #[.pointer (some ⟨b,0,none⟩),.int .i64 0,.int .i64 0])∧w.heap.size≤b∧TIn w' (some ⟨b,0,none⟩) A c ls∧Ist w' ls (parseOf (linesIn l)).rows∧Fresh w.heap.size A ls) ∨
  (¬(parseOf (linesIn l)).err=0∧e=.returned (.tuple #[.pointer none,.int .i64 (parseOf (linesIn l)).err,.int .i64 (parseOf (linesIn l)).num])))
theorem put_other {W:World} {D k:Nat} {o:Obj} (h:k≠D):(W.putObj D o).heap[k]? = W.heap[k]?:=World.putObj_heap_other h
theorem table_done {w W:World} {base D n c:Nat} {A:Option Addr} {ls:List Rw} {ps:List Pr} (hn:ls.length=n) (hr:RRows (w.heap.size+3) base (.slice A n c) ls ps W) (hD:W.heap[D]? = some (.deferred (some []))) (hb:Below w.heap.size w W) (hDw:w.heap.size+3<D) (hbase:w.heap.size+3<W.heap.size):
 let X:=(rb3_set w.heap.size (some ⟨W.heap.size,0,none⟩) 0 0 (W.alloc (.cells #[.slice A n c] 134))).putObj D (.deferred none)
 Below w.heap.size w X∧TIn X (some ⟨W.heap.size,0,none⟩) A c ls∧Ist X ls ps∧Fresh w.heap.size A ls:=by
 intro X
 obtain⟨h1,h2,h3,h4⟩:=hr
 have hDl:D<W.heap.size:=(Array.getElem?_eq_some_iff.1 hD).1
 have ho:∀ k,k<W.heap.size→k≠D→(k≠w.heap.size∧k≠w.heap.size+1∧k≠w.heap.size+2)→X.heap[k]? = W.heap[k]?:=fun k hk hkD hk3=>by
  show ((rb3_set w.heap.size _ 0 0 (W.alloc _)).putObj D _).heap[k]? = _
  rw [put_other hkD,rb3_other hk3]
  exact Below.heap_alloc W _ k hk
 have hsz:X.heap.size=W.heap.size+1:=by
  show ((rb3_set w.heap.size _ 0 0 (W.alloc _)).putObj D _).heap.size=_
  rw [World.putObj_size,rb3_size,World.size_alloc]
 have hcD:∀ k o,W.heap[k]? = some o→o.isCells=true→k≠D:=fun k o hk hc e=>by
  subst e
  rw [hD] at hk
  cases hk
  cases hc
 have hbox:X.cell? ⟨W.heap.size,0,none⟩=some (.slice A n c):=by
  refine (World.cell?_of_block (a:=⟨W.heap.size,0,none⟩) (w:=W.alloc (.cells #[.slice A n c] 134)) ?_).trans (by simp)
  show ((rb3_set w.heap.size _ 0 0 (W.alloc _)).putObj D _).heap[W.heap.size]? = _
  rw [put_other (by omega),rb3_other ⟨by omega,by omega,by omega⟩]
 have hrat:RAt W A n ls:=by
  rw [←hn] at h1
  obtain⟨A',c',e,-,hr',-⟩:=own_rat h1
  cases e
  rw [←hn]
  exact hr'
 refine⟨?_,.inr ⟨W.heap.size,rfl,by omega,by rw [hn];exact hbox,?_⟩,?_,fun a ha=>?_,fun t ht hd a ha=>?_⟩
 · have hk2:(rb3_set w.heap.size (some ⟨W.heap.size,0,none⟩) 0 0 (W.alloc (.cells #[.slice A n c] 134))).heap[D]? = some (.deferred (some [])):=by
    rw [rb3_other ⟨by omega,by omega,by omega⟩]
    exact (Below.heap_alloc W _ D hDl).trans hD
   exact (rb3_below (hb.alloc (by omega) _)).trans (belowK_b (w:=w) (Nat.le_refl _) _ D _ _ (by omega) hk2 rfl rfl)
 · rw [hn]
   refine rat_block hrat (by omega) fun a ha=>?_
   rcases h1.2 with ⟨e,-⟩ | ⟨g,cap,cur,e,hg1,hg2,-⟩
   · cases e
     cases ha
   · cases e
     cases ha
     exact ho g (Array.getElem?_eq_some_iff.1 hg2).1 (hcD g _ hg2 rfl) ⟨by omega,by omega,by omega⟩
 · refine Ist.blocks (W:=W) (by omega) h2 fun t ht hd a ha hlt=>?_
   have h3':=(h3 t ht hd a ha).2
   obtain⟨p,-,hp⟩:=ist_mem h2 ht
   obtain⟨b,off,e,-,hc⟩:=hp.2.2.2.2.2.2.2 hd
   rw [ha] at e
   cases e
   have hl:=hp.2.2.2.2.2.2.1
   have hc0:=hc 0 _ (List.getElem?_eq_getElem (by rw [hl];exact hd))
   obtain⟨o,ho1,ho2⟩:=cells_of_cell hc0
   exact ho b hlt (hcD b o ho1 ho2) ⟨by simp only at h3';omega,by simp only at h3';omega,by simp only at h3';omega⟩
 · rcases h1.2 with ⟨e,-⟩ | ⟨g,cap,cur,e,hg1,hg2,-⟩
   · cases e
     cases ha
   · cases e
     cases ha
     show w.heap.size≤g
     omega
 · have:=(h3 t ht hd a ha).2
   omega
theorem row22_any (F:Option Addr) (n cf:Nat) (f:List (List UInt8)) (w:World) (hV:Vals w F n (strs f)) (hfl:∀ x∈f,x.length≤4000):Calls Tryz.prog 76 #[.slice F n cf] w (RowPost f w):=by
 by_cases hn:n=15
 · subst hn
   cases hp:point (fld f 0) with
   | none=>exact row22_hex F cf f w hV hfl hp
   | some c=>
    cases ho:okB f with
    | false=>exact row22_val F cf f w hV hfl c hp ho
    | true=>exact row22_ok F cf f w hV hfl c hp ho
 · exact row22_len F n cf f w hV hn
def RpRows (base:Nat) (v:Value) (ls:List Rw) (ps:List Pr) (W:World):Prop:=
 W.ownsRow base 33 6 v ls.length (rwvs ls)∧Ist W ls ps∧∀ t∈ls,0<t.dm→∀ a,t.dp=some a→v.ownBlock≠some a.block
theorem rp_nil (base:Nat) (W:World):RpRows base (.slice none 0 0) [] [] W:=⟨World.ownsRow_nil _ _ _ _,trivial,fun t h=>by cases h⟩
theorem RpRows.below {base:Nat} {v:Value} {ls:List Rw} {ps:List Pr} {W W':World} (h:RpRows base v ls ps W) (hb:Below W.heap.size W W'):RpRows base v ls ps W':=
 ⟨own_below h.1 hb (Nat.le_refl _),h.2.1.below hb,h.2.2⟩
theorem rp_add {W w3:World} {base N gg cap wO nw:Nat} {v:Value} {ls:List Rw} {t:Rw} {ps:List Pr} {p:Pr} {Wa:World} (hN:ls.length=N) (hr:RpRows base v ls ps W) (hvw:∀ k,v.ownBlock=some k→k<wO) (hWa:Below W.heap.size W Wa) (hbase:base≤W.heap.size)
 (hown:w3.ownsRow base 33 6 (.slice (some ⟨gg,0,none⟩) (N+1) cap) (N+1) (rwvs ls ++ [.int .i64 t.a,.int .i64 t.b,.string (bs t.gc),.int .i64 t.ccc,.string (bs t.bd),.slice t.dp t.dm t.dc])) (hg:Wa.grownBy w3 v.ownBlock) (hat:v.ownBlock=some gg∨gg=nw) (hnw:W.heap.size≤nw)
 (hi:Is W t p) (hfr:∀ a,t.dp=some a→wO≤a.block):RpRows base (.slice (some ⟨gg,0,none⟩) (N+1) cap) (ls ++ [t]) (ps ++ [p]) w3∧Below base W w3:=by
 obtain⟨ho,hist,hap⟩:=hr
 have hsz:W.heap.size≤w3.heap.size:=Nat.le_trans hWa.size hg.size
 have blk0:∀ k,k<W.heap.size→v.ownBlock≠some k→w3.heap[k]? = W.heap[k]?:=fun k hk hne=>by
  rw [hg.block k (Nat.lt_of_lt_of_le hk hWa.size) (fun e=>hne e.symm)]
  exact hWa.block k hk
 have hapt:∀ u∈ls ++ [t],0<u.dm→∀ a,u.dp=some a→a.block<W.heap.size∧v.ownBlock≠some a.block∧gg≠a.block:=by
  intro u hu hd a ha
  have hlt:a.block<W.heap.size:=by
   rcases List.mem_append.1 hu with h | h
   · obtain⟨p,-,hp⟩:=ist_mem hist h
     exact is_lt hp hd ha
   · rw [List.mem_singleton.1 h] at ha hd
     exact is_lt hi hd ha
  have hother:v.ownBlock≠some a.block:=by
   rcases List.mem_append.1 hu with h | h
   · exact hap u h hd a ha
   · rw [List.mem_singleton.1 h] at ha
     have:=hfr a ha
     exact fun e=>by have:=hvw _ e;omega
  refine⟨hlt,hother,fun e=>?_⟩
  rcases hat with h | h
  · exact hother (by rw [h,e])
  · omega
 refine⟨⟨?_,?_,?_⟩,?_⟩
 · rw [List.length_append,List.length_singleton,hN,←rwvs_snoc]
   exact hown
 · exact Ist.blocks (W:=W) hsz (Ist.snoc hi hist) fun u hu hd a ha _=>have h:=hapt u hu hd a ha;blk0 _ h.1 h.2.1
 · intro u hu hd a ha e
   have e:some gg=some a.block:=e
   injection e with e
   exact (hapt u hu hd a ha).2.2 e
 · have h1:Below base W Wa:=hWa.mono hbase
   exact⟨hg.os.trans h1.os,hg.tape.trans h1.tape,hg.output.trans h1.output,hsz,fun k hk=>blk0 k (Nat.lt_of_lt_of_le hk hbase) fun e=>by have:=(ho.lt k e).1;omega⟩
def RpI (w1:World) (L:List Ln) (i v:Value) (wr:World):Prop:=
 ∃ (k:Nat) (ls:List Rw) (ps:List Pr),i=.int .i64 k∧k≤L.length∧(refP ps (L.drop k)=parseOf L∧ps.length≤k)∧RpRows w1.heap.size v ls ps wr∧Below w1.heap.size w1 wr
theorem rp_start (w1:World) (L:List Ln):RpI w1 L (.int .i64 (0:Nat)) (.slice none 0 0) w1:=⟨0,[],[],rfl,Nat.zero_le _,⟨rfl,Nat.le_refl _⟩,rp_nil _ _,Below.refl _ _⟩
def RefPost (L:List Ln) (w:World) (e:Ending) (w':World):Prop:=
 Below w.heap.size w w'∧∃ A c ls,e=.returned (.tuple #[.slice A ls.length c,.int .i64 (parseOf L).err,.int .i64 (parseOf L).num])∧RAt w' A ls.length ls∧Ist w' ls (parseOf L).rows
theorem ref_bad {L:List Ln} {w w':World} {e n:Int} (h:parseOf L=⟨[],e,n⟩) (hb:Below w.heap.size w w'):RefPost L w (.returned (.tuple #[.slice none 0 0,.int .i64 e,.int .i64 n])) w':=
 ⟨hb,none,0,[],by rw [h];rfl,RAt.nil _ _,by rw [h];exact trivial⟩
theorem refp_err {ps:List Pr} {x:Ln} {t:List Ln} (h:¬rowErr x.2=0):refP ps (x::t)=⟨[],rowErr x.2,x.1⟩:=by rw [refP.eq_def];simp only [];rw [if_pos h]
theorem refp_twice {ps:List Pr} {x:Ln} {t:List Ln} (h:rowErr x.2=0) (h2:twice ps (rowVal x.2)=true):refP ps (x::t)=⟨[],15,x.1⟩:=by rw [refP.eq_def];simp only [];rw [if_neg (by simpa using h),if_pos h2]
theorem refp_one {ps:List Pr} {x:Ln} {t:List Ln} (h:rowErr x.2=0) (h2:twice ps (rowVal x.2)=false) (h3:namedB (fld x.2 1) nmF=false):refP ps (x::t)=refP (ps ++ [rowVal x.2]) t:=by
 rw [refP.eq_def];simp only [];rw [if_neg (by simpa using h),if_neg (by rw [h2];simp),if_neg (by rw [h3];simp)]
theorem refp_end {ps:List Pr} {x:Ln} (h:rowErr x.2=0) (h2:twice ps (rowVal x.2)=false) (h3:namedB (fld x.2 1) nmF=true):refP ps [x]=⟨[],14,x.1⟩:=by
 rw [refP.eq_def];simp only [];rw [if_neg (by simpa using h),if_neg (by rw [h2];simp),if_pos h3]
theorem refp_err2 {ps:List Pr} {x y:Ln} {t:List Ln} (h:rowErr x.2=0) (h2:twice ps (rowVal x.2)=false) (h3:namedB (fld x.2 1) nmF=true) (h4:¬rowErr y.2=0):refP ps (x::y::t)=⟨[],rowErr y.2,y.1⟩:=by
 rw [refP.eq_def];simp only [];rw [if_neg (by simpa using h),if_neg (by rw [h2];simp),if_pos h3,if_pos h4]
theorem refp_join {ps:List Pr} {x y:Ln} {t:List Ln} (h:rowErr x.2=0) (h2:twice ps (rowVal x.2)=false) (h3:namedB (fld x.2 1) nmF=true) (h4:rowErr y.2=0) (h5:joinB x.2 y.2=false):refP ps (x::y::t)=⟨[],14,x.1⟩:=by
 rw [refP.eq_def];simp only [];rw [if_neg (by simpa using h),if_neg (by rw [h2];simp),if_pos h3,if_neg (by simpa using h4),if_pos h5]
theorem refp_two {ps:List Pr} {x y:Ln} {t:List Ln} (h:rowErr x.2=0) (h2:twice ps (rowVal x.2)=false) (h3:namedB (fld x.2 1) nmF=true) (h4:rowErr y.2=0) (h5:joinB x.2 y.2=true):refP ps (x::y::t)=refP (ps ++ [{ rowVal x.2 with b:=(rowVal y.2).a }]) t:=by
 rw [refP.eq_def];simp only [];rw [if_neg (by simpa using h),if_neg (by rw [h2];simp),if_pos h3,if_neg (by simpa using h4),if_neg (by rw [h5];simp)]
end Go.Proofs.YtmellioacefjjaaGreatDoor.Uc
