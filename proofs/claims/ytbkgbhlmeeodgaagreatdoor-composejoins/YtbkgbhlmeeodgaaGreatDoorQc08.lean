/- A part. -/
import Derived.Test.YtbkgbhlmeeodgaaGreatDoorQc07
import Derived.Test.YtbkgbhlmeeodgaaGreatDoorQc03
import Derived.Test.YtbkgbhlmeeodgaaGreatDoorQc02
namespace Go.Proofs.YtbkgbhlmeeodgaaGreatDoor
open Go.RowKit Go.Shelf
theorem frozen_new (w:World) (C:Array Value) (e:TypeId) (j:Nat):(w.alloc (.cells C e)).frozen? ⟨w.heap.size,j,none⟩=false:=by
 have h:=World.alloc_heap_new w (.cells C e)
 simp only [World.frozen?]
 rw [h]
 simp
end Go.Proofs.YtbkgbhlmeeodgaaGreatDoor
namespace Go.Proofs.YtbkgbhlmeeodgaaGreatDoor
open Go.RowKit Go.Shelf
attribute [local go_sem] Oper.semAt_some
theorem info3:(Tryz.prog.info? 3).map (fun i=>(i.zero,i.size,i.bytes))=some (some (.int .i64 0),1,8):=by kernel_rfl
def i64s (cs:List Nat):List Value:=nums .i64 (cs.map fun c:Nat=>(c:Int))
theorem i64s_snoc (cs:List Nat) (c:Nat):i64s cs ++ [.int .i64 (c:Int)]=i64s (cs ++ [c]):=by simp [i64s,nums]
def RBox (w:World) (W:World):Prop:=
 (W.cell? ⟨w.heap.size,0,none⟩=some (.slice none 0 0)∧W.frozen? ⟨w.heap.size,0,none⟩=false)∧(W.cell? ⟨w.heap.size+1,0,none⟩=some (.int .i64 0)∧W.frozen? ⟨w.heap.size+1,0,none⟩=false)
def SqI (w:World) (base:Nat) (xs:List (List UInt8)) (W:World):Prop:=
 (∃ cs v,(xs.mapM point=some cs∧cs.length≤xs.length)∧(W.cell? ⟨w.heap.size+2,0,none⟩=some v∧W.frozen? ⟨w.heap.size+2,0,none⟩=false)∧W.ownsRow base 3 1 v cs.length (i64s cs))∧(RBox w W∧Below w.heap.size w W)
def SqX (w:World) (c:Code) (xs:List (List UInt8)) (W:World):Prop:=
 (c=.ret∧xs.mapM point=none)∧(W.cell? ⟨w.heap.size,0,none⟩=some (.slice none 0 0)∧W.cell? ⟨w.heap.size+1,0,none⟩=some (.int .i64 13))∧Below w.heap.size w W
theorem own_abide {β:Type} {n₀ n₁ B base:Nat} {v:Value} {n:Nat} {xs:List Value} {e:TypeId} (hb:n₁ ≤ base):Abide n₀ n₁ B (fun (_:β) W=>W.ownsRow base e 1 v n xs):=by
 intro _ W W' row hs hg hr
 refine⟨hs.1,?_⟩
 rcases hs.2 with hn | ⟨g,cap,cur,rfl,hbg,hgg,rest⟩
 · exact .inl hn
 · refine .inr ⟨g,cap,cur,rfl,hbg,?_,rest⟩
   rw [hg.block g (Array.getElem?_eq_some_iff.1 hgg).1 (fun e=>?_)]
   · exact hgg
   · rcases hr g e.symm with h | ⟨_,o,ho,hc⟩
     · omega
     · rw [hgg] at ho;cases ho;cases hc
theorem cell_abide' {β:Type} {n₀ n₁ B:Nat} (b:Nat) (v:Value) (hb:b<n₀ ∨ n₁ ≤ b):Abide n₀ n₁ B (fun (_:β) W=>W.cell? ⟨b,0,none⟩=some v∧W.frozen? ⟨b,0,none⟩=false):=
 abide_cell (fun _=>⟨b,0,none⟩) (fun _=>v) (fun _=>by show ¬(n₀ ≤ b∧b<n₁);omega)
theorem cell_abide'' {β:Type} {n₀ n₁ B:Nat} (b:Nat) (v:Value) (hb:b<n₀ ∨ n₁ ≤ b):Abide n₀ n₁ B (fun (_:β) W=>W.cell? ⟨b,0,none⟩=some v):=by
 intro _ W W' row hs hg hr
 obtain⟨o,ho,hc⟩:=cells_of_cell hs
 refine (World.cell?_of_block (hg.block _ (Array.getElem?_eq_some_iff.1 ho).1 (fun e=>?_))).trans hs
 rcases hr _ e.symm with h | ⟨_,o',ho',hc'⟩
 · have h:n₀ ≤ b∧b<n₁:=h
   omega
 · rw [ho] at ho';cases ho';rw [hc] at hc';cases hc'
theorem rbox_abide {β:Type} (w:World) (n₀ n₁ B:Nat) (h:w.heap.size+1<n₀):Abide n₀ n₁ B (fun (_:β) W=>RBox w W):=Abide.and (cell_abide' _ _ (.inl (by omega))) (cell_abide' _ _ (.inl h))
theorem sqi_abide (w:World) (n₀ n₁ B base:Nat) (h:w.heap.size+2<n₀) (h1:n₁ ≤ base) (hB:w.heap.size≤B):Abide n₀ n₁ B (SqI w base):=by
 intro xs W W' row hs hg hr
 obtain⟨⟨cs,v,h2,h3,h4⟩,h5,h6⟩:=hs
 exact⟨⟨cs,v,h2,cell_abide' (β:=Unit) _ _ (.inl h) () W W' row h3 hg hr,own_abide (β:=Unit) h1 () W W' row h4 hg hr⟩,rbox_abide (β:=Unit) w n₀ n₁ B (by omega) () W W' row h5 hg hr,abide_below (β:=Unit) w (.inl (by omega)) hB (Nat.le_refl _) () W W' row h6 hg hr⟩
theorem sqx_abide (w:World) (n₀ n₁ B:Nat) (h:w.heap.size+2<n₀) (hB:w.heap.size≤B) (c:Code):Abide n₀ n₁ B (SqX w c):=by
 intro xs W W' row hs hg hr
 obtain⟨h1,⟨h2,h3⟩,h4⟩:=hs
 exact⟨h1,⟨cell_abide'' (β:=Unit) _ _ (.inl (by omega)) () W W' row h2 hg hr,cell_abide'' (β:=Unit) _ _ (.inl (by omega)) () W W' row h3 hg hr⟩,abide_below (β:=Unit) w (.inl (by omega)) hB (Nat.le_refl _) () W W' row h4 hg hr⟩
def SeqPost (l:List UInt8) (w:World) (e:Ending) (w':World):Prop:=
 Below w.heap.size w w'∧((∃ cs A ca,seqOf l=some cs∧e=.returned (.tuple #[.slice A cs.length ca,.int .i64 0])∧Vals w' A cs.length (i64s cs)∧(∀ a,A=some a→w.heap.size≤a.block))∨(seqOf l=none∧e=.returned (.tuple #[.slice none 0 0,.int .i64 13])))
theorem leave15 {R:Ending→World→Prop} {w Wf:World} {D m:Nat} {tmps:Array Value} {v:Value} {e:Int} (ht:tmps[2]?.getD undef=.pointer (some ⟨w.heap.size,0,none⟩)) (ht':tmps[3]?.getD undef=.pointer (some ⟨w.heap.size+1,0,none⟩)) (hk:Wf.heap[D]? = some (.deferred (some [])))
 (h1:Wf.cell? ⟨w.heap.size,0,none⟩=some v) (h2:Wf.cell? ⟨w.heap.size+1,0,none⟩=some (.int .i64 e)) (h:R (.returned (.tuple #[v,.int .i64 e])) (Wf.putObj D (.deferred none))):
 LeavesInM Fence.wide m Tryz.prog Tryz.f154 tmps R [{ target:=.collected D,args:=#[] }] .returning Wf:=by
 refine⟨by simp,.inl ⟨_,_,rfl,run_takeDeferred hk,?_⟩⟩
 have k1:=cell_kept h1 (grownBy_putObj' _ D (.deferred none)) (fun r e=>by cases e;exact⟨_,hk,rfl⟩)
 have k2:=cell_kept h2 (grownBy_putObj' _ D (.deferred none)) (fun r e=>by cases e;exact⟨_,hk,rfl⟩)
 refine⟨.tuple #[v,.int .i64 e],?_,h⟩
 simp [results,Tryz.results154,go_sem,k1,k2,ht,ht']
theorem leave15_0 {R:Ending→World→Prop} {w Wf:World} {m:Nat} {tmps:Array Value} {v:Value} {e:Int} (ht:tmps[2]?.getD undef=.pointer (some ⟨w.heap.size,0,none⟩)) (ht':tmps[3]?.getD undef=.pointer (some ⟨w.heap.size+1,0,none⟩))
 (h1:Wf.cell? ⟨w.heap.size,0,none⟩=some v) (h2:Wf.cell? ⟨w.heap.size+1,0,none⟩=some (.int .i64 e)) (h:R (.returned (.tuple #[v,.int .i64 e])) Wf):
 LeavesInM Fence.wide m Tryz.prog Tryz.f154 tmps R [] .returning Wf:=by
 refine⟨.tuple #[v,.int .i64 e],?_,h⟩
 simp [results,Tryz.results154,go_sem,h1,h2,ht,ht']
theorem rbox_first (w:World):RBox w ((w.alloc (.cells #[.slice none 0 0] 25)).alloc (.cells #[.int .i64 0] 40)):=by
 refine⟨⟨by simp,?_⟩,by simp,?_⟩
 · rw [World.frozen?_alloc_past _ _ _ (by simp)]
   exact frozen_new w _ _ _
 · have:=frozen_new (w.alloc (.cells #[.slice none 0 0] 25)) #[.int .i64 0] 40 0
   rwa [World.size_alloc] at this
theorem RBox.below {w W W':World} (h:RBox w W) (hlt:w.heap.size+1<W.heap.size) (hb:Below W.heap.size W W'):RBox w W':=
 ⟨⟨(hb.cell (p:=⟨w.heap.size,0,none⟩) (by show w.heap.size<_;omega)).trans h.1.1,(hb.frozen (p:=⟨w.heap.size,0,none⟩) (by show w.heap.size<_;omega)).trans h.1.2⟩,(hb.cell (p:=⟨w.heap.size+1,0,none⟩) hlt).trans h.2.1,(hb.frozen (p:=⟨w.heap.size+1,0,none⟩) hlt).trans h.2.2⟩
set_option maxRecDepth 100000 in
set_option maxHeartbeats 1000000 in
theorem sequence15_nil (w:World):Calls Tryz.prog 154 #[.string (bs [])] w (SeqPost [] w):=by
 have R0:=rbox_first w
 have hb:Below w.heap.size w ((w.alloc (.cells #[.slice none 0 0] 25)).alloc (.cells #[.int .i64 0] 40)):=((Below.refl _ _).alloc (Nat.le_refl _) _).alloc (by simp) _
 rw [bs_nil]
 refine (callsIn_wide (n:=9)).1 ?_
 refine callsIn_of_wp_marks Tryz.func154 rfl trivial ?_ rfl
 simp only [Tryz.ntmps154,List.size_toArray,List.length_cons,List.length_nil,Nat.reduceAdd,Nat.reduceSub,Array.replicate_succ,Array.replicate_zero,List.push_toArray,List.append_toArray,List.nil_append,List.cons_append]
 have q1:=R0.1.1
 have q2:=R0.1.2
 have q3:=R0.2.1
 have q4:=R0.2.2
 gi_wp2
 exact leave15_0 rfl rfl q1 q3 ⟨hb,.inl ⟨[],none,0,rfl,rfl,Vals.nil _ _,fun a e=>by cases e⟩⟩
theorem mapM_pre {xs ys:List (List UInt8)} (h:xs <+: ys) (hn:xs.mapM point=none):ys.mapM point=none:=by
 obtain⟨r,rfl⟩:=h
 rw [List.mapM_append,hn]
 rfl
theorem mapM_yes {xs:List (List UInt8)} {x:List UInt8} {cs:List Nat} {c:Nat} (h:xs.mapM point=some cs) (hx:point x=some c):(xs ++ [x]).mapM point=some (cs ++ [c]):=by
 rw [List.mapM_append,h]
 simp [hx]
theorem mapM_bad {xs:List (List UInt8)} {x:List UInt8} {cs:List Nat} (h:xs.mapM point=some cs) (hx:point x=none):(xs ++ [x]).mapM point=none:=by
 rw [List.mapM_append,h]
 simp [hx]
theorem sq_next {w W w2:World} {base b lo:Nat} {pre:List (List UInt8)} {x:List UInt8} {cs:List Nat} {c:Nat} {v v':Value} {o:Obj} (hpre:pre.mapM point=some cs) (hcl:cs.length≤pre.length) (hx:point x=some c)
 (hv:W.cell? ⟨w.heap.size+2,0,none⟩=some v) (hf:W.frozen? ⟨w.heap.size+2,0,none⟩=false) (hown:W.ownsRow base 3 1 v cs.length (i64s cs)) (hr:RBox w W) (hb:Below w.heap.size w W)
 (ho':w2.ownsRow base 3 1 v' (cs.length+1) (i64s cs ++ [.int .i64 (c:Int)])) (hg:(W.alloc o).grownBy w2 v.ownBlock) (h1:w.heap.size+2<b) (h2:b≤lo) (h3:lo+2≤base):
 Kept (fun k=>k=1∨(b≤k∧k<lo+2)) W (w2.setCell ⟨w.heap.size+2,0,none⟩ v')∧SqI w base (pre ++ [x]) (w2.setCell ⟨w.heap.size+2,0,none⟩ v'):=by
 have hgb:∀ g,v.ownBlock=some g→base≤g:=fun g e=>(hown.lt g e).1
 have hW2:w.heap.size+2<W.heap.size:=World.block_lt_of_cell? W _ hv
 have hblk:∀ k,k<W.heap.size→k<base→w2.heap[k]? = W.heap[k]?:=fun k hk hkb=>by
  rw [hg.block k (by simp;omega) (fun e=>by have:=hgb k e.symm;omega)]
  exact Below.heap_alloc W o k hk
 have hcell:∀ k v,k<base→W.cell? ⟨k,0,none⟩=some v→w2.cell? ⟨k,0,none⟩=some v∧(W.frozen? ⟨k,0,none⟩=false→w2.frozen? ⟨k,0,none⟩=false):=fun k v hk hv=>by
  have e:=hblk k (World.block_lt_of_cell? W _ hv) hk
  refine⟨(World.cell?_of_block e).trans hv,fun h=>?_⟩
  unfold World.frozen? at h ⊢
  rw [e]
  exact h
 have hb2:Below w.heap.size w w2:=(hb.alloc (by omega) o).grown hg (by simp;omega) (fun g e=>by have:=hgb g e;omega)
 have k1:Kept (fun k=>k=1∨(b≤k∧k<lo+2)) W w2:=(Kept.alloc W o).trans (Kept.grown hg (fun r e=>by have:=hgb r e;omega))
 refine⟨k1.trans (Kept.setCell _ _ _ (by omega)),⟨cs ++ [c],v',⟨mapM_yes hpre hx,by simp;omega⟩,⟨?_,?_⟩,?_⟩,⟨⟨?_,?_⟩,?_,?_⟩,hb2.setCell (p:=⟨w.heap.size+2,0,none⟩) (by simp) _⟩
 · exact World.cell?_setCell_same' _ _ _ (by rw [(hcell _ _ (by omega) hv).1];rfl)
 · rw [World.frozen?_setCell];exact (hcell _ _ (by omega) hv).2 hf
 · rw [←i64s_snoc,List.length_append]
   refine⟨ho'.1,?_⟩
   rcases ho'.2 with hn | ⟨g,cap,cur,rfl,hbg,hgg,rest⟩
   · exact .inl hn
   · refine .inr ⟨g,cap,cur,rfl,hbg,?_,rest⟩
     rw [(grownBy_setCell' w2 (w.heap.size+2) _).block g (Array.getElem?_eq_some_iff.1 hgg).1 (fun e=>by cases e;omega)]
     exact hgg
 · rw [World.cell?_setCell_other _ _ _ _ (by simp)];exact (hcell _ _ (by omega) hr.1.1).1
 · rw [World.frozen?_setCell];exact (hcell _ _ (by omega) hr.1.1).2 hr.1.2
 · rw [World.cell?_setCell_other _ _ _ _ (by simp)];exact (hcell _ _ (by omega) hr.2.1).1
 · rw [World.frozen?_setCell];exact (hcell _ _ (by omega) hr.2.1).2 hr.2.2
theorem box_new (W:World) (v:Value) (t:TypeId):(W.alloc (.cells #[v] t)).cell? ⟨W.heap.size,0,none⟩=some v∧(W.alloc (.cells #[v] t)).frozen? ⟨W.heap.size,0,none⟩=false:=⟨by simp,frozen_new W _ _ _⟩
theorem box_cell {W:World} {a:Addr} {v:Value} (o:Obj) (h:W.cell? a=some v):(W.alloc o).cell? a=some v:=(World.cell?_alloc_lt _ _ _ (World.block_lt_of_cell? W a h)).trans h
theorem box_frozen {W:World} {a:Addr} {v:Value} (o:Obj) (h:W.cell? a=some v) (hf:W.frozen? a=false):(W.alloc o).frozen? a=false:=(World.frozen?_alloc_past _ _ _ (World.block_lt_of_cell? W a h)).trans hf
theorem vals_far {W W2:World} {A:Option Addr} {n w0 w1 D:Nat} {vs:List Value} (h:Vals W A n vs) (hk:Kept (fun k=>k≠w0∧k≠w1∧k≠D) W W2) (hD:W.heap[D]? = some (.deferred (some []))) (hA:∀ a,A=some a→w0<a.block∧w1<a.block):Vals W2 A n vs:=by
 refine⟨h.1,fun hn=>?_⟩
 obtain⟨b,off,rfl,hlt,hc⟩:=h.2 hn
 have h0:w0<b∧w1<b:=hA _ rfl
 have hbD:b≠D:=by
  rintro rfl
  have hg:vs[0]? = some (vs[0]'(by rw [h.1];exact hn)):=List.getElem?_eq_getElem _
  obtain⟨o,ho,hcl⟩:=cells_of_cell (hc 0 _ hg)
  rw [hD] at ho
  cases ho
  cases hcl
 exact⟨b,off,rfl,Nat.lt_of_lt_of_le hlt hk.1,fun j v hj=>hk.cell (a:=⟨b,off+j,none⟩) ⟨by have:=h0.1;show b≠w0;omega,by have:=h0.2;show b≠w1;omega,hbD⟩ (hc j v hj)⟩
def six (l:List UInt8) (w:World):World:=(((((w.alloc (.cells #[.slice none 0 0] 25)).alloc (.cells #[.int .i64 0] 40)).alloc (.cells #[.slice none 0 0] 25)).alloc (.cells #[.string (bs l)] 9)).alloc (.cells #[.string ⟨#[32]⟩] 9)).alloc (.cells #[.int .i64 0] 3)
theorem six_facts (l:List UInt8) (w:World):Below w.heap.size w (six l w)∧RBox w (six l w)∧((six l w).cell? ⟨w.heap.size+2,0,none⟩=some (.slice none 0 0)∧(six l w).frozen? ⟨w.heap.size+2,0,none⟩=false) ∧
 (six l w).cell? ⟨w.heap.size+3,0,none⟩=some (.string (bs l))∧(six l w).frozen? ⟨w.heap.size+3,0,none⟩=false∧(six l w).cell? ⟨w.heap.size+3+1,0,none⟩=some (.string ⟨#[32]⟩)∧(six l w).cell? ⟨w.heap.size+3+2,0,none⟩=some (.int .i64 0)∧(six l w).heap.size=w.heap.size+6:=by
 have R0:=rbox_first w
 have hb0:Below w.heap.size w ((w.alloc (.cells #[.slice none 0 0] 25)).alloc (.cells #[.int .i64 0] 40)):=((Below.refl _ _).alloc (Nat.le_refl _) _).alloc (by simp) _
 have hs0:((w.alloc (.cells #[.slice none 0 0] 25)).alloc (.cells #[.int .i64 0] 40)).heap.size=w.heap.size+2:=by simp
 have e6:six l w=(((((w.alloc (.cells #[.slice none 0 0] 25)).alloc (.cells #[.int .i64 0] 40)).alloc (.cells #[.slice none 0 0] 25)).alloc (.cells #[.string (bs l)] 9)).alloc (.cells #[.string ⟨#[32]⟩] 9)).alloc (.cells #[.int .i64 0] 3):=rfl
 rw [e6]
 generalize (w.alloc (.cells #[.slice none 0 0] 25)).alloc (.cells #[.int .i64 0] 40)=V at hb0 R0 hs0 ⊢
 have n0:=box_new V (.slice none 0 0) 25
 have s1:(V.alloc (.cells #[.slice none 0 0] 25)).heap.size=w.heap.size+3:=by rw [World.size_alloc];omega
 have b1:Below V.heap.size V (V.alloc (.cells #[.slice none 0 0] 25)):=(Below.refl _ _).alloc (Nat.le_refl _) _
 rw [hs0] at n0
 generalize V.alloc (.cells #[.slice none 0 0] 25)=V1 at n0 s1 b1 ⊢
 have n1:=box_new V1 (.string (bs l)) 9
 have s2:(V1.alloc (.cells #[.string (bs l)] 9)).heap.size=w.heap.size+3+1:=by rw [World.size_alloc];omega
 have b2:Below V1.heap.size V1 (V1.alloc (.cells #[.string (bs l)] 9)):=(Below.refl _ _).alloc (Nat.le_refl _) _
 have n0:_∧_:=⟨box_cell (.cells #[.string (bs l)] 9) n0.1,box_frozen (.cells #[.string (bs l)] 9) n0.1 n0.2⟩
 rw [s1] at n1
 generalize V1.alloc (.cells #[.string (bs l)] 9)=V2 at n0 n1 s2 b2 ⊢
 have n2:=(box_new V2 (.string ⟨#[32]⟩) 9).1
 have s3:(V2.alloc (.cells #[.string ⟨#[32]⟩] 9)).heap.size=w.heap.size+3+2:=by rw [World.size_alloc];omega
 have b3:Below V2.heap.size V2 (V2.alloc (.cells #[.string ⟨#[32]⟩] 9)):=(Below.refl _ _).alloc (Nat.le_refl _) _
 have n0:_∧_:=⟨box_cell (.cells #[.string ⟨#[32]⟩] 9) n0.1,box_frozen (.cells #[.string ⟨#[32]⟩] 9) n0.1 n0.2⟩
 have n1:_∧_:=⟨box_cell (.cells #[.string ⟨#[32]⟩] 9) n1.1,box_frozen (.cells #[.string ⟨#[32]⟩] 9) n1.1 n1.2⟩
 rw [s2] at n2
 generalize V2.alloc (.cells #[.string ⟨#[32]⟩] 9)=V3 at n0 n1 n2 s3 b3 ⊢
 have n3:=(box_new V3 (.int .i64 0) 3).1
 have s4:(V3.alloc (.cells #[.int .i64 0] 3)).heap.size=w.heap.size+6:=by rw [World.size_alloc];omega
 have b4:Below V3.heap.size V3 (V3.alloc (.cells #[.int .i64 0] 3)):=(Below.refl _ _).alloc (Nat.le_refl _) _
 rw [s3] at n3
 have bb:Below V.heap.size V (V3.alloc (.cells #[.int .i64 0] 3)):=b1.trans ((b2.trans ((b3.trans (b4.mono b3.size)).mono b2.size)).mono b1.size)
 exact⟨hb0.trans (bb.mono (by omega)),R0.below (by omega) bb,⟨box_cell _ n0.1,box_frozen _ n0.1 n0.2⟩,box_cell _ n1.1,box_frozen _ n1.1 n1.2,box_cell _ n2,n3,s4⟩
theorem sq_blk {W w2:World} {base n:Nat} {v:Value} {xs:List Value} {o:Obj} {e:TypeId} (hown:W.ownsRow base e 1 v n xs) (hg:(W.alloc o).grownBy w2 v.ownBlock):∀ k,k<base→k<W.heap.size→w2.heap[k]? = W.heap[k]?:=fun k hkb hk=>by
 rw [hg.block k (by simp;omega) (fun e=>by have:=(hown.lt k e.symm).1;omega)]
 exact Below.heap_alloc W o k hk
set_option maxRecDepth 100000 in
set_option maxHeartbeats 4000000 in
theorem sequence15_some (l:List UInt8) (w:World) (hl:l.length≤4000) (hM:ML w) (hne:¬l = []):Calls Tryz.prog 154 #[.string (bs l)] w (SeqPost l w):=by
 obtain⟨i0,hi,hz0,hz1,hz2⟩:=info_parts info3
 have h0w:1<w.heap.size:=by obtain⟨mm,hmm⟩:=hM;exact World.block_lt_of_cell? w _ hmm
 have hemp:=bs_some hne
 have F6:=Lib.hid (six_facts l w)
 have HNE:=Lib.hid hne
 have HM:=Lib.hid hM
 clear hne hM
 refine (callsIn_wide (n:=9)).1 ?_
 refine callsIn_of_wp_marks Tryz.func154 rfl trivial ?_ rfl
 simp only [Tryz.ntmps154,List.size_toArray,List.length_cons,List.length_nil,Nat.reduceAdd,Nat.reduceSub,Array.replicate_succ,Array.replicate_zero,List.push_toArray,List.append_toArray,List.nil_append,List.cons_append]
 have c31:=callsIn_wide (n:=8) |>.2 (splitSeq31 l (((w.alloc (.cells #[.slice none 0 0] 25)).alloc (.cells #[.int .i64 0] 40)).alloc (.cells #[.slice none 0 0] 25)))
 simp only [World.size_alloc,Nat.add_assoc,Nat.reduceAdd] at c31
 gi_wp2_with (refine⟨trivial,?_⟩;gi_at_call 192;(with_reducible refine c31.mono ?_);rintro e w' ⟨rfl,rfl⟩)
 clear c31
 have e6:(((((w.alloc (.cells #[.slice none 0 0] 25)).alloc (.cells #[.int .i64 0] 40)).alloc (.cells #[.slice none 0 0] 25)).alloc (.cells #[.string (bs l)] 9)).alloc (.cells #[.string ⟨#[32]⟩] 9)).alloc (.cells #[.int .i64 0] 3)=six l w:=rfl
 rw [e6]
 clear e6
 generalize six l w=W at F6 ⊢
 obtain⟨hbW,hrb,hcp,f1,f2,f3,f4,hsz⟩:=F6.out
 have hq:=seq57 8 (w.heap.size+3) l W (by omega) hl (by omega) (by omega) f1 f2 f3 f4 (HM.out.below hbW)
 have h0:SqI w (W.heap.size+2) [] W:=⟨⟨[],_,⟨rfl,Nat.le_refl _⟩,hcp,World.ownsRow_nil _ _ _ _⟩,hrb,hbW⟩
 have HQ:=Lib.hid hq
 have H0:=Lib.hid h0
 have HSZ:=Lib.hid hsz
 clear hq h0 hsz hbW hrb hcp f1 f2 f3 f4 F6
 refine range_own1 rfl (by omega) rfl trivial (enters_of Tryz.func261 (by kernel_rfl) rfl) HQ.out (by have:=HSZ.out;omega) (.inr ⟨by have:=HSZ.out;omega,by omega⟩) (.inr ⟨by have:=HSZ.out;omega,by omega⟩) (fun _=>rfl) (fun x _ W1 W2 row hs hg hr=>⟨hs.1,Nat.le_trans hs.2 hg.size⟩)
  (SqI w (W.heap.size+2)) (SqX w) (sqi_abide w _ _ _ _ (by omega) (by have:=HSZ.out;omega) (by have:=HSZ.out;omega)) (sqx_abide w _ _ _ (by omega) (by have:=HSZ.out;omega)) H0.out ?a1 ?assign ?body ?done ?stop
 case assign=>
  intro lq x W' K hK
  gi_wp2
  exact hK
 case body=>
  rintro lq pre x W' ⟨⟨cs,v,⟨hpre,hcl⟩,⟨hv,hf⟩,hown⟩,hrb,hbW⟩ ⟨hxl,hsz2⟩ hlen
  have c11:=point11 x W' (by omega)
  have q1:=hrb.1.1
  have q2:=hrb.1.2
  have q3:=hrb.2.1
  have q4:=hrb.2.2
  cases hp:point x with
  | none=>
   rw [hp] at c11
   simp only [ptVal] at c11
   have hend:Kept (fun k=>k=1∨(w.heap.size+3≤k∧k<W.heap.size+2)) W' ((W'.setCell ⟨w.heap.size,0,none⟩ (.slice none 0 0)).setCell ⟨w.heap.size+1,0,none⟩ (.int .i64 13))∧SqX w .ret (pre ++ [x]) ((W'.setCell ⟨w.heap.size,0,none⟩ (.slice none 0 0)).setCell ⟨w.heap.size+1,0,none⟩ (.int .i64 13)):=
    ⟨(Kept.setCell _ _ _ (by omega)).trans (Kept.setCell _ _ _ (by omega)),⟨rfl,mapM_bad hpre hp⟩,⟨by rw [World.cell?_setCell_other _ _ _ _ (by simp)];exact World.cell?_setCell_same' _ _ _ (by rw [q1];rfl),World.cell?_setCell_same' _ _ _ (by rw [World.cell?_setCell_other _ _ _ _ (by simp),q3];rfl)⟩,(hbW.setCell (p:=⟨w.heap.size,0,none⟩) (Nat.le_refl _) _).setCell (p:=⟨w.heap.size+1,0,none⟩) (by simp) _⟩
   have HE:=Lib.hid hend
   clear hend hp hpre hown hrb hbW
   gi_wp2_with (refine⟨trivial,?_⟩;gi_at_call 153;refine (CallsIn.inRound lq (callsIn_wide.2 c11)).mono ?_;rintro e w' ⟨rfl,rfl⟩)
   exact HE.out
  | some c=>
   rw [hp] at c11
   simp only [ptVal] at c11
   have hend:=fun (w2:World) (v':Value) (o:Obj) ho' hg=>@sq_next w W' w2 (W.heap.size+2) (w.heap.size+3) W.heap.size pre x cs c v v' o hpre hcl hp hv hf hown hrb hbW ho' hg (by omega) (by have:=HSZ.out;omega) (by omega)
   have HE:=Lib.hid hend
   have h63:cs.length+1≤maxLen:=by unfold maxLen;omega
   have h47:(cs.length+1)*8≤140737488355328:=by omega
   have HOW:=Lib.hid hown
   obtain⟨Av,cv,rfl,-,-,-⟩:=own_vals hown
   have hv1:W'.cell? ⟨w.heap.size+1+1,0,none⟩=some (.slice Av cs.length cv):=hv
   have HW2:Hid (∀ w2:World,(∀ k,k<W.heap.size+2→k<W'.heap.size→w2.heap[k]? = W'.heap[k]?)→w2.cell? ⟨w.heap.size+1+1,0,none⟩=some (.slice Av cs.length cv)∧w2.frozen? ⟨w.heap.size+1+1,0,none⟩=false):=Lib.hid fun w2 h=>by
    have e:=h (w.heap.size+2) (by have:=HSZ.out;omega) (World.block_lt_of_cell? W' _ hv)
    refine⟨(World.cell?_of_block e).trans hv,?_⟩
    have:=hf
    unfold World.frozen? at this ⊢
    rw [e]
    exact this
   clear hend hp hpre hrb hbW hown q1 q2 q3 q4
   gi_wp2_with (first
    | (refine⟨trivial,?_⟩;gi_at_call 153;refine (CallsIn.inRound lq (callsIn_wide.2 c11)).mono ?_;rintro e w' ⟨rfl,rfl⟩)
    | (gi_at_builtin;refine append_lit_in rfl _ _ 25 rfl (W.heap.size+2) 3 i0 (.int .i64 0) 1 8 Tryz.underlying25 hi hz0 hz1 hz2 rfl (by decide) _ _ _ rfl HOW.out [.int .i64 (c:Int)] rfl (by simp [Value.oneCell']) rfl h63 h47 hsz2 ?_;intro v' w2 hown' hg' hgr';have hcf:=HW2.out w2 (sq_blk HOW.out hg');obtain⟨kc1,kc2⟩:=hcf;have R:=Lib.hid (HE.out w2 v' _ hown' hg');obtain⟨Av2,cv2,rfl,-,-,-⟩:=own_vals hown';clear hown' hg' hgr'))
   exact R.out
 case done=>
  rintro D xs W' hD rfl ⟨⟨cs,v,⟨hpre,-⟩,⟨hv,hf⟩,hown⟩,hrb,hbW⟩ hKD
  have hseq:seqOf l=some cs:=by
   unfold seqOf
   rw [if_neg HNE.out]
   exact hpre
  have q1:=hrb.1.1
  have q2:=hrb.1.2
  have q3:=hrb.2.1
  have q4:=hrb.2.2
  obtain⟨Av,cv,rfl,-,hV,-⟩:=own_vals hown
  have hv1:W'.cell? ⟨w.heap.size+1+1,0,none⟩=some (.slice Av cs.length cv):=hv
  have hgr:∀ g,(Value.slice Av cs.length cv).ownBlock=some g→W.heap.size+2≤g:=fun g e=>(hown.lt g e).1
  have hfin:SeqPost l w (.returned (.tuple #[.slice Av cs.length cv,.int .i64 0])) (((W'.setCell ⟨w.heap.size,0,none⟩ (.slice Av cs.length cv)).setCell ⟨w.heap.size+1,0,none⟩ (.int .i64 0)).putObj D (.deferred none)):=by
   have hk2:((W'.setCell ⟨w.heap.size,0,none⟩ (.slice Av cs.length cv)).setCell ⟨w.heap.size+1,0,none⟩ (.int .i64 0)).heap[D]? = some (.deferred (some [])):=((KeepsOthers.setCell W' ⟨w.heap.size,0,none⟩ _).trans (KeepsOthers.setCell _ ⟨w.heap.size+1,0,none⟩ _)).same D _ hKD rfl
   refine⟨((hbW.setCell (p:=⟨w.heap.size,0,none⟩) (Nat.le_refl _) _).setCell (p:=⟨w.heap.size+1,0,none⟩) (by simp) _).trans (belowK_b (w:=w) (Nat.le_refl _) _ D _ _ (by have:=HSZ.out;omega) hk2 rfl rfl),.inl ⟨cs,Av,cv,hseq,rfl,?_,fun a e=>by have:=hgr a.block (by rw [e];rfl);have:=HSZ.out;omega⟩⟩
   refine vals_far (w0:=w.heap.size) (w1:=w.heap.size+1) (D:=D) hV (((Kept.setCell _ _ _ (by omega)).trans (Kept.setCell _ _ _ (by omega))).trans (Kept.putObj _ _ _ (by omega))) hKD (fun a e=>?_)
   have:=hgr a.block (by rw [e];rfl)
   have:=HSZ.out
   omega
  have r1:((W'.setCell ⟨w.heap.size,0,none⟩ (.slice Av cs.length cv)).setCell ⟨w.heap.size+1,0,none⟩ (.int .i64 0)).cell? ⟨w.heap.size,0,none⟩=some (.slice Av cs.length cv):=by
   rw [World.cell?_setCell_other _ _ _ _ (by simp)]
   exact World.cell?_setCell_same' _ _ _ (by rw [q1];rfl)
  have r2:((W'.setCell ⟨w.heap.size,0,none⟩ (.slice Av cs.length cv)).setCell ⟨w.heap.size+1,0,none⟩ (.int .i64 0)).cell? ⟨w.heap.size+1,0,none⟩=some (.int .i64 0):=
   World.cell?_setCell_same' _ _ _ (by rw [World.cell?_setCell_other _ _ _ _ (by simp),q3];rfl)
  have hk2:((W'.setCell ⟨w.heap.size,0,none⟩ (.slice Av cs.length cv)).setCell ⟨w.heap.size+1,0,none⟩ (.int .i64 0)).heap[D]? = some (.deferred (some [])):=((KeepsOthers.setCell W' ⟨w.heap.size,0,none⟩ _).trans (KeepsOthers.setCell _ ⟨w.heap.size+1,0,none⟩ _)).same D _ hKD rfl
  have HFN:=Lib.hid hfin
  have HR:=Lib.hid (And.intro r1 (And.intro r2 hk2))
  clear hseq hV hgr hbW hown hpre hrb hfin r1 r2 hk2
  gi_wp2
  exact leave15 rfl rfl HR.out.2.2 HR.out.1 HR.out.2.1 HFN.out
 case stop=>
  rintro D c pre W' hD hpre ⟨⟨rfl,hno⟩,⟨q1,q3⟩,hbW⟩ hKD
  have hseq:seqOf l=none:=by
   unfold seqOf
   rw [if_neg HNE.out]
   exact mapM_pre hpre hno
  have hfin:SeqPost l w (.returned (.tuple #[.slice none 0 0,.int .i64 13])) (W'.putObj D (.deferred none)):=
   ⟨hbW.trans (belowK_b (w:=w) (Nat.le_refl _) W' D _ _ (by have:=HSZ.out;omega) hKD rfl rfl),.inr ⟨hseq,rfl⟩⟩
  have HFN:=Lib.hid hfin
  clear hfin hseq hpre hno hbW
  gi_wp2
  exact leave15 rfl rfl hKD q1 q3 HFN.out
theorem sequence15 (l:List UInt8) (w:World) (hl:l.length≤4000) (hM:ML w):Calls Tryz.prog 154 #[.string (bs l)] w (SeqPost l w):=by
 by_cases h:l = []
 · rw [h];exact sequence15_nil w
 · exact sequence15_some l w hl hM h
end Go.Proofs.YtbkgbhlmeeodgaaGreatDoor
namespace Go.Proofs.YtbkgbhlmeeodgaaGreatDoor.Cf
open Go.RowKit Go.Shelf
attribute [local go_sem] Oper.semAt_some
theorem cerr_len {f:List (List UInt8)} (h:¬f.length=3):cErr f=12:=by unfold cErr;rw [if_pos h]
theorem cerr_pt {f:List (List UInt8)} (h:f.length=3) (hp:point (cfld f 0)=none):cErr f=13:=by unfold cErr;rw [if_neg (by simpa using h),hp]
theorem cerr_sq {f:List (List UInt8)} {c:Nat} (h:f.length=3) (hp:point (cfld f 0)=some c) (hq:seqOf (cfld f 1)=none):cErr f=13:=by unfold cErr;rw [if_neg (by simpa using h),hp,hq]
theorem cerr_em {f:List (List UInt8)} {c:Nat} {p:List Nat} (h:f.length=3) (hp:point (cfld f 0)=some c) (hq:seqOf (cfld f 1)=some p) (h0:p.length=0):cErr f=16:=by unfold cErr;rw [if_neg (by simpa using h),hp,hq];simp [h0]
theorem cerr_lg {f:List (List UInt8)} {c:Nat} {p:List Nat} (h:f.length=3) (hp:point (cfld f 0)=some c) (hq:seqOf (cfld f 1)=some p) (h0:¬p.length=0) (h1:18<p.length):cErr f=36:=by unfold cErr;rw [if_neg (by simpa using h),hp,hq];simp only;rw [if_neg h0,if_pos h1]
theorem cerr_ok {f:List (List UInt8)} {c:Nat} {p:List Nat} (h:f.length=3) (hp:point (cfld f 0)=some c) (hq:seqOf (cfld f 1)=some p) (h0:¬p.length=0) (h1:¬18<p.length):cErr f=0∧cPair f=⟨c,ints' p⟩:=by
 unfold cErr cPair
 rw [if_neg (by simpa using h),hp,hq]
 simp only
 rw [if_neg h0,if_neg h1]
 exact⟨rfl,rfl⟩
theorem flds3 {w:World} {F:Option Addr} {f:List (List UInt8)} {n:Nat} (h:Vals w F n (strs f)) (hn:f.length=3):∃ b off,F=some ⟨b,off,none⟩∧b<w.heap.size∧w.cell? ⟨b,off,none⟩=some (.string (bs (cfld f 0)))∧w.cell? ⟨b,off+1,none⟩=some (.string (bs (cfld f 1))):=by
 have hl:f.length=n:=by have:=h.1;rwa [strs_length] at this
 obtain⟨b,off,rfl,hlt,hc⟩:=h.2 (by omega)
 exact⟨b,off,rfl,hlt,hc 0 _ (strs_get (by omega)),hc 1 _ (strs_get (by omega))⟩
theorem cfld_len {f:List (List UInt8)} {k N:Nat} (h:∀ y∈f,y.length≤N):(cfld f k).length≤N:=by
 unfold cfld
 rw [List.getD_eq_getElem?_getD]
 cases hk:f[k]? with
 | none=>simp
 | some y=>exact h y (List.mem_of_getElem? hk)
end Go.Proofs.YtbkgbhlmeeodgaaGreatDoor.Cf
namespace Go.Proofs.YtbkgbhlmeeodgaaGreatDoor
open Go.RowKit
attribute [local go_sem] Oper.semAt_some
def findM:List (Int×Int×Int)→Int→Int→Option Int
 | [],_,_=>none
 | x::l,a,b=>if x.2.1=a∧x.2.2=b then some x.1 else findM l a b
def mkV:Option Int→Value
 | some c=>.tuple #[.int .i64 c,.bool true]
 | none=>.tuple #[.int .i64 0,.bool false]
end Go.Proofs.YtbkgbhlmeeodgaaGreatDoor
namespace Go.Proofs.YtbkgbhlmeeodgaaGreatDoor.Uc
open Go.RowKit
def TIn (w:World) (p A:Option Addr) (c:Nat) (ls:List Rw):Prop:=
 (p=none∧ls = []∧A=none∧c=0)∨∃ b,p=some ⟨b,0,none⟩∧b<w.heap.size∧w.cell? ⟨b,0,none⟩=some (.slice A ls.length c)∧RAt w A ls.length ls
theorem TIn.below {w w':World} {p A:Option Addr} {c:Nat} {ls:List Rw} (h:TIn w p A c ls) (hb:Below w.heap.size w w'):TIn w' p A c ls:=by
 rcases h with h | ⟨b,rfl,hlt,hc,hS⟩
 · exact .inl h
 · exact .inr ⟨b,rfl,Nat.lt_of_lt_of_le hlt hb.size,(hb.cell (p:=⟨b,0,none⟩) hlt).trans hc,hS.below hb⟩
theorem TIn.rat {w:World} {p A:Option Addr} {c:Nat} {ls:List Rw} (h:TIn w p A c ls):RAt w A ls.length ls:=by
 rcases h with ⟨_,rfl,_,_⟩ | ⟨b,rfl,hlt,hc,hS⟩
 · exact RAt.nil w A
 · exact hS
set_option maxRecDepth 100000 in
set_option maxHeartbeats 1000000 in
theorem list24 (p A:Option Addr) (c:Nat) (ls:List Rw) (w:World) (hT:TIn w p A c ls):
 Calls Tryz.prog 84 #[.pointer p] w fun e w'=>e=.returned (.slice A ls.length c)∧w=w':=by
 rcases hT with ⟨rfl,rfl,rfl,rfl⟩ | ⟨b,rfl,hlt,hc,hS⟩
 · go_enter Tryz.func84,Tryz.ntmps84
   go_wp2
   go_ret
   exact⟨rfl,rfl⟩
 · clear hS
   go_enter Tryz.func84,Tryz.ntmps84
   go_wp2
   go_ret
   exact⟨rfl,rfl⟩
theorem below_store {w w1:World} {a b d:Int} {c e f:Value} (o:Obj) (h:Below w.heap.size w (w.alloc o)) (h1:Below (w.alloc o).heap.size (w.alloc o) w1):
 Below w.heap.size w ((((((w1.setCell ⟨w.heap.size,0,none⟩ (.int .i64 a)).setCell ⟨w.heap.size,1,none⟩ (.int .i64 b)).setCell ⟨w.heap.size,2,none⟩ c).setCell ⟨w.heap.size,3,none⟩ (.int .i64 d)).setCell ⟨w.heap.size,4,none⟩ e).setCell ⟨w.heap.size,5,none⟩ f):=
 below_six a b d (h.trans (h1.mono h.size))
theorem six_box {w w1:World} {v0 v1 v2 v3 v4 v5:Value} {t:TypeId} (h:Below (w.alloc (.cells #[v0,v1,v2,v3,v4,v5] t)).heap.size (w.alloc (.cells #[v0,v1,v2,v3,v4,v5] t)) w1):
 (w1.cell? ⟨w.heap.size,0,none⟩=some v0∧w1.cell? ⟨w.heap.size,1,none⟩=some v1∧w1.cell? ⟨w.heap.size,2,none⟩=some v2∧w1.cell? ⟨w.heap.size,3,none⟩=some v3∧w1.cell? ⟨w.heap.size,4,none⟩=some v4∧w1.cell? ⟨w.heap.size,5,none⟩=some v5) ∧
 ∀ i,w1.frozen? ⟨w.heap.size,i,none⟩=false:=by
 have hl:w.heap.size<(w.alloc (.cells #[v0,v1,v2,v3,v4,v5] t)).heap.size:=by simp
 refine⟨⟨(h.cell (p:=⟨w.heap.size,0,none⟩) hl).trans (by simp),(h.cell (p:=⟨w.heap.size,1,none⟩) hl).trans (by simp),(h.cell (p:=⟨w.heap.size,2,none⟩) hl).trans (by simp),(h.cell (p:=⟨w.heap.size,3,none⟩) hl).trans (by simp),(h.cell (p:=⟨w.heap.size,4,none⟩) hl).trans (by simp),(h.cell (p:=⟨w.heap.size,5,none⟩) hl).trans (by simp)⟩,fun i=>(h.frozen (p:=⟨w.heap.size,i,none⟩) hl).trans ?_⟩
 have h2:=World.alloc_heap_new w (.cells #[v0,v1,v2,v3,v4,v5] t)
 simp only [World.frozen?]
 rw [h2]
 simp
set_option maxRecDepth 100000 in
set_option maxHeartbeats 4000000 in
theorem row27 (p A:Option Addr) (c:Nat) (ls:List Rw) (z:Int) (w:World) (hT:TIn w p A c ls) (hn:ls.length≤100000) (hr:Rises ls):
 Calls Tryz.prog 51 #[.pointer p,.int .i64 z] w fun e w'=>e=.returned (rwV (atOf ls z))∧Below w.heap.size w w':=by
 have hb0:Below w.heap.size w (w.alloc (.cells #[.int .i64 0,.int .i64 0,.string ⟨#[]⟩,.int .i64 0,.string ⟨#[]⟩,.slice none 0 0] 65)):=(Below.refl _ _).alloc (Nat.le_refl _) _
 have c24:=list24 p A c ls _ (hT.below hb0)
 have c43:=bin43 A ls.length c ls z _ (hT.below hb0).rat hn hr
 unfold BinPost at c43
 have HB:=Lib.hid hb0
 clear hb0
 cases hfo:foundAt ls z
 · have HV:=Lib.hid (at_lost hr hfo)
   rw [hfo] at c43
   clear hT hr hfo
   go_enter Tryz.func51,Tryz.ntmps51
   go_wp2_with (first
    | (go_at_call 84;(with_reducible refine c24.mono ?_);rintro e w1 ⟨rfl,rfl⟩)
    | (go_at_call 85;(with_reducible refine c43.mono ?_);rintro e w1 ⟨rfl,hb1⟩;have HB1:=Lib.hid hb1;obtain⟨⟨e0,e1,e2,e3,e4,e5⟩,ef⟩:=six_box hb1;clear hb1))
   exact bodyPost_ret (v:=rwV rw0) (by simp [results,Tryz.results51,go_sem,e0,e1,e2,e3,e4,e5,rwV,rw0,bs_nil]) rfl ⟨by rw [HV.out],below_store _ HB.out HB1.out⟩
 · obtain⟨s,hs,hm⟩:=found_some hfo
   have HV:=Lib.hid (at_found hs hm)
   rw [hfo] at c43
   have hkl:=(List.getElem?_eq_some_iff.1 hs).1
   obtain⟨b2,off,rfl,hb2,hcc⟩:=hT.rat.2 (by omega)
   obtain⟨h1,h2,h3,h4,h5,h6⟩:=hcc _ s hs
   obtain⟨K,hK⟩:∃ K,placeOf ls z=K:=⟨_,rfl⟩
   rw [hK] at c43 h1 h2 h3 h4 h5 h6 hkl
   obtain⟨T,hT'⟩:∃ T,bs s.gc=T:=⟨_,rfl⟩
   obtain⟨U,hU⟩:∃ U,bs s.bd=U:=⟨_,rfl⟩
   have HT:=Lib.hid hT'
   have HU:=Lib.hid hU
   rw [hT'] at h3
   rw [hU] at h5
   obtain⟨N,hN⟩:∃ N,ls.length=N:=⟨_,rfl⟩
   rw [hN] at c24 c43 hkl hn
   clear hr hfo hs hm hcc hK hT' hU hT hN
   go_enter Tryz.func51,Tryz.ntmps51
   go_wp2_with (first
    | (go_at_call 84;(with_reducible refine c24.mono ?_);rintro e w1 ⟨rfl,rfl⟩)
    | (go_at_call 85;(with_reducible refine c43.mono ?_);rintro e w1 ⟨rfl,hb1⟩;have HB1:=Lib.hid hb1;obtain⟨⟨e0,e1,e2,e3,e4,e5⟩,ef⟩:=six_box hb1;have k1:=(HB1.out.cell (p:=⟨b2,off+K*6,none⟩) (by show b2<_;simp;omega)).trans ((HB.out.cell (p:=⟨b2,off+K*6,none⟩) hb2).trans h1);have k2:=(HB1.out.cell (p:=⟨b2,off+K*6+1,none⟩) (by show b2<_;simp;omega)).trans ((HB.out.cell (p:=⟨b2,off+K*6+1,none⟩) hb2).trans h2);have k3:=(HB1.out.cell (p:=⟨b2,off+K*6+2,none⟩) (by show b2<_;simp;omega)).trans ((HB.out.cell (p:=⟨b2,off+K*6+2,none⟩) hb2).trans h3);have k4:=(HB1.out.cell (p:=⟨b2,off+K*6+3,none⟩) (by show b2<_;simp;omega)).trans ((HB.out.cell (p:=⟨b2,off+K*6+3,none⟩) hb2).trans h4);have k5:=(HB1.out.cell (p:=⟨b2,off+K*6+4,none⟩) (by show b2<_;simp;omega)).trans ((HB.out.cell (p:=⟨b2,off+K*6+4,none⟩) hb2).trans h5);have k6:=(HB1.out.cell (p:=⟨b2,off+K*6+5,none⟩) (by show b2<_;simp;omega)).trans ((HB.out.cell (p:=⟨b2,off+K*6+5,none⟩) hb2).trans h6);clear hb1))
   exact bodyPost_ret (v:=rwV s) (by simp [results,Tryz.results51,go_sem,e0,e1,e2,e3,e4,e5,rwV,HT.out,HU.out]) rfl ⟨by rw [HV.out],below_store _ HB.out HB1.out⟩
theorem field3 (s:Rw) (W:World):(Instr.field 65 (rwV s) 3).run Tryz.prog W=.ok (.int .i64 s.ccc) W:=by kernel_rfl
theorem field5 (s:Rw) (W:World):(Instr.field 65 (rwV s) 5).run Tryz.prog W=.ok (.slice s.dp s.dm s.dc) W:=by kernel_rfl
set_option maxRecDepth 100000 in
set_option maxHeartbeats 1000000 in
theorem ccc15 (p A:Option Addr) (c:Nat) (ls:List Rw) (z:Int) (w:World) (hT:TIn w p A c ls) (hn:ls.length≤100000) (hr:Rises ls):
 Calls Tryz.prog 26 #[.pointer p,.int .i64 z] w fun e w'=>e=.returned (.int .i64 (atOf ls z).ccc)∧Below w.heap.size w w':=by
 have c27:=row27 p A c ls z w hT hn hr
 unfold rwV at c27
 clear hT hr
 have hfd:∀ W:World,_:=fun W=>field3 (atOf ls z) W
 unfold rwV at hfd
 go_enter Tryz.func26,Tryz.ntmps26
 go_wp2_with (go_at_call 51;(with_reducible refine c27.mono ?_);rintro e w1 ⟨rfl,hb1⟩)
 go_ret
 exact⟨rfl,hb1⟩
end Go.Proofs.YtbkgbhlmeeodgaaGreatDoor.Uc
namespace Go.Proofs.YtbkgbhlmeeodgaaGreatDoor
open Go.RowKit
attribute [local go_sem] Oper.semAt_some
def valsOf:Nat→List (List UInt8)
 | 2=>[[70,117,108,108,95,67,111,109,112,111,115,105,116,105,111,110,95,69,120,99,108,117,115,105,111,110]]
 | 3=>[[68,101,102,97,117,108,116,95,73,103,110,111,114,97,98,108,101,95,67,111,100,101,95,80,111,105,110,116]]
 | 4=>[[80,86,65,76,73,68],[67,79,78,84,69,88,84,74],[67,79,78,84,69,88,84,79],[68,73,83,65,76,76,79,87,69,68],[85,78,65,83,83,73,71,78,69,68]]
 | _=>[]
theorem vals_lit (w:World) (us:List Value) (e:TypeId):Vals (w.alloc (.cells us.toArray e)) (some ⟨w.heap.size,0,none⟩) us.length us:=
 ⟨rfl,fun _=>⟨w.heap.size,0,rfl,by simp,fun j u hj=>by
  have:=lit_cells w us e j u hj
  rwa [add_at] at this⟩⟩
end Go.Proofs.YtbkgbhlmeeodgaaGreatDoor
