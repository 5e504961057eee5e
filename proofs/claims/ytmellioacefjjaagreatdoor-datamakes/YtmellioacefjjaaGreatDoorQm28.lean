/- What stands between two lines of Parse; no walk. -/
/- The document's own Load: how things stand between its steps. -/
/- The document's own Load: how things stand between two property files. -/
/- The document's own Load: how things stand once all files are read. -/
/- Variables in blocks of their own, and what a loop over a function has gathered so far; no program is spoken of. -/
import Derived.Test.YtmellioacefjjaaGreatDoorQm27
import Derived.Test.YtmellioacefjjaaGreatDoorQm13
import Derived.Test.YtmellioacefjjaaGreatDoorQm08
import Derived.Test.YtmellioacefjjaaGreatDoorQm03
import Derived.Test.YtmellioacefjjaaGreatDoorQm11
import Derived.Test.YtmellioacefjjaaGreatDoorQm06
import Derived.Test.YtmellioacefjjaaGreatDoorQm12
import Derived.Test.YtmellioacefjjaaGreatDoorQm20
import Derived.Test.YtmellioacefjjaaGreatDoorQm19
import Derived.Test.YtmellioacefjjaaGreatDoorQm24
import Derived.Deep.CutBlock
import Derived.Deep.CutRange
import Derived.Deep.DeepCutAuto
import Derived.Test.YtmellioacefjjaaGreatDoorQm07
namespace Go.Proofs.YtmellioacefjjaaGreatDoor.Uc
open Go.RowKit Go.Shelf Go.Sort

/-- A block of cells is not turned by growth, nor by what happens to blocks that are no cells. -/
theorem grown_cells {W W' : World} {row : Option Nat} {b : Nat} {o : Obj} (hg : W.grownBy W' row) (hr : ∀ r, row = some r → ∃ o : Obj, W.heap[r]? = some o ∧ o.isCells = false) (hb : W.heap[b]? = some o) (ho : o.isCells = true) : W'.heap[b]? = W.heap[b]? := by
  refine hg.block b (Array.getElem?_eq_some_iff.1 hb).1 (fun e => ?_)
  obtain ⟨o', h1, h2⟩ := hr b e.symm
  rw [hb] at h1
  cases h1
  rw [ho] at h2
  cases h2
theorem grown_cell {W W' : World} {row : Option Nat} {a : Addr} {v : Value} (hg : W.grownBy W' row) (hr : ∀ r, row = some r → ∃ o : Obj, W.heap[r]? = some o ∧ o.isCells = false) (hc : W.cell? a = some v) : W'.heap[a.block]? = W.heap[a.block]? := by
  obtain ⟨o, ho, hcl⟩ := cells_of_cell hc
  exact grown_cells hg hr ho hcl
theorem RdrI.grown {R base : Nat} {ps : List Pr} {op : Option Ln} {W W' : World} {row : Option Nat} (h : RdrI R base ps op W) (hg : W.grownBy W' row) (hr : ∀ r, row = some r → ∃ o : Obj, W.heap[r]? = some o ∧ o.isCells = false) : RdrI R base ps op W' := by
  obtain ⟨v, ls, num, nm, bare, s, hx, ⟨h1, h2, h3, h4⟩, h5⟩ := h
  refine ⟨v, ls, num, nm, bare, s, rbx_block hx (grown_cell (a := ⟨R, 0, none⟩) hg hr hx.1.1), ⟨own_block h1 fun k e => ?_, Ist.blocks hg.size h2 fun t ht hd a ha hlt => ?_, h3, h4⟩, h5⟩
  · rcases h1.2 with ⟨rfl, -⟩ | ⟨g, cap, cur, rfl, -, hgg, -⟩
    · cases e
    · have e : some g = some k := e
      cases e
      exact grown_cells hg hr hgg rfl
  · obtain ⟨p, -, hp⟩ := ist_mem h2 ht
    obtain ⟨b, off, e, -, hc⟩ := hp.2.2.2.2.2.2.2 hd
    rw [ha] at e
    cases e
    have hl := hp.2.2.2.2.2.2.1
    have := hc 0 _ (List.getElem?_eq_getElem (by rw [hl]; exact hd))
    exact grown_cell (a := ⟨b, off + 0, none⟩) hg hr this
theorem rdr_abide {β : Type} {R base B : Nat} (ps : β → List Pr) (op : β → Option Ln) : Abide 0 0 B (fun s W => RdrI R base (ps s) (op s) W) := fun _ _ _ _ hs hg hr => hs.grown hg (fun r e => (hr r e).elim (fun h => absurd h.2 (by omega)) (fun h => h.2))
/-- What the loop's body does not own. -/
def PA (H R : Nat) (W : World) (k : Nat) : Prop := GA R W k ∧ (k ≠ H ∧ k ≠ H + 1 ∧ k ≠ H + 2)
theorem pa_lets (H R : Nat) : Lets (PA H R) := (ga_lets R).and _
theorem pa_hold {H R : Nat} {W W' : World} (h : Hold (GA R) W W') : Hold (PA H R) W W' := ⟨h.1, fun k ha hk => have q := h.2 k ha.1 hk; ⟨q.1, q.2, ha.2⟩⟩
/-- The results' three boxes. -/
def RB3 (H : Nat) (p : Option Addr) (e n : Int) (W : World) : Prop :=
  (W.cell? ⟨H, 0, none⟩ = some (.pointer p) ∧ W.frozen? ⟨H, 0, none⟩ = false) ∧ ((W.cell? ⟨H + 1, 0, none⟩ = some (.int .i64 e) ∧ W.frozen? ⟨H + 1, 0, none⟩ = false) ∧ (W.cell? ⟨H + 2, 0, none⟩ = some (.int .i64 n) ∧ W.frozen? ⟨H + 2, 0, none⟩ = false))
theorem rb3_abide {β : Type} {B : Nat} (H : Nat) (p : β → Option Addr) (e n : β → Int) : Abide 0 0 B (fun s W => RB3 H (p s) (e s) (n s) W) :=
  Abide.and (abide_cell (fun _ => ⟨H, 0, none⟩) (fun s => .pointer (p s)) (fun _ => by omega)) (Abide.and (abide_cell (fun _ => ⟨H + 1, 0, none⟩) (fun s => .int .i64 (e s)) (fun _ => by omega)) (abide_cell (fun _ => ⟨H + 2, 0, none⟩) (fun s => .int .i64 (n s)) (fun _ => by omega)))
theorem RB3.below {H : Nat} {p : Option Addr} {e n : Int} {W W' : World} (h : RB3 H p e n W) {B : Nat} (hl : H + 2 < B) (hb : Below B W W') : RB3 H p e n W' :=
  ⟨⟨(hb.cell (p := ⟨H, 0, none⟩) (by show H < B; omega)).trans h.1.1, (hb.frozen (p := ⟨H, 0, none⟩) (by show H < B; omega)).trans h.1.2⟩, ⟨(hb.cell (p := ⟨H + 1, 0, none⟩) (by show H + 1 < B; omega)).trans h.2.1.1, (hb.frozen (p := ⟨H + 1, 0, none⟩) (by show H + 1 < B; omega)).trans h.2.1.2⟩, (hb.cell (p := ⟨H + 2, 0, none⟩) (by show H + 2 < B; omega)).trans h.2.2.1, (hb.frozen (p := ⟨H + 2, 0, none⟩) (by show H + 2 < B; omega)).trans h.2.2.2⟩
def stOf (xs : List LnV) : St := (xs.map view).foldl step (.at [] none)
theorem st_snoc (xs : List LnV) (x : LnV) : stOf (xs ++ [x]) = step (stOf xs) (view x) := by unfold stOf; rw [List.map_append, List.foldl_append]; rfl
/-- Between two lines. -/
def PaI (w : World) (base : Nat) (pre : List LnV) (W : World) : Prop :=
  ∃ s : List Pr × Option Ln, (stOf pre = .at s.1 s.2 ∧ s.1.length ≤ pre.length) ∧ (RdrI (w.heap.size + 3) base s.1 s.2 W ∧ (RB3 w.heap.size none 0 0 W ∧ (ML W ∧ Below w.heap.size w W)))
/-- A line has left: it is wrong. -/
def PaX (w : World) (c : Code) (pre : List LnV) (W : World) : Prop :=
  ∃ s : Int × Int, (c = .ret ∧ stOf pre = .bad s.1 s.2 ∧ ¬ s.1 = 0) ∧ (RB3 w.heap.size none s.1 s.2 W ∧ Below w.heap.size w W)
theorem pai_abide (w : World) (base B : Nat) (hB : w.heap.size ≤ B) : Abide 0 0 B (PaI w base) := by
  intro pre W W' row ⟨s, h1, h2, h3, h4, h5⟩ hg hr
  exact ⟨s, h1, rdr_abide (β := Unit) (B := B) (fun _ => s.1) (fun _ => s.2) () W W' row h2 hg hr, rb3_abide (β := Unit) (B := B) _ (fun _ => none) (fun _ => 0) (fun _ => 0) () W W' row h3 hg hr, ml_abide (β := Unit) (B := B) () W W' row h4 hg hr, abide_below (β := Unit) w (.inr (by omega)) hB (Nat.le_refl _) () W W' row h5 hg hr⟩
theorem pax_abide (w : World) (B : Nat) (hB : w.heap.size ≤ B) (c : Code) : Abide 0 0 B (PaX w c) := by
  intro pre W W' row ⟨s, h1, h3, h5⟩ hg hr
  exact ⟨s, h1, rb3_abide (β := Unit) (B := B) _ (fun _ => none) (fun _ => s.1) (fun _ => s.2) () W W' row h3 hg hr, abide_below (β := Unit) w (.inr (by omega)) hB (Nat.le_refl _) () W W' row h5 hg hr⟩
theorem rdr_free {R base : Nat} {ps : List Pr} {op : Option Ln} {W : World} (h : RdrI R base ps op W) : ∀ k, W.heap.size ≤ k → GA R W k := by
  obtain ⟨v, ls, num, nm, bare, s, hx, hr, -⟩ := h
  intro k hk
  have := hx.lt
  exact ⟨v, hx.1.1, by omega, fun e => by have := (hr.1.lt k e).2; omega⟩
def rb3_set (H : Nat) (p : Option Addr) (e n : Int) (W : World) : World := ((W.setCell ⟨H, 0, none⟩ (.pointer p)).setCell ⟨H + 1, 0, none⟩ (.int .i64 e)).setCell ⟨H + 2, 0, none⟩ (.int .i64 n)
theorem rb3_new {H : Nat} {p p' : Option Addr} {e n e' n' : Int} {W : World} (h : RB3 H p e n W) : RB3 H p' e' n' (rb3_set H p' e' n' W) := by
  obtain ⟨⟨h1, h2⟩, ⟨h3, h4⟩, h5, h6⟩ := h
  unfold rb3_set
  refine ⟨⟨by simp [go_sem, h1], ?_⟩, ⟨by simp [go_sem, h3], ?_⟩, by simp [go_sem, h5], ?_⟩ <;> simp only [World.frozen?_setCell] <;> assumption
theorem rb3_other {H k : Nat} {p : Option Addr} {e n : Int} {W : World} (h : k ≠ H ∧ k ≠ H + 1 ∧ k ≠ H + 2) : (rb3_set H p e n W).heap[k]? = W.heap[k]? := by
  unfold rb3_set
  rw [heap_setCell_other _ ⟨H + 2, 0, none⟩ k _ (fun e => h.2.2 (by simpa using e)), heap_setCell_other _ ⟨H + 1, 0, none⟩ k _ (fun e => h.2.1 (by simpa using e)), heap_setCell_other _ ⟨H, 0, none⟩ k _ (fun e => h.1 (by simpa using e))]
theorem rb3_size {H : Nat} {p : Option Addr} {e n : Int} {W : World} : (rb3_set H p e n W).heap.size = W.heap.size := by unfold rb3_set; simp only [World.size_setCell]
theorem rb3_below {w : World} {p : Option Addr} {e n : Int} {W : World} (h : Below w.heap.size w W) : Below w.heap.size w (rb3_set w.heap.size p e n W) := by
  unfold rb3_set
  exact ((h.setCell (p := ⟨w.heap.size, 0, none⟩) (Nat.le_refl _) _).setCell (p := ⟨w.heap.size + 1, 0, none⟩) (by show w.heap.size ≤ w.heap.size + 1; omega) _).setCell (p := ⟨w.heap.size + 2, 0, none⟩) (by show w.heap.size ≤ w.heap.size + 2; omega) _
theorem rb3_hold {H R : Nat} {p : Option Addr} {e n : Int} {W : World} (hR : R ≠ H ∧ R ≠ H + 1 ∧ R ≠ H + 2) : Hold (PA H R) W (rb3_set H p e n W) :=
  ⟨by rw [rb3_size]; exact Nat.le_refl _, fun k ha _ => ⟨rb3_other ha.2, (by
    obtain ⟨⟨v, h1, h2⟩, h3⟩ := ha
    exact ⟨⟨v, (World.cell?_of_block (a := ⟨R, 0, none⟩) (rb3_other hR)).trans h1, h2⟩, h3⟩)⟩⟩
theorem rat_block {W W' : World} {A : Option Addr} {n : Nat} {ls : List Rw} (h : RAt W A n ls) (hs : W.heap.size ≤ W'.heap.size) (he : ∀ a, A = some a → W'.heap[a.block]? = W.heap[a.block]?) : RAt W' A n ls := by
  refine ⟨h.1, fun hn => ?_⟩
  obtain ⟨b, off, rfl, hlt, hc⟩ := h.2 hn
  refine ⟨b, off, rfl, Nat.lt_of_lt_of_le hlt hs, fun j s hj => ?_⟩
  obtain ⟨h1, h2, h3, h4, h5, h6⟩ := hc j s hj
  have c : ∀ i u, W.cell? ⟨b, i, none⟩ = some u → W'.cell? ⟨b, i, none⟩ = some u := fun i u hu => (World.cell?_of_block (a := ⟨b, i, none⟩) (he ⟨b, off, none⟩ rfl)).trans hu
  exact ⟨c _ _ h1, c _ _ h2, c _ _ h3, c _ _ h4, c _ _ h5, c _ _ h6⟩
/-- What was laid from B on. -/
def Fresh (B : Nat) (A : Option Addr) (ls : List Rw) : Prop := (∀ a, A = some a → B ≤ a.block) ∧ ∀ t ∈ ls, 0 < t.dm → ∀ a, t.dp = some a → B ≤ a.block
/-- What Parse hands back. -/
def ParsePost (l : List UInt8) (w : World) (e : Ending) (w' : World) : Prop :=
  Below w.heap.size w w' ∧ (((parseOf (linesIn l)).err = 0 ∧ ∃ b A c ls, e = .returned (.tuple #[.pointer (some ⟨b, 0, none⟩), .int .i64 0, .int .i64 0]) ∧ w.heap.size ≤ b ∧ TIn w' (some ⟨b, 0, none⟩) A c ls ∧ Ist w' ls (parseOf (linesIn l)).rows ∧ Fresh w.heap.size A ls) ∨
    (¬ (parseOf (linesIn l)).err = 0 ∧ e = .returned (.tuple #[.pointer none, .int .i64 (parseOf (linesIn l)).err, .int .i64 (parseOf (linesIn l)).num])))
theorem put_other {W : World} {D k : Nat} {o : Obj} (h : k ≠ D) : (W.putObj D o).heap[k]? = W.heap[k]? := World.putObj_heap_other h
/-- The table, laid. -/
theorem table_done {w W : World} {base D n c : Nat} {A : Option Addr} {ls : List Rw} {ps : List Pr} (hn : ls.length = n) (hr : RRows (w.heap.size + 3) base (.slice A n c) ls ps W) (hD : W.heap[D]? = some (.deferred (some []))) (hb : Below w.heap.size w W) (hDw : w.heap.size + 3 < D) (hbase : w.heap.size + 3 < W.heap.size) :
    let X := (rb3_set w.heap.size (some ⟨W.heap.size, 0, none⟩) 0 0 (W.alloc (.cells #[.slice A n c] 134))).putObj D (.deferred none)
    Below w.heap.size w X ∧ TIn X (some ⟨W.heap.size, 0, none⟩) A c ls ∧ Ist X ls ps ∧ Fresh w.heap.size A ls := by
  intro X
  obtain ⟨h1, h2, h3, h4⟩ := hr
  have hDl : D < W.heap.size := (Array.getElem?_eq_some_iff.1 hD).1
  have ho : ∀ k, k < W.heap.size → k ≠ D → (k ≠ w.heap.size ∧ k ≠ w.heap.size + 1 ∧ k ≠ w.heap.size + 2) → X.heap[k]? = W.heap[k]? := fun k hk hkD hk3 => by
    show ((rb3_set w.heap.size _ 0 0 (W.alloc _)).putObj D _).heap[k]? = _
    rw [put_other hkD, rb3_other hk3]
    exact Below.heap_alloc W _ k hk
  have hsz : X.heap.size = W.heap.size + 1 := by
    show ((rb3_set w.heap.size _ 0 0 (W.alloc _)).putObj D _).heap.size = _
    rw [World.putObj_size, rb3_size, World.size_alloc]
  have hcD : ∀ k o, W.heap[k]? = some o → o.isCells = true → k ≠ D := fun k o hk hc e => by
    subst e
    rw [hD] at hk
    cases hk
    cases hc
  have hbox : X.cell? ⟨W.heap.size, 0, none⟩ = some (.slice A n c) := by
    refine (World.cell?_of_block (a := ⟨W.heap.size, 0, none⟩) (w := W.alloc (.cells #[.slice A n c] 134)) ?_).trans (by simp)
    show ((rb3_set w.heap.size _ 0 0 (W.alloc _)).putObj D _).heap[W.heap.size]? = _
    rw [put_other (by omega), rb3_other ⟨by omega, by omega, by omega⟩]
  have hrat : RAt W A n ls := by
    rw [← hn] at h1
    obtain ⟨A', c', e, -, hr', -⟩ := own_rat h1
    cases e
    rw [← hn]
    exact hr'
  refine ⟨?_, .inr ⟨W.heap.size, rfl, by omega, by rw [hn]; exact hbox, ?_⟩, ?_, fun a ha => ?_, fun t ht hd a ha => ?_⟩
  · have hk2 : (rb3_set w.heap.size (some ⟨W.heap.size, 0, none⟩) 0 0 (W.alloc (.cells #[.slice A n c] 134))).heap[D]? = some (.deferred (some [])) := by
      rw [rb3_other ⟨by omega, by omega, by omega⟩]
      exact (Below.heap_alloc W _ D hDl).trans hD
    exact (rb3_below (hb.alloc (by omega) _)).trans (belowK_b (w := w) (Nat.le_refl _) _ D _ _ (by omega) hk2 rfl rfl)
  · rw [hn]
    refine rat_block hrat (by omega) fun a ha => ?_
    rcases h1.2 with ⟨e, -⟩ | ⟨g, cap, cur, e, hg1, hg2, -⟩
    · cases e
      cases ha
    · cases e
      cases ha
      exact ho g (Array.getElem?_eq_some_iff.1 hg2).1 (hcD g _ hg2 rfl) ⟨by omega, by omega, by omega⟩
  · refine Ist.blocks (W := W) (by omega) h2 fun t ht hd a ha hlt => ?_
    have h3' := (h3 t ht hd a ha).2
    obtain ⟨p, -, hp⟩ := ist_mem h2 ht
    obtain ⟨b, off, e, -, hc⟩ := hp.2.2.2.2.2.2.2 hd
    rw [ha] at e
    cases e
    have hl := hp.2.2.2.2.2.2.1
    have hc0 := hc 0 _ (List.getElem?_eq_getElem (by rw [hl]; exact hd))
    obtain ⟨o, ho1, ho2⟩ := cells_of_cell hc0
    exact ho b hlt (hcD b o ho1 ho2) ⟨by simp only at h3'; omega, by simp only at h3'; omega, by simp only at h3'; omega⟩
  · rcases h1.2 with ⟨e, -⟩ | ⟨g, cap, cur, e, hg1, hg2, -⟩
    · cases e
      cases ha
    · cases e
      cases ha
      show w.heap.size ≤ g
      omega
  · have := (h3 t ht hd a ha).2
    omega
end Go.Proofs.YtmellioacefjjaaGreatDoor.Uc

namespace Go.Proofs.YtmellioacefjjaaGreatDoor
open Go.RowKit

/-- The bundle's values. -/
def bunV (v0 v1 v2 v3 v4 v5 v6 : Value) : Nat → Value := fun i => match i with
  | 0 => v0 | 1 => v1 | 2 => v2 | 3 => v3 | 4 => v4 | 5 => v5 | _ => v6
theorem new_at (w : World) (C : Array Value) (t : TypeId) (n i : Nat) (hn : n = w.heap.size) : (w.alloc (.cells C t)).cell? ⟨n, i, none⟩ = C[i]? := World.cell?_alloc_at _ _ _ _ hn
theorem old_at (w : World) (o : Obj) (n i : Nat) (hn : n < w.heap.size) : (w.alloc o).cell? ⟨n, i, none⟩ = w.cell? ⟨n, i, none⟩ := World.cell?_alloc_past _ _ _ hn
theorem old_fro (w : World) (o : Obj) (n i : Nat) (hn : n < w.heap.size) : (w.alloc o).frozen? ⟨n, i, none⟩ = w.frozen? ⟨n, i, none⟩ := World.frozen?_alloc_past _ _ _ hn
theorem new_fro (w : World) (C : Array Value) (t : TypeId) (n i : Nat) (hn : n = w.heap.size) : (w.alloc (.cells C t)).frozen? ⟨n, i, none⟩ = false := by subst hn; exact frozen_new w C t i
theorem seven_at (v0 v1 v2 v3 v4 v5 v6 : Value) : ∀ i, i < 7 → (#[v0, v1, v2, v3, v4, v5, v6] : Array Value)[i]? = some (bunV v0 v1 v2 v3 v4 v5 v6 i)
  | 0, _ => rfl | 1, _ => rfl | 2, _ => rfl | 3, _ => rfl | 4, _ => rfl | 5, _ => rfl | 6, _ => rfl
  | _ + 7, h => absurd h (by omega)
theorem three_at : ∀ i, i < 3 → (#[.int .i64 0, .int .i64 0, .int .i64 0] : Array Value)[i]? = some (.int .i64 0)
  | 0, _ => rfl | 1, _ => rfl | 2, _ => rfl
  | _ + 3, h => absurd h (by omega)
end Go.Proofs.YtmellioacefjjaaGreatDoor

namespace Go.Proofs.YtmellioacefjjaaGreatDoor
open Go.RowKit

section
variable {w W : World} {bv g : Nat → Value} {R : Option Addr} {n c : Nat} {ls : List Uc.Rw} {ps : List Uc.Pr} {F : Nat} {f : Nat → List UInt8} {k : Nat}
end
/-- What Load hands back. -/
def whV (x : Wh) : Value := .agg #[.int .i64 x.file, .int .i64 x.line, .int .i64 x.err]
/-- The result's cells are set. -/
def setR (w W : World) (a b c : Int) : World := ((W.setCell ⟨w.heap.size + 1, 0, none⟩ (.int .i64 a)).setCell ⟨w.heap.size + 1, 1, none⟩ (.int .i64 b)).setCell ⟨w.heap.size + 1, 2, none⟩ (.int .i64 c)
end Go.Proofs.YtmellioacefjjaaGreatDoor

namespace Go.Proofs.YtmellioacefjjaaGreatDoor
open Go.RowKit

/-- A row is found by its first code point. -/
theorem pat_row : ∀ {ps : List Uc.Pr}, Uc.Good ps → ∀ r ∈ ps, Uc.patOf ps r.a = r
  | [], _, _, h => by cases h
  | p :: ps, hg, r, hr => by
    have hp := List.pairwise_cons.1 hg.1
    rcases List.mem_cons.1 hr with rfl | hr'
    · have hf := hg.2 r (List.mem_cons_self ..)
      unfold Uc.patOf
      rw [List.find?_cons_of_pos (by simpa using hf.2.1)]
      rfl
    · have h1 := hp.1 r hr'
      have ih := pat_row (ps := ps) ⟨hp.2, fun s hs => hg.2 s (List.mem_cons_of_mem _ hs)⟩ r hr'
      unfold Uc.patOf at ih ⊢
      rw [List.find?_cons_of_neg (by simp; omega)]
      exact ih
end Go.Proofs.YtmellioacefjjaaGreatDoor

namespace Go.Proofs.YtmellioacefjjaaGreatDoor.Pq
open Go.RowKit

theorem frozen_new (w : World) (C : Array Value) (e : TypeId) (j : Nat) : (w.alloc (.cells C e)).frozen? ⟨w.heap.size, j, none⟩ = false := by
  have h := World.alloc_heap_new w (.cells C e)
  simp only [World.frozen?]
  rw [h]
  simp
theorem box_new (W : World) (v : Value) (t : TypeId) : (W.alloc (.cells #[v] t)).cell? ⟨W.heap.size, 0, none⟩ = some v ∧ (W.alloc (.cells #[v] t)).frozen? ⟨W.heap.size, 0, none⟩ = false := ⟨by simp, frozen_new W _ _ _⟩
theorem box_cell {W : World} {a : Addr} {v : Value} (o : Obj) (h : W.cell? a = some v) : (W.alloc o).cell? a = some v := (World.cell?_alloc_lt _ _ _ (World.block_lt_of_cell? W a h)).trans h
theorem box_frozen {W : World} {a : Addr} {v : Value} (o : Obj) (h : W.cell? a = some v) (hf : W.frozen? a = false) : (W.alloc o).frozen? a = false := (World.frozen?_alloc_past _ _ _ (World.block_lt_of_cell? W a h)).trans hf
theorem cell_abide {β : Type} {B : Nat} (a : Addr) (v : Value) : Abide 0 0 B (fun (_ : β) W => W.cell? a = some v) := by
  intro _ W W' row hs hg hr
  refine cell_kept hs hg (fun r e => ?_)
  rcases hr r e with h | ⟨_, h⟩
  · omega
  · exact h
theorem own_abide {β : Type} {B base : Nat} {v : Value} {n size : Nat} {xs : List Value} {e : TypeId} : Abide 0 0 B (fun (_ : β) W => W.ownsRow base e size v n xs) := by
  intro _ W W' row hs hg hr
  refine ⟨hs.1, ?_⟩
  rcases hs.2 with hn | ⟨g, cap, cur, rfl, hbg, hgg, rest⟩
  · exact .inl hn
  · refine .inr ⟨g, cap, cur, rfl, hbg, ?_, rest⟩
    rw [hg.block g (Array.getElem?_eq_some_iff.1 hgg).1 (fun e => ?_)]
    · exact hgg
    · rcases hr g e.symm with h | ⟨_, o, ho, hc⟩
      · omega
      · rw [hgg] at ho; cases ho; cases hc
/-- What has been gathered: the variable in block bo holds a row of the call's own, from base on. -/
def GotI (w : World) (bo base : Nat) (e : TypeId) (size n : Nat) (xs : List Value) (W : World) : Prop :=
  (∃ v, (W.cell? ⟨bo, 0, none⟩ = some v ∧ W.frozen? ⟨bo, 0, none⟩ = false) ∧ W.ownsRow base e size v n xs) ∧ Below w.heap.size w W
theorem got_abide {β : Type} (w : World) (bo base : Nat) (e : TypeId) (size B : Nat) (n : β → Nat) (xs : β → List Value) (hB : w.heap.size ≤ B) : Abide 0 0 B (fun s W => GotI w bo base e size (n s) (xs s) W) := by
  intro s W W' row hs hg hr
  obtain ⟨⟨v, h2, h3⟩, h4⟩ := hs
  exact ⟨⟨v, abide_cell (β := Unit) (fun _ => ⟨bo, 0, none⟩) (fun _ => v) (fun _ => by omega) () W W' row h2 hg hr, own_abide (β := Unit) () W W' row h3 hg hr⟩, abide_below (β := Unit) w (.inr (by omega)) hB (Nat.le_refl _) () W W' row h4 hg hr⟩
/-- One more has been gathered. -/
theorem got_next {w W w2 : World} {bo base : Nat} {e : TypeId} {size n : Nat} {xs us : List Value} {v v' : Value} {o : Obj}
    (hv : W.cell? ⟨bo, 0, none⟩ = some v) (hf : W.frozen? ⟨bo, 0, none⟩ = false) (hown : W.ownsRow base e size v n xs) (hb : Below w.heap.size w W)
    (ho' : w2.ownsRow base e size v' (n + 1) (xs ++ us)) (hg : (W.alloc o).grownBy w2 v.ownBlock) (h1 : w.heap.size ≤ bo) (h2 : bo < base) :
    Kept (fun k => k ≠ bo ∧ k < base) W (w2.setCell ⟨bo, 0, none⟩ v') ∧ GotI w bo base e size (n + 1) (xs ++ us) (w2.setCell ⟨bo, 0, none⟩ v') ∧ w2.cell? ⟨bo, 0, none⟩ = some v ∧ w2.frozen? ⟨bo, 0, none⟩ = false := by
  have hgb : ∀ g, v.ownBlock = some g → base ≤ g := fun g e => (hown.lt g e).1
  have hW2 : bo < W.heap.size := World.block_lt_of_cell? W _ hv
  have e0 : w2.heap[bo]? = W.heap[bo]? := by
    rw [hg.block bo (by simp; omega) (fun e => by have := hgb bo e.symm; omega)]
    exact Below.heap_alloc W o bo hW2
  have c0 : w2.cell? ⟨bo, 0, none⟩ = some v := (World.cell?_of_block e0).trans hv
  have f0 : w2.frozen? ⟨bo, 0, none⟩ = false := by
    unfold World.frozen? at hf ⊢
    rw [e0]
    exact hf
  have hb2 : Below w.heap.size w w2 := (hb.alloc (by omega) o).grown hg (by simp; omega) (fun g e => by have := hgb g e; omega)
  have k1 : Kept (fun k => k ≠ bo ∧ k < base) W w2 := (Kept.alloc W o).trans (Kept.grown hg (fun r e => by have := hgb r e; omega))
  refine ⟨k1.trans (Kept.setCell _ _ _ (by omega)), ⟨⟨v', ⟨?_, ?_⟩, ?_⟩, hb2.setCell (p := ⟨bo, 0, none⟩) h1 _⟩, c0, f0⟩
  · exact World.cell?_setCell_same' _ _ _ (by rw [c0]; rfl)
  · rw [World.frozen?_setCell]; exact f0
  · refine ⟨ho'.1, ?_⟩
    rcases ho'.2 with hn | ⟨g, cap, cur, rfl, hbg, hgg, rest⟩
    · exact .inl hn
    · refine .inr ⟨g, cap, cur, rfl, hbg, ?_, rest⟩
      rw [(grownBy_setCell' w2 bo _).block g (Array.getElem?_eq_some_iff.1 hgg).1 (fun e => by cases e; omega)]
      exact hgg
theorem own_shape {w : World} {base n size : Nat} {e : TypeId} {v : Value} {xs : List Value} (h : w.ownsRow base e size v n xs) : ∃ A c, v = .slice A n c ∧ (A = none → c = 0) := by
  rcases h.2 with ⟨rfl, h0⟩ | ⟨g, cap, cur, rfl, -⟩
  · exact ⟨none, 0, by rw [h0], fun _ => rfl⟩
  · exact ⟨_, cap, rfl, fun h => by cases h⟩
end Go.Proofs.YtmellioacefjjaaGreatDoor.Pq
