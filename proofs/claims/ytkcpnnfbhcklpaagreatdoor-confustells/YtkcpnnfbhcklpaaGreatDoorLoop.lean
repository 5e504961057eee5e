/- The loop of the statements on lines: each line that comes is held against what the document's own answer tells. -/
import Derived.Test.YtkcpnnfbhcklpaaGreatDoorLines
import Derived.Test.YtkcpnnfbhcklpaaGreatDoorRlines
import Derived.Test.YtkcpnnfbhcklpaaGreatDoorSame
namespace Go.Proofs.YtkcpnnfbhcklpaaGreatDoor
open Go.RowKit Go.Shelf

theorem frozen_new (w : World) (C : Array Value) (e : TypeId) (j : Nat) : (w.alloc (.cells C e)).frozen? ⟨w.heap.size, j, none⟩ = false := by
  have h := World.alloc_heap_new w (.cells C e)
  simp only [World.frozen?]
  rw [h]
  simp
/-- Between two rounds: what has come is the beginning of what is wanted; the count; all else lies as it lay. -/
def FlI (want : List Ln) (most bn : Nat) (w w4 : World) (xs : List LnV) (W : World) : Prop :=
  (xs.map view <+: want ∧ xs.length ≤ most) ∧ ((W.cell? ⟨bn, 0, none⟩ = some (.int .i64 (xs.length : Nat)) ∧ W.frozen? ⟨bn, 0, none⟩ = false) ∧ (Kept (fun k => k ≠ bn) w4 W ∧ Below w.heap.size w W))
/-- A round has left: by a break, or having found another line than was wanted. -/
def FlX (id : Nat) (want : List Ln) (most bn : Nat) (w w4 : World) (c : Code) (xs : List LnV) (W : World) : Prop :=
  ((c = .exit id ∧ xs.length = most + 1) ∧ (W.cell? ⟨bn, 0, none⟩ = some (.int .i64 most) ∧ W.frozen? ⟨bn, 0, none⟩ = false) ∧ (Kept (fun k => k ≠ bn) w4 W ∧ Below w.heap.size w W)) ∨ (c = .ret ∧ ¬ xs.map view <+: want)
theorem fli_abide (want : List Ln) (most bn : Nat) (w w4 : World) (hw : w.heap.size ≤ w4.heap.size) : Abide 0 0 w4.heap.size (FlI want most bn w w4) :=
  Abide.and (Abide.pure _ _ _ (fun xs : List LnV => xs.map view <+: want ∧ xs.length ≤ most)) (Abide.and (abide_cell (n₀ := 0) (n₁ := 0) (fun (_ : List LnV) => ⟨bn, 0, none⟩) (fun (xs : List LnV) => .int .i64 (xs.length : Nat)) (fun _ => by omega)) (Abide.and (abide_kept _ w4 (fun k _ hk => ⟨hk, by omega⟩)) (abide_below w (.inr (by omega)) hw (Nat.le_refl _))))
theorem flx_abide (id : Nat) (want : List Ln) (most bn : Nat) (w w4 : World) (hw : w.heap.size ≤ w4.heap.size) (c : Code) : Abide 0 0 w4.heap.size (FlX id want most bn w w4 c) := by
  intro xs W W' row hs hg hr
  rcases hs with ⟨h1, h2, h3, h4⟩ | h
  · exact .inl ⟨h1, abide_cell (β := Unit) (fun _ => ⟨bn, 0, none⟩) (fun _ => .int .i64 most) (fun _ => by omega) () W W' row h2 hg hr, abide_kept (β := Unit) _ w4 (fun k _ hk => ⟨hk, by omega⟩) () W W' row h3 hg hr, abide_below (β := Unit) w (.inr (by omega)) hw (Nat.le_refl _) () W W' row h4 hg hr⟩
  · exact .inr h
theorem snoc_pre {α : Type} {pre l : List α} {x : α} (h : pre <+: l) (hx : l[pre.length]? = some x) : pre ++ [x] <+: l := by
  obtain ⟨r, rfl⟩ := h
  cases r with
  | nil => simp at hx
  | cons y r =>
    simp at hx
    subst hx
    exact ⟨r, by simp⟩
theorem pre_snoc {α : Type} {pre l : List α} {x : α} (h : pre ++ [x] <+: l) : l[pre.length]? = some x := by
  obtain ⟨r, rfl⟩ := h
  simp
theorem fl_next {want : List Ln} {most bn b0 : Nat} {w w4 W : World} {pre : List LnV} {x : LnV} (q : Nat) (h : FlI want most bn w w4 pre W) (hx : want[pre.length]? = some (view x)) (hm : pre.length < most) (hb : w.heap.size ≤ bn) (h0 : bn ≠ 0) (hlt : bn < b0) :
    Kept (fun k => k = 0 ∨ b0 ≤ k) W ((W.drewN q).setCell ⟨bn, 0, none⟩ (.int .i64 ((pre.length : Int) + 1))) ∧ FlI want most bn w w4 (pre ++ [x]) ((W.drewN q).setCell ⟨bn, 0, none⟩ (.int .i64 ((pre.length : Int) + 1))) := by
  have k1 : Kept (fun k => k = 0 ∨ b0 ≤ k) (W.drewN q) ((W.drewN q).setCell ⟨bn, 0, none⟩ (.int .i64 ((pre.length : Int) + 1))) := Kept.setCell _ _ _ (by omega)
  have k2 : Kept (fun k => k ≠ bn) (W.drewN q) ((W.drewN q).setCell ⟨bn, 0, none⟩ (.int .i64 ((pre.length : Int) + 1))) := Kept.setCell _ _ _ (by omega)
  refine ⟨(Kept.of_drew W q).trans k1, ⟨?_, by simp; omega⟩, ⟨?_, ?_⟩, (h.2.2.1.trans (Kept.of_drew W q)).trans k2, (below_drewN h.2.2.2 q).setCell (p := ⟨bn, 0, none⟩) hb _⟩
  · rw [List.map_append]
    exact snoc_pre h.1.1 (by rw [List.length_map]; exact hx)
  · rw [World.cell?_setCell_same' _ _ _ (by have := h.2.1.1; show (W.cell? _).isSome = true; rw [this]; rfl)]
    simp
  · rw [World.frozen?_setCell]; exact h.2.1.2
theorem fl_bad {want : List Ln} {pre : List LnV} {x : LnV} (h : want[pre.length]? ≠ some (view x)) : ¬ (pre ++ [x]).map view <+: want := by
  intro hp
  rw [List.map_append] at hp
  have := pre_snoc hp
  rw [List.length_map] at this
  exact h this

theorem Kept.frozen {A : Nat → Prop} {W W' : World} {a : Addr} {v : Value} (h : Kept A W W') (hA : A a.block) (hc : W.cell? a = some v) : W'.frozen? a = W.frozen? a := by
  obtain ⟨o, ho, _⟩ := cells_of_cell hc
  unfold World.frozen?
  rw [h.2 _ hA (Array.getElem?_eq_some_iff.1 ho).1]
theorem LinesAt.kept {w w' : World} {A : Option Addr} {n : Nat} {ls : List Ln} (h : LinesAt w A n ls) (hk : Kept (fun k => k < w.heap.size) w w') : LinesAt w' A n ls := by
  refine ⟨h.1, fun hn => ?_⟩
  obtain ⟨b, rfl, hlt, hc⟩ := h.2 hn
  refine ⟨b, rfl, Nat.lt_of_lt_of_le hlt hk.1, fun j x hj => ?_⟩
  obtain ⟨h1, F, cf, h2, h3⟩ := hc j x hj
  refine ⟨hk.cell (a := ⟨b, 2 * j, none⟩) hlt h1, F, cf, hk.cell (a := ⟨b, 2 * j + 1, none⟩) hlt h2, h3.1, fun hn => ?_⟩
  obtain ⟨b', off, rfl, hlt', hc'⟩ := h3.2 hn
  exact ⟨b', off, rfl, Nat.lt_of_lt_of_le hlt' hk.1, fun j v hj => hk.cell (a := ⟨b', off + j, none⟩) hlt' (hc' j v hj)⟩
theorem numbered_mem : ∀ (n : Int) (L : List (List UInt8)) (x : Int × List UInt8), x ∈ numbered n L → ∃ p ∈ L, x.2 = bodyOf p
  | _, [], _, h => by simp [numbered] at h
  | n, p :: L, x, h => by
    simp only [numbered, List.mem_cons] at h
    rcases h with rfl | h
    · exact ⟨p, by simp, rfl⟩
    · obtain ⟨q, hq, e⟩ := numbered_mem _ L x h
      exact ⟨q, by simp [hq], e⟩
theorem lines_bound {l : List UInt8} {y : Ln} (h : y ∈ linesIn l) : y.2.length ≤ l.length + 1 := by
  unfold linesIn at h
  rw [List.mem_filterMap] at h
  obtain ⟨x, hx, e⟩ := h
  obtain ⟨p, hp, hb⟩ := numbered_mem 1 _ x hx
  unfold lineOf at e
  split at e
  · cases e
  · cases e
    show (fieldsOf x.2).length ≤ _
    unfold fieldsOf
    rw [List.length_map, hb]
    have h1 := cutAll_length 59 (bodyOf p)
    have h2 := body_length p
    have h3 := cutAll_mem_length 10 l p hp
    omega
end Go.Proofs.YtkcpnnfbhcklpaaGreatDoor
