/- Variables in blocks of their own, and what a loop over a function has gathered so far; no program is spoken of. -/
import Derived.Test.YtdbnegllncjhkaaGreatDoorSat
namespace Go.Proofs.YtdbnegllncjhkaaGreatDoor
open Go.RowKit

theorem frozen_new (w : World) (C : Array Value) (e : TypeId) (j : Nat) : (w.alloc (.cells C e)).frozen? ⟨w.heap.size, j, none⟩ = false := by
  have h := World.alloc_heap_new w (.cells C e)
  simp only [World.frozen?]
  rw [h]
  simp
theorem box_new (W : World) (v : Value) (t : TypeId) : (W.alloc (.cells #[v] t)).cell? ⟨W.heap.size, 0, none⟩ = some v ∧ (W.alloc (.cells #[v] t)).frozen? ⟨W.heap.size, 0, none⟩ = false := ⟨by simp, frozen_new W _ _ _⟩
theorem box_cell {W : World} {a : Addr} {v : Value} (o : Obj) (h : W.cell? a = some v) : (W.alloc o).cell? a = some v := (World.cell?_alloc_lt _ _ _ (World.block_lt_of_cell? W a h)).trans h
theorem box_frozen {W : World} {a : Addr} {v : Value} (o : Obj) (h : W.cell? a = some v) (hf : W.frozen? a = false) : (W.alloc o).frozen? a = false := (World.frozen?_alloc_past _ _ _ (World.block_lt_of_cell? W a h)).trans hf
theorem cell_abide {β : Type} {B : Nat} (a : Addr) (v : Value) : Abide 0 0 B (fun (_ : β) W => W.cell? a = some v) := by
  intro _ W W' row hs hg hr
  refine cell_kept hs hg (fun r e => ?_)
  rcases hr r e with h | ⟨_, h⟩
  · omega
  · exact h
theorem own_abide {β : Type} {B base : Nat} {v : Value} {n size : Nat} {xs : List Value} {e : TypeId} : Abide 0 0 B (fun (_ : β) W => W.ownsRow base e size v n xs) := by
  intro _ W W' row hs hg hr
  refine ⟨hs.1, ?_⟩
  rcases hs.2 with hn | ⟨g, cap, cur, rfl, hbg, hgg, rest⟩
  · exact .inl hn
  · refine .inr ⟨g, cap, cur, rfl, hbg, ?_, rest⟩
    rw [hg.block g (Array.getElem?_eq_some_iff.1 hgg).1 (fun e => ?_)]
    · exact hgg
    · rcases hr g e.symm with h | ⟨_, o, ho, hc⟩
      · omega
      · rw [hgg] at ho; cases ho; cases hc
/-- What has been gathered: the variable in block bo holds a row of the call's own, from base on. -/
def GotI (w : World) (bo base : Nat) (e : TypeId) (size n : Nat) (xs : List Value) (W : World) : Prop :=
  (∃ v, (W.cell? ⟨bo, 0, none⟩ = some v ∧ W.frozen? ⟨bo, 0, none⟩ = false) ∧ W.ownsRow base e size v n xs) ∧ Below w.heap.size w W
theorem got_abide {β : Type} (w : World) (bo base : Nat) (e : TypeId) (size B : Nat) (n : β → Nat) (xs : β → List Value) (hB : w.heap.size ≤ B) : Abide 0 0 B (fun s W => GotI w bo base e size (n s) (xs s) W) := by
  intro s W W' row hs hg hr
  obtain ⟨⟨v, h2, h3⟩, h4⟩ := hs
  exact ⟨⟨v, abide_cell (β := Unit) (fun _ => ⟨bo, 0, none⟩) (fun _ => v) (fun _ => by omega) () W W' row h2 hg hr, own_abide (β := Unit) () W W' row h3 hg hr⟩, abide_below (β := Unit) w (.inr (by omega)) hB (Nat.le_refl _) () W W' row h4 hg hr⟩
/-- One more has been gathered. -/
theorem got_next {w W w2 : World} {bo base : Nat} {e : TypeId} {size n : Nat} {xs us : List Value} {v v' : Value} {o : Obj}
    (hv : W.cell? ⟨bo, 0, none⟩ = some v) (hf : W.frozen? ⟨bo, 0, none⟩ = false) (hown : W.ownsRow base e size v n xs) (hb : Below w.heap.size w W)
    (ho' : w2.ownsRow base e size v' (n + 1) (xs ++ us)) (hg : (W.alloc o).grownBy w2 v.ownBlock) (h1 : w.heap.size ≤ bo) (h2 : bo < base) :
    Kept (fun k => k ≠ bo ∧ k < base) W (w2.setCell ⟨bo, 0, none⟩ v') ∧ GotI w bo base e size (n + 1) (xs ++ us) (w2.setCell ⟨bo, 0, none⟩ v') ∧ w2.cell? ⟨bo, 0, none⟩ = some v ∧ w2.frozen? ⟨bo, 0, none⟩ = false := by
  have hgb : ∀ g, v.ownBlock = some g → base ≤ g := fun g e => (hown.lt g e).1
  have hW2 : bo < W.heap.size := World.block_lt_of_cell? W _ hv
  have e0 : w2.heap[bo]? = W.heap[bo]? := by
    rw [hg.block bo (by simp; omega) (fun e => by have := hgb bo e.symm; omega)]
    exact Below.heap_alloc W o bo hW2
  have c0 : w2.cell? ⟨bo, 0, none⟩ = some v := (World.cell?_of_block e0).trans hv
  have f0 : w2.frozen? ⟨bo, 0, none⟩ = false := by
    unfold World.frozen? at hf ⊢
    rw [e0]
    exact hf
  have hb2 : Below w.heap.size w w2 := (hb.alloc (by omega) o).grown hg (by simp; omega) (fun g e => by have := hgb g e; omega)
  have k1 : Kept (fun k => k ≠ bo ∧ k < base) W w2 := (Kept.alloc W o).trans (Kept.grown hg (fun r e => by have := hgb r e; omega))
  refine ⟨k1.trans (Kept.setCell _ _ _ (by omega)), ⟨⟨v', ⟨?_, ?_⟩, ?_⟩, hb2.setCell (p := ⟨bo, 0, none⟩) h1 _⟩, c0, f0⟩
  · exact World.cell?_setCell_same' _ _ _ (by rw [c0]; rfl)
  · rw [World.frozen?_setCell]; exact f0
  · refine ⟨ho'.1, ?_⟩
    rcases ho'.2 with hn | ⟨g, cap, cur, rfl, hbg, hgg, rest⟩
    · exact .inl hn
    · refine .inr ⟨g, cap, cur, rfl, hbg, ?_, rest⟩
      rw [(grownBy_setCell' w2 bo _).block g (Array.getElem?_eq_some_iff.1 hgg).1 (fun e => by cases e; omega)]
      exact hgg
theorem own_shape {w : World} {base n size : Nat} {e : TypeId} {v : Value} {xs : List Value} (h : w.ownsRow base e size v n xs) : ∃ A c, v = .slice A n c ∧ (A = none → c = 0) := by
  rcases h.2 with ⟨rfl, h0⟩ | ⟨g, cap, cur, rfl, -⟩
  · exact ⟨none, 0, by rw [h0], fun _ => rfl⟩
  · exact ⟨_, cap, rfl, fun h => by cases h⟩
/-- The loop's variable, a span, in a block of its own. -/
def SpBox (x : Sp) (b : Nat) (W : World) : Prop := W.cell? ⟨b, 0, none⟩ = some (.int .i64 x.a) ∧ W.cell? ⟨b, 1, none⟩ = some (.int .i64 x.b) ∧ W.cell? ⟨b, 2, none⟩ = some (.string (bs x.v))
theorem spBox_new (x : Sp) (W : World) (t : TypeId) : SpBox x W.heap.size (W.alloc (.cells #[.int .i64 x.a, .int .i64 x.b, .string (bs x.v)] t)) := by
  refine ⟨?_, ?_, ?_⟩ <;> simp
theorem spBox_abide (x : Sp) (b B : Nat) : Abide 0 0 B (fun (_ : Unit) W => SpBox x b W) := Abide.and (cell_abide _ _) (Abide.and (cell_abide _ _) (cell_abide _ _))
theorem SAt.far {A' : Nat → Prop} {W W2 : World} {A : Option Addr} {n D : Nat} {ls : List Sp} (h : SAt W A n ls) (hk : Kept A' W W2) (hD : W.heap[D]? = some (.deferred (some []))) (hA : ∀ k, k ≠ D → A' k) : SAt W2 A n ls := by
  refine ⟨h.1, fun hn => ?_⟩
  obtain ⟨b, off, rfl, hlt, hc⟩ := h.2 hn
  have hbD : b ≠ D := by
    rintro rfl
    obtain ⟨s, hs⟩ := getSp (ls := ls) (k := 0) (by rw [h.1]; exact hn)
    obtain ⟨o, ho, hcl⟩ := cells_of_cell (hc 0 s hs).1
    rw [hD] at ho
    cases ho
    cases hcl
  have hb := hA b hbD
  refine ⟨b, off, rfl, Nat.lt_of_lt_of_le hlt hk.1, fun j s hj => ?_⟩
  obtain ⟨h1, h2, h3⟩ := hc j s hj
  exact ⟨hk.cell (a := ⟨b, _, none⟩) hb h1, hk.cell (a := ⟨b, _, none⟩) hb h2, hk.cell (a := ⟨b, _, none⟩) hb h3⟩
end Go.Proofs.YtdbnegllncjhkaaGreatDoor
