/- Rows in boxes; what a sequence's post says; no walk. -/
import Derived.Test.YtfmkhfjdihfppaaDoorSequ
import Derived.Test.YtfmkhfjdihfppaaDoorGood
import Derived.Test.YtfmkhfjdihfppaaDoorTab
namespace Go.Proofs.YtfmkhfjdihfppaaDoor
open Go.RowKit

/-- The six cells of a row's box. -/
def Box6 (w : World) (b : Nat) (v0 v1 v2 v3 v4 v5 : Value) : Prop :=
  (w.cell? ⟨b, 0, none⟩ = some v0 ∧ w.cell? ⟨b, 1, none⟩ = some v1 ∧ w.cell? ⟨b, 2, none⟩ = some v2 ∧ w.cell? ⟨b, 3, none⟩ = some v3 ∧ w.cell? ⟨b, 4, none⟩ = some v4 ∧ w.cell? ⟨b, 5, none⟩ = some v5) ∧ ∀ i, w.frozen? ⟨b, i, none⟩ = false
theorem Box6.below {w w' : World} {b : Nat} {v0 v1 v2 v3 v4 v5 : Value} (h : Box6 w b v0 v1 v2 v3 v4 v5) (hl : b < w.heap.size) (hb : Below w.heap.size w w') : Box6 w' b v0 v1 v2 v3 v4 v5 :=
  ⟨⟨(hb.cell (p := ⟨b, 0, none⟩) hl).trans h.1.1, (hb.cell (p := ⟨b, 1, none⟩) hl).trans h.1.2.1, (hb.cell (p := ⟨b, 2, none⟩) hl).trans h.1.2.2.1, (hb.cell (p := ⟨b, 3, none⟩) hl).trans h.1.2.2.2.1, (hb.cell (p := ⟨b, 4, none⟩) hl).trans h.1.2.2.2.2.1, (hb.cell (p := ⟨b, 5, none⟩) hl).trans h.1.2.2.2.2.2⟩, fun i => (hb.frozen (p := ⟨b, i, none⟩) hl).trans (h.2 i)⟩
theorem row_fin {f : List (List UInt8)} {c : Nat} (h : f.length = 15) (hp : point (fld f 0) = some c) (ho : okB f = true) (hd : decErr (fld f 5) = 0) : rowRef f = ⟨c, c, fld f 2, cccOf (fld f 3), fld f 4, decVal (fld f 5)⟩ := by
  unfold rowRef
  rw [if_pos (by rw [row_dec h hp ho]; exact hd)]
  unfold rowVal
  rw [hp]
  rfl
theorem dec_err {l : List UInt8} (h : tagB l = false) : decErr l = match seqOf l with | none => 13 | some cs => if 2 < cs.length then 16 else 0 := by unfold decErr; rw [if_neg (by rw [h]; decide)]; cases seqOf l <;> rfl
theorem seq_none {l : List UInt8} {w w' : World} {e : Ending} (hs : seqOf l = none) (h : SeqPost l w e w') : e = .returned (.tuple #[.slice none 0 0, .int .i64 13]) ∧ Below w.heap.size w w' := by
  rcases h.2 with ⟨cs, A, ca, h1, -⟩ | ⟨-, h2⟩
  · rw [hs] at h1; cases h1
  · exact ⟨h2, h.1⟩
theorem seq_some {l : List UInt8} {w w' : World} {e : Ending} {cs : List Nat} (hs : seqOf l = some cs) (h : SeqPost l w e w') : Below w.heap.size w w' ∧ ∃ A ca, e = .returned (.tuple #[.slice A cs.length ca, .int .i64 0]) ∧ Hid (Vals w' A cs.length (i64s cs) ∧ ∀ a, A = some a → w.heap.size ≤ a.block) := by
  rcases h.2 with ⟨cs', A, ca, h1, h2, h3⟩ | ⟨h1, -⟩
  · rw [hs] at h1
    cases h1
    exact ⟨h.1, A, ca, h2, Lib.hid h3⟩
  · rw [hs] at h1; cases h1
theorem vals_set {w : World} {A : Option Addr} {n b i : Nat} {vs : List Value} {v : Value} (h : Vals w A n vs) (hA : ∀ a, A = some a → ¬ a.block = b) : Vals (w.setCell ⟨b, i, none⟩ v) A n vs := by
  refine ⟨h.1, fun hn => ?_⟩
  obtain ⟨b', off, rfl, hlt, hc⟩ := h.2 hn
  refine ⟨b', off, rfl, by rw [World.size_setCell]; exact hlt, fun j u hj => ?_⟩
  rw [World.cell?_setCell_other _ _ _ _ (by intro e; have := hA _ rfl; injection e with e1; exact this e1.symm)]
  exact hc j u hj
theorem vals_set6 {w : World} {A : Option Addr} {n b : Nat} {vs : List Value} {v0 v1 v2 v3 v4 v5 : Value} (h : Vals w A n vs) (hA : ∀ a, A = some a → ¬ a.block = b) :
    Vals ((((((w.setCell ⟨b, 0, none⟩ v0).setCell ⟨b, 1, none⟩ v1).setCell ⟨b, 2, none⟩ v2).setCell ⟨b, 3, none⟩ v3).setCell ⟨b, 4, none⟩ v4).setCell ⟨b, 5, none⟩ v5) A n vs :=
  vals_set (vals_set (vals_set (vals_set (vals_set (vals_set h hA) hA) hA) hA) hA) hA
theorem below_set {w v : World} {r : Nat} (h : Below w.heap.size w v) (hr : w.heap.size ≤ r) (i : Nat) (x : Value) : Below w.heap.size w (v.setCell ⟨r, i, none⟩ x) := Below.setCell h hr _
end Go.Proofs.YtfmkhfjdihfppaaDoor
