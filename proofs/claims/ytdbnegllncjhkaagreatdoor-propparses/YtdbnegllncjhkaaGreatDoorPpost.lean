/- What the program's Parse and Points of property files hand back, in plain words; no walk. -/
import Derived.Test.YtdbnegllncjhkaaGreatDoorPrpm
import Derived.Test.YtdbnegllncjhkaaGreatDoorInf
import Derived.Test.YtdbnegllncjhkaaGreatDoorPpts
import Derived.Test.YtdbnegllncjhkaaGreatDoorBodies
namespace Go.Proofs.YtdbnegllncjhkaaGreatDoor
open Go.RowKit Go.Shelf

/-- What Parse hands back. -/
def PrPost (vs : List (List UInt8)) (l : List UInt8) (w : World) (e : Ending) (w' : World) : Prop :=
  Below w.heap.size w w' ∧ (((propOf vs (linesIn l)).err = 0 ∧ ∃ b A c, e = .returned (.tuple #[.pointer (some ⟨b, 0, none⟩), .int .i64 0, .int .i64 0]) ∧ TIn w' (some ⟨b, 0, none⟩) A c (sorted (propOf vs (linesIn l)).rows)) ∨
    (¬ (propOf vs (linesIn l)).err = 0 ∧ e = .returned (.tuple #[.pointer none, .int .i64 (propOf vs (linesIn l)).err, .int .i64 (propOf vs (linesIn l)).num])))
theorem prp_rows : ∀ (vs : List (List UInt8)) (L : List Ln) (out : List Sp), ¬ (propP vs out L).err = 0 → (propP vs out L).rows = []
  | vs, [], out, h => by rw [propP] at h; exact absurd rfl h
  | vs, x :: L, out, h => by
    by_cases hx : lineErr x.2 = 0
    · cases ha : amongB vs (pfld x.2 1) with
      | false => rw [prp_skip hx ha] at h ⊢; exact prp_rows vs L out h
      | true =>
        by_cases hc : check out (spOf x.2) = 0
        · rw [prp_add hx ha hc] at h ⊢; exact prp_rows vs L _ h
        · rw [prp_bad hx ha hc]
    · rw [prp_err hx]
theorem prp_good (vs : List (List UInt8)) (L : List Ln) : Good (sorted (propOf vs L).rows) := by
  by_cases h : (propOf vs L).err = 0
  · obtain ⟨-, h2, -⟩ := prp_inv vs L [] h
    have ha : addAll [] (selS vs L) = .ok (sorted (propP vs [] L).rows) := by
      have := addAll_came (selS vs L) []
      rw [h2] at this
      exact this
    exact (addAll_good _ [] _ ⟨List.Pairwise.nil, fun s h => by cases h⟩ ha).1
  · rw [show (propOf vs L).rows = [] from prp_rows vs L [] h]
    exact ⟨List.Pairwise.nil, fun s h => by cases h⟩
theorem prp_num (vs : List (List UInt8)) (L : List Ln) (h : (propOf vs L).err = 0) : (propOf vs L).num = 0 := (prp_inv vs L [] h).2.2
theorem lines_few {l : List UInt8} : (linesIn l).length ≤ l.length + 1 := by
  rw [← lines_pieces]
  have h1 := List.length_filterMap_le lineOf (numbered 1 (pieces l))
  rw [numbered_length] at h1
  have h2 := pieces_length l
  omega
theorem prp_many (vs : List (List UInt8)) (l : List UInt8) : (propOf vs (linesIn l)).rows.length ≤ l.length + 1 := by
  have h1 := prp_len vs (linesIn l) []
  have h2 := lines_few (l := l)
  have h3 : (propOf vs (linesIn l)).rows.length ≤ ([] : List Sp).length + (linesIn l).length := h1
  simp at h3
  omega
end Go.Proofs.YtdbnegllncjhkaaGreatDoor
