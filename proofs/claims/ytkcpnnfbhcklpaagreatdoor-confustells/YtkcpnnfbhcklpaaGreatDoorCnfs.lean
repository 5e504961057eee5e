/- Plain words: prototypes of a file of confusables are short. -/
import Derived.Test.YtkcpnnfbhcklpaaGreatDoorCnf
namespace Go.Proofs.YtkcpnnfbhcklpaaGreatDoor
open Go.RowKit

/-- Where no line is wrong, every prototype has 1 to 18 code points. -/
theorem cErr_len {f : List (List UInt8)} (h : cErr f = 0) : 1 ≤ (cPair f).p.length ∧ (cPair f).p.length ≤ 18 := by
  unfold cErr at h
  unfold cPair ints'
  split at h
  · omega
  · cases h0 : point (cfld f 0) with
    | none => rw [h0] at h; simp at h
    | some v =>
      rw [h0] at h
      cases h1 : seqOf (cfld f 1) with
      | none => rw [h1] at h; simp at h
      | some p =>
        rw [h1] at h
        simp only at h
        simp only [Option.getD_some, List.length_map]
        split at h
        · omega
        · split at h <;> omega
theorem cf_short {L : List Ln} (h : (cfOf L).err = 0) : ∀ r ∈ (cfOf L).rows, 1 ≤ r.p.length ∧ r.p.length ≤ 18 := by
  intro r hr
  obtain ⟨h1, -, h3, -⟩ := cf_inv L [] List.Pairwise.nil h
  have hm := h3.mem_iff.1 hr
  rw [List.nil_append] at hm
  obtain ⟨x, hx, rfl⟩ := List.mem_map.1 hm
  exact cErr_len (h1 x hx)
/-- Whatever the file says: no prototype has more than 18 code points. -/
theorem cf_most (L : List Ln) : ∀ r ∈ (cfOf L).rows, r.p.length ≤ 18 := by
  intro r hr
  by_cases h : (cfOf L).err = 0
  · exact (cf_short h r hr).2
  · rw [show (cfOf L).rows = [] from cf_rows L [] h] at hr
    cases hr
end Go.Proofs.YtkcpnnfbhcklpaaGreatDoor
