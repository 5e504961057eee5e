/- The cells of a line's fields; no program is spoken of. -/
import Derived.Test.YtfmkhfjdihfppaaDoorUni
import Derived.Test.YtfmkhfjdihfppaaDoorVals
namespace Go.Proofs.YtfmkhfjdihfppaaDoor
open Go.RowKit

theorem bs_emp (l : List UInt8) : (bs l).toList.isEmpty = decide (l = []) := by
  have e : (bs l).toList = l := by rw [Lib.toList_data, bs_data]
  rw [e, Bool.eq_iff_iff, decide_eq_true_eq, List.isEmpty_iff]
/-- The cells of a line's fields. -/
theorem flds {w : World} {F : Option Addr} {f : List (List UInt8)} {n : Nat} (h : Vals w F n (strs f)) (hn : n = 15) : ∃ b off, F = some ⟨b, off, none⟩ ∧ b < w.heap.size ∧ w.cell? ⟨b, off, none⟩ = some (.string (bs (fld f 0))) ∧ w.cell? ⟨b, off + 1, none⟩ = some (.string (bs (fld f 1))) ∧ w.cell? ⟨b, off + 2, none⟩ = some (.string (bs (fld f 2))) ∧ w.cell? ⟨b, off + 3, none⟩ = some (.string (bs (fld f 3))) ∧ w.cell? ⟨b, off + 4, none⟩ = some (.string (bs (fld f 4))) ∧ w.cell? ⟨b, off + 5, none⟩ = some (.string (bs (fld f 5))) := by
  have hl : f.length = n := by have := h.1; rwa [strs_length] at this
  obtain ⟨b, off, rfl, hlt, hc⟩ := h.2 (by omega)
  exact ⟨b, off, rfl, hlt, hc 0 _ (strs_get (by omega)), hc 1 _ (strs_get (by omega)), hc 2 _ (strs_get (by omega)), hc 3 _ (strs_get (by omega)), hc 4 _ (strs_get (by omega)), hc 5 _ (strs_get (by omega))⟩
theorem fld_len {f : List (List UInt8)} (h : ∀ x ∈ f, x.length ≤ 2000) (k : Nat) : (fld f k).length ≤ 2000 := by
  unfold fld
  rw [List.getD_eq_getElem?_getD]
  cases hk : f[k]? with
  | none => simp
  | some x => exact h x (List.mem_of_getElem? hk)

end Go.Proofs.YtfmkhfjdihfppaaDoor
