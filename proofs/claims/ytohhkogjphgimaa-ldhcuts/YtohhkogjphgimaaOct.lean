/- A slice of octets, read as a list; its string. -/
import Derived.Test.YtohhkogjphgimaaVals
import Derived.Test.YtohhkogjphgimaaProg
import Derived.Lib.Bytes
import Derived.Laws.BytesArg
namespace Go.Proofs.Ytohhkogjphgimaa
open Go.RowKit

def ints (l : List UInt8) : List Int := l.map fun c => (c.toNat : Int)
theorem ints_length (l : List UInt8) : (ints l).length = l.length := List.length_map _
theorem ints_bytes (l : List UInt8) : Lib.bytesOf (ints l) = l := by
  unfold Lib.bytesOf ints
  rw [List.map_map]
  conv => rhs; rw [← List.map_id l]
  apply List.map_congr_left
  intro c _
  simp
theorem ints_str (l : List UInt8) : strOfNums (ints l) = bs l := by
  have h := Lib.strOfNums_toList (ints l)
  rw [ints_bytes, Lib.toList_data] at h
  rw [← bs_of (strOfNums (ints l)), h]
theorem ints_range (l : List UInt8) : ∀ x ∈ ints l, 0 ≤ x ∧ x < 256 := by
  intro x hx
  unfold ints at hx
  rw [List.mem_map] at hx
  obtain ⟨c, _, rfl⟩ := hx
  have := c.toNat_lt
  omega
/-- The slice at A of length n reads as the octets l. -/
def Octs (w : World) (A : Option Addr) (n : Nat) (l : List UInt8) : Prop := Vals w A n (nums .u8 (ints l))
theorem Octs.len {w : World} {A : Option Addr} {n : Nat} {l : List UInt8} (h : Octs w A n l) : l.length = n := by
  have := h.1
  unfold nums at this
  rwa [List.length_map, ints_length] at this
theorem Octs.below {w w' : World} {A : Option Addr} {n : Nat} {l : List UInt8} (h : Octs w A n l) (hb : Below w.heap.size w w') : Octs w' A n l := Vals.below h hb
theorem octs_cells {w : World} {b off n : Nat} {l : List UInt8} (h : Octs w (some ⟨b, off, none⟩) n l) : ∀ j, j < n → w.cell? ⟨b, off + j, none⟩ = some (.int .u8 ((ints l).getD j 0)) := fun j hj => by
  obtain ⟨b', off', e, _, hc⟩ := h.2 (by omega)
  cases e
  exact hc j _ (nums_get (by rw [ints_length, h.len]; exact hj))
theorem octs_of {w : World} {b off n : Nat} {l : List UInt8} (hl : l.length = n) (hb : 0 < n → b < w.heap.size) (h : ∀ j, j < n → w.cell? ⟨b, off + j, none⟩ = some (.int .u8 ((ints l).getD j 0))) : Octs w (some ⟨b, off, none⟩) n l := by
  refine ⟨by unfold nums; rw [List.length_map, ints_length, hl], fun hn => ⟨b, off, rfl, hb hn, fun j v hj => ?_⟩⟩
  have hlt : j < l.length := by
    have := (List.getElem?_eq_some_iff.1 hj).1
    unfold nums at this
    rwa [List.length_map, ints_length] at this
  rw [nums_get (by rw [ints_length]; exact hlt)] at hj
  cases hj
  exact h j (by omega)
theorem ints_get (l : List UInt8) (j : Nat) : (ints l).getD j 0 = oct l j := by
  unfold ints oct
  simp [List.getD_eq_getElem?_getD, List.getElem?_map]
  cases l[j]? <;> rfl
theorem oct_take (l : List UInt8) (k j : Nat) (h : j < k) : oct (l.take k) j = oct l j := by
  unfold oct
  simp [List.getD_eq_getElem?_getD, h]
theorem oct_drop (l : List UInt8) (k j : Nat) : oct (l.drop k) j = oct l (k + j) := by
  unfold oct
  simp [List.getD_eq_getElem?_getD]
theorem Octs.take {w : World} {A : Option Addr} {n : Nat} {l : List UInt8} (h : Octs w A n l) (k : Nat) (hk : k ≤ n) : Octs w A k (l.take k) := by
  have hl := h.len
  rcases Nat.eq_zero_or_pos k with rfl | h0
  · rw [List.take_zero]; exact Vals.nil _ _
  · obtain ⟨b, off, rfl, hb, -⟩ := h.2 (by omega)
    have hc := octs_cells h
    refine octs_of (by simp; omega) (fun _ => hb) (fun j hj => ?_)
    rw [hc j (by omega), ints_get, ints_get, oct_take _ _ _ hj]
theorem octs_from {w : World} {A : Option Addr} {n c : Nat} {l : List UInt8} (h : Octs w A n l) (k : Nat) (hk : k ≤ n) (hc : n ≤ c) : Octs w (if c = k then A else A.map (fun x => x.add k)) (n - k) (l.drop k) := by
  have hl := h.len
  rcases Nat.eq_zero_or_pos (n - k) with h0 | h0
  · rw [h0, List.drop_of_length_le (by omega)]; exact Vals.nil _ _
  · obtain ⟨b, off, rfl, hb, -⟩ := h.2 (by omega)
    have hcl := octs_cells h
    have e : (if c = k then (some ⟨b, off, none⟩ : Option Addr) else (some ⟨b, off, none⟩ : Option Addr).map (fun x => x.add k)) = some ⟨b, off + k, none⟩ := by
      rw [if_neg (by omega)]
      simp [Addr.add]
    rw [e]
    refine octs_of (by simp; omega) (fun _ => hb) (fun j hj => ?_)
    rw [show off + k + j = off + (k + j) by omega, hcl (k + j) (by omega), ints_get, ints_get, oct_drop]

theorem conv22 {A : Option Addr} {n : Nat} (c : Nat) {l : List UInt8} {w : World} (h : Octs w A n l) : (convert 22 9 (.slice A n c)).run Try.prog w = .ok (.string (bs l)) w := by
  have hl := h.len
  rcases Nat.eq_zero_or_pos n with h0 | h0
  · subst h0
    obtain rfl : l = [] := List.eq_nil_of_length_eq_zero hl
    cases A with
    | none => exact run_convert_bytes_nil w 22 5 Try.underlying22 Try.underlying5 0 c 9 Try.underlying9
    | some a =>
      rw [run_convert_bytes_string w 22 9 5 _ 0 c Try.underlying22 Try.underlying5 Try.underlying9]
      rw [run_bytesToString w a 0 c [] (by simp [loadCells, loadCellsFrom])]
      rfl
  · obtain ⟨b, off, rfl, -, -⟩ := h.2 h0
    rw [← ints_str]
    exact run_convert_bytes_arg w 22 5 Try.underlying22 Try.underlying5 b off n c (ints l) (by rw [ints_length, hl]) (octs_cells h) 9 Try.underlying9


end Go.Proofs.Ytohhkogjphgimaa
