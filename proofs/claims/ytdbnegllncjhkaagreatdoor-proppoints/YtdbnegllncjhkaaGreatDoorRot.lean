/- Spans turned round; what the document's Rest hands back. -/
import Derived.Test.YtdbnegllncjhkaaGreatDoorNew
namespace Go.Proofs.YtdbnegllncjhkaaGreatDoor
open Go.RowKit Go.Sort Go.Shelf

def rot (ls : List Sp) (r : Nat) : List Sp := ls.drop r ++ ls.take r
theorem rot_perm (ls : List Sp) (r : Nat) : ls.Perm (rot ls r) := by
  unfold rot
  exact (List.perm_append_comm.trans (by rw [List.take_append_drop])).symm
theorem rot_length (ls : List Sp) (r : Nat) : (rot ls r).length = ls.length := (rot_perm ls r).length_eq.symm
theorem rot_get {ls : List Sp} {r k n : Nat} (hn : ls.length = n) (hr : r < n) (hk : k < n) : (rot ls r)[k]? = ls[(k + r) % n]? := by
  unfold rot
  by_cases h : k + r < n
  · rw [List.getElem?_append_left (by rw [List.length_drop]; omega), List.getElem?_drop, Nat.mod_eq_of_lt h, Nat.add_comm]
  · rw [List.getElem?_append_right (by rw [List.length_drop]; omega), List.length_drop, List.getElem?_take_of_lt (by omega), hn]
    have : (k + r) % n = k + r - n := by rw [Nat.mod_eq_sub_mod (by omega), Nat.mod_eq_of_lt (by omega)]
    rw [this]
    congr 1
    omega
def restOf (t : Int) (n : Nat) : Nat := ((t.tmod (n : Int) + (n : Int)).tmod (n : Int)).toNat
theorem rest_lt {t : Int} {n : Nat} (h0 : 0 < n) : restOf t n < n := by
  have := Int.tmod_lt_of_pos (t.tmod (n : Int) + (n : Int)) (show (0 : Int) < (n : Int) by omega)
  unfold restOf
  omega
set_option maxHeartbeats 1000000 in
theorem rest20 (t : Int) (n : Nat) (w : World) (h0 : 0 < n) (hn : n ≤ 3000) : Calls Tryz.prog 16 #[.int .i64 t, .int .i64 n] w fun e w' => e = .returned (.int .i64 (restOf t n)) ∧ w' = w := by
  have h1 : (t.tmod (n : Int)) < (n : Int) := Int.tmod_lt_of_pos _ (by omega)
  have h2 : -(n : Int) < (t.tmod (n : Int)) := Int.lt_tmod_of_pos _ (by omega)
  have hr : (t.tmod (n : Int) + (n : Int)).tmod (n : Int) = (restOf t n : Int) := (Int.toNat_of_nonneg (Int.tmod_nonneg _ (by omega))).symm
  obtain ⟨r, hrr⟩ : ∃ r, restOf t n = r := ⟨_, rfl⟩
  rw [hrr] at hr ⊢
  obtain ⟨m, hm⟩ : ∃ m, t.tmod (n : Int) = m := ⟨_, rfl⟩
  rw [hm] at h1 h2 hr
  have hz : ((n : Int) == 0) = false := beq_false_of_ne (by omega)
  clear hrr
  go_enter Tryz.func16, Tryz.ntmps16
  go_wp2
  go_ret
  exact ⟨rfl, rfl⟩
end Go.Proofs.YtdbnegllncjhkaaGreatDoor
