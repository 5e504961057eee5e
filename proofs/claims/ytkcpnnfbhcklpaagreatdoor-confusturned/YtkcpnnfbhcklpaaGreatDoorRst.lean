/- What the document's Rest hands back. -/
import Derived.Test.YtkcpnnfbhcklpaaGreatDoorProg
import Derived.BigQuiet
namespace Go.Proofs.YtkcpnnfbhcklpaaGreatDoor
open Go.RowKit

def restOf (t : Int) (n : Nat) : Nat := ((t.tmod (n : Int) + (n : Int)).tmod (n : Int)).toNat
theorem rest_lt {t : Int} {n : Nat} (h0 : 0 < n) : restOf t n < n := by
  have := Int.tmod_lt_of_pos (t.tmod (n : Int) + (n : Int)) (show (0 : Int) < (n : Int) by omega)
  unfold restOf
  omega
set_option maxHeartbeats 1000000 in
theorem rest20 (t : Int) (n : Nat) (w : World) (h0 : 0 < n) (hn : n ≤ 3000) : Calls Tryz.prog 15 #[.int .i64 t, .int .i64 n] w fun e w' => e = .returned (.int .i64 (restOf t n)) ∧ w' = w := by
  have h1 : (t.tmod (n : Int)) < (n : Int) := Int.tmod_lt_of_pos _ (by omega)
  have h2 : -(n : Int) < (t.tmod (n : Int)) := Int.lt_tmod_of_pos _ (by omega)
  have hr : (t.tmod (n : Int) + (n : Int)).tmod (n : Int) = (restOf t n : Int) := (Int.toNat_of_nonneg (Int.tmod_nonneg _ (by omega))).symm
  obtain ⟨r, hrr⟩ : ∃ r, restOf t n = r := ⟨_, rfl⟩
  rw [hrr] at hr ⊢
  obtain ⟨m, hm⟩ : ∃ m, t.tmod (n : Int) = m := ⟨_, rfl⟩
  rw [hm] at h1 h2 hr
  have hz : ((n : Int) == 0) = false := beq_false_of_ne (by omega)
  clear hrr
  go_enter Tryz.func15, Tryz.ntmps15
  go_wp2
  go_ret
  exact ⟨rfl, rfl⟩
end Go.Proofs.YtkcpnnfbhcklpaaGreatDoor
