/- Shifts and bits of small numbers; no program is spoken of. -/
import Derived.WalkKit
import Derived.Laws.Entries
namespace Go.Proofs.YtkcpnnfbhcklpaaGreatDoor
open Go.RowKit

theorem ofInt64 (x : Nat) (h : x < 9223372036854775808) : (BitVec.ofInt 64 (x : Int)).toNat = x := by
  rw [BitVec.toNat_ofInt]
  omega
theorem wrap64 (n : Int) (h0 : 0 ≤ n) (h1 : n < 9223372036854775808) : IntKind.i64.wrap n = n := by
  simp [IntKind.wrap, IntKind.bits, IntKind.signed]
  split <;> omega
theorem or16 (a v : Nat) (ha : a < 16777216) (hv : v < 16) : bits .or .i64 ((a : Int) * 16) (v : Int) = ((a * 16 + v : Nat) : Int) := by
  show IntKind.i64.wrap ((BitVec.ofInt 64 ((a : Int) * 16) ||| BitVec.ofInt 64 (v : Int)).toNat : Int) = _
  rw [show ((a : Int) * 16) = ((a * 16 : Nat) : Int) by push_cast; rfl, BitVec.toNat_or, ofInt64 _ (by omega), ofInt64 v (by omega)]
  have e := Nat.shiftLeft_add_eq_or_of_lt (i := 4) (b := v) (by omega) a
  rw [Nat.shiftLeft_eq] at e
  have e : a * 16 + v = a * 16 ||| v := e
  rw [← e]
  exact wrap64 _ (by omega) (by omega)
theorem and15 (x : Nat) (hx : x < 4294967296) : bits .and .i64 (x : Int) 15 = ((x % 16 : Nat) : Int) := by
  show IntKind.i64.wrap ((BitVec.ofInt 64 (x : Int) &&& BitVec.ofInt 64 15).toNat : Int) = _
  have h1 : (BitVec.ofInt 64 15).toNat = 2 ^ 4 - 1 := by decide
  rw [BitVec.toNat_and, ofInt64 x (by omega), h1, Nat.and_two_pow_sub_one_eq_mod]
  exact wrap64 _ (by omega) (by omega)
end Go.Proofs.YtkcpnnfbhcklpaaGreatDoor
