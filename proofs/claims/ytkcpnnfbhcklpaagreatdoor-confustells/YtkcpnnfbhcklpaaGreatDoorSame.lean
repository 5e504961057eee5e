/- Whether two lists of texts are the same, as the document's own Same tells. -/
import Derived.Test.YtkcpnnfbhcklpaaGreatDoorVals
import Derived.Test.YtkcpnnfbhcklpaaGreatDoorProg
import Derived.Lib.Strings
import Derived.BigQuiet
namespace Go.Proofs.YtkcpnnfbhcklpaaGreatDoor
open Go.RowKit

theorem bs_toList' (l : List UInt8) : (bs l).toList = l := by rw [Lib.toList_data, bs_data]

def SameRel (fs gs : List (List UInt8)) (n : Nat) (w : World) (i : Value) (wr : World) : Prop := ∃ k q : Nat, i = .int .i64 k ∧ k ≤ n ∧ wr = w.drewN q ∧ fs.take k = gs.take k
theorem take_same {α : Type} {fs gs : List α} {k : Nat} {d : α} (h1 : k < fs.length) (h2 : k < gs.length) (h : fs.take k = gs.take k) (he : fs.getD k d = gs.getD k d) : fs.take (k + 1) = gs.take (k + 1) := by
  rw [List.take_succ_eq_append_getElem h1, List.take_succ_eq_append_getElem h2, h]
  simp [List.getD_eq_getElem?_getD, List.getElem?_eq_getElem h1, List.getElem?_eq_getElem h2] at he
  rw [he]
theorem drewN_drewN (w : World) (a b : Nat) : (w.drewN a).drewN b = w.drewN (a + b) := by
  unfold World.drewN
  simp [Nat.add_assoc]

end Go.Proofs.YtkcpnnfbhcklpaaGreatDoor
