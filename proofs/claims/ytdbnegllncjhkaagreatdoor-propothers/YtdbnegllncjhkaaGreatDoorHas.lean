/- What the program's Has hands back. -/
import Derived.Test.YtdbnegllncjhkaaGreatDoorTab
namespace Go.Proofs.YtdbnegllncjhkaaGreatDoor
open Go.RowKit Go.Sort

def hasOf (ls : List Sp) (z : Int) (v : List UInt8) : Bool := decide (v ≠ []) && decide (valueOf ls z = v)
theorem bs_eq (l m : List UInt8) : ((bs l).toList == (bs m).toList) = decide (l = m) := by rw [bs_toList, bs_toList]; by_cases h : l = m <;> simp [h]
end Go.Proofs.YtdbnegllncjhkaaGreatDoor
