/- The laws of confusables, for whatever comes in. -/
import Derived.Test.YtkcpnnfbhcklpaaGreatDoorLcon
import Derived.Test.YtkcpnnfbhcklpaaGreatDoorLctl
import Derived.Test.YtkcpnnfbhcklpaaGreatDoorLctu
import Derived.Test.YtkcpnnfbhcklpaaGreatDoorCnfs
import Derived.Test.YtkcpnnfbhcklpaaGreatDoorLaid
namespace Go.Proofs.YtkcpnnfbhcklpaaGreatDoor
open Go.RowKit

namespace confusParses
theorem walk (a0 : Option Addr) (len0 cap0 : Nat) (z0 : List Int) (a1 : Int) (w : World) (hM : ML w) (w0 : IsRow .u8 w a0 len0 cap0 z0) (w1 : (Lit.int .u8 a1).wf = true) :
    Calls Tryz.prog 3 #[.slice a0 len0 cap0, .int .u8 a1] w fun e w' => e = .returned (.bool true) ∧ Below w.heap.size w w' := by
  obtain ⟨l, hO, -, -⟩ := w0.octs
  have hb := wf_u8 w1
  obtain ⟨m, rfl⟩ : ∃ m : Nat, a1 = (m : Int) := ⟨a1.toNat, by omega⟩
  by_cases h : 800 < len0
  · exact walk_long a0 len0 cap0 m w hM h
  · by_cases he : (cfOf (linesIn l)).err = 0
    · exact walk_ok a0 len0 cap0 m l w hM hO (by omega) (by omega) he
    · exact walk_no a0 len0 cap0 m l w hM hO (by omega) (by omega) he
end confusParses
namespace confusTells
theorem walk (a0 : Option Addr) (len0 cap0 : Nat) (z0 : List Int) (a1 : Int) (w : World) (hM : ML w) (w0 : IsRow .u8 w a0 len0 cap0 z0) (w1 : (Lit.int .i64 a1).wf = true) :
    Calls Tryz.prog 4 #[.slice a0 len0 cap0, .int .i64 a1] w fun e w' => e = .returned (.bool true) ∧ Below w.heap.size w w' := by
  obtain ⟨l, hO, -, -⟩ := w0.octs
  by_cases h : 800 < len0
  · exact walk_long a0 len0 cap0 a1 w hM h
  · by_cases hf : findC (cfOf (linesIn l)).rows a1 < 0
    · exact walk_none a0 len0 cap0 a1 l w hM w1 hO (by omega) hf
    · exact walk_some a0 len0 cap0 a1 l w hM w1 hO (by omega) hf (fun r hr => Nat.le_trans (cf_most _ r hr) (by omega))
end confusTells
namespace confusTurned
theorem walk (a0 : Option Addr) (len0 cap0 : Nat) (z0 : List Int) (a1 : Int) (w : World) (hM : ML w) (w0 : IsRow .u8 w a0 len0 cap0 z0) (_ : (Lit.int .i64 a1).wf = true) :
    Calls Tryz.prog 5 #[.slice a0 len0 cap0, .int .i64 a1] w fun e w' => e = .returned (.bool true) ∧ Below w.heap.size w w' := by
  obtain ⟨l, hO, -, -⟩ := w0.octs
  by_cases h : 800 < len0
  · exact walk_long a0 len0 cap0 a1 w hM h
  · by_cases he : (cfOf (linesIn l)).err = 0
    · exact walk_ok a0 len0 cap0 l a1 w hM hO (by omega) he
    · exact walk_no a0 len0 cap0 l a1 w hM hO (by omega) he
end confusTurned
end Go.Proofs.YtkcpnnfbhcklpaaGreatDoor
