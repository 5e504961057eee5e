/- The laws ConfusParses and ConfusTells, walked. -/
import Derived.Test.YtkcpnnfbhcklpaaGreatDoorClaw
import Derived.Test.YtkcpnnfbhcklpaaGreatDoorLoop
namespace Go.Proofs.YtkcpnnfbhcklpaaGreatDoor.confusParses
open Go.RowKit Go.Shelf

set_option maxRecDepth 100000 in
set_option maxHeartbeats 1000000 in
theorem walk_long (a0 : Option Addr) (len0 cap0 most : Nat) (w : World) (hM : ML w) (h : 800 < len0) :
    Calls Tryz.prog 3 #[.slice a0 len0 cap0, .int .u8 (most : Int)] w fun e w' => e = .returned (.bool true) ∧ Below w.heap.size w w' := by
  have c7 := cawake6 w hM
  have C7 := Lib.hid (fun w1 (hb : Below w.heap.size w w1) => cawake6 w1 (hM.below hb))
  have hd : decide (800 < (len0 : Int)) = true := decide_eq_true (by omega)
  clear hM
  go_enter Tryz.func3, Tryz.ntmps3
  go_wp2_with (first
    | (go_at_call 6; (with_reducible refine c7.mono ?_); rintro e w1 ⟨rfl, hb1⟩; clear c7; have k7 := C7.out w1 hb1)
    | (go_at_call 6; (with_reducible refine k7.mono ?_); rintro e w2 ⟨rfl, hb2⟩))
  go_ret
  exact ⟨rfl, hb1.trans (hb2.mono hb1.size)⟩
set_option maxRecDepth 100000 in
set_option maxHeartbeats 4000000 in
theorem walk_ok (a0 : Option Addr) (len0 cap0 most : Nat) (l : List UInt8) (w : World) (hM : ML w) (hO : Octs w a0 len0 l) (h : len0 ≤ 800) (hm : most < 256) (he : (cfOf (linesIn l)).err = 0) :
    Calls Tryz.prog 3 #[.slice a0 len0 cap0, .int .u8 (most : Int)] w fun e w' => e = .returned (.bool true) ∧ Below w.heap.size w w' := by
  have hll := hO.len
  have hmany := cf_many l
  have hnum := cf_num (linesIn l) he
  have c7 := cawake6 w hM
  have C9 := Lib.hid (fun w1 (hb : Below w.heap.size w w1) => cp_ok a0 len0 cap0 l w1 (hO.below hb) (by omega) (hM.below hb) he)
  have c10 := fun w1 (_ : Below w.heap.size w w1) => rc_any l w1 (by omega)
  rw [he, hnum] at c10
  have C10 := Lib.hid c10
  have HCV := Lib.hid (fun w1 (hb : Below w.heap.size w w1) => conv22 cap0 (hO.below hb))
  obtain ⟨S, hS⟩ : ∃ S, bs l = S := ⟨_, rfl⟩
  obtain ⟨R, hR⟩ : ∃ R, (cfOf (linesIn l)).rows = R := ⟨_, rfl⟩
  rw [hR] at C9 C10 hmany
  rw [hS] at C10 HCV
  have hd : decide (800 < (len0 : Int)) = false := decide_eq_false (by omega)
  have hml : R.length ≤ 100000 := by omega
  obtain ⟨N, hN⟩ : ∃ N, R.length = N := ⟨_, rfl⟩
  rw [hN] at C10 hml
  have hwr : IntKind.i64.wrap (most : Int) = (most : Int) := by simp [IntKind.wrap, IntKind.bits, IntKind.signed]; omega
  clear hM hO c10 he hnum hll hS hR hmany hN
  go_enter Tryz.func3, Tryz.ntmps3
  go_wp2_with (first
    | (go_at_call 6; (with_reducible refine c7.mono ?_); rintro e w1 ⟨rfl, hb1⟩; clear c7; have hcv1 := HCV.out w1 hb1; have k9 := C9.out w1 hb1)
    | (go_at_call 7; (with_reducible refine k9.mono ?_); rintro e w2 ⟨b, rfl, HT⟩; clear hcv1; have z2 := hb1.trans (HT.out.1.mono hb1.size); have k10 := C10.out w2 z2)
    | (go_at_call 8; (with_reducible refine k10.mono ?_); rintro e w3 ⟨A', c', qs, rfl, HS⟩; have z3 := z2.trans (HS.out.1.mono z2.size); have k11 := is9 (some ⟨b, 0, none⟩) A' N c' qs _ (most : Int) w3 (HT.out.2.below HS.out.1) HS.out.2.1 HS.out.2.2 hml (by omega))
    | (go_at_call 9; (with_reducible refine k11.mono ?_); rintro e w4 ⟨rfl, hb4⟩; have z4 := z3.trans (hb4.mono z3.size); have hcv4 := HCV.out w4 z4))
  go_ret
  exact ⟨rfl, z4⟩
set_option maxRecDepth 100000 in
set_option maxHeartbeats 4000000 in
theorem walk_no (a0 : Option Addr) (len0 cap0 most : Nat) (l : List UInt8) (w : World) (hM : ML w) (hO : Octs w a0 len0 l) (h : len0 ≤ 800) (hm : most < 256) (he : ¬ (cfOf (linesIn l)).err = 0) :
    Calls Tryz.prog 3 #[.slice a0 len0 cap0, .int .u8 (most : Int)] w fun e w' => e = .returned (.bool true) ∧ Below w.heap.size w w' := by
  have hll := hO.len
  have hmany := cf_many l
  have c7 := cawake6 w hM
  have C9 := Lib.hid (fun w1 (hb : Below w.heap.size w w1) => cp_no a0 len0 cap0 l w1 (hO.below hb) (by omega) (hM.below hb) he)
  have C10 := Lib.hid (fun w1 (_ : Below w.heap.size w w1) => rc_any l w1 (by omega))
  have HCV := Lib.hid (fun w1 (hb : Below w.heap.size w w1) => conv22 cap0 (hO.below hb))
  obtain ⟨S, hS⟩ : ∃ S, bs l = S := ⟨_, rfl⟩
  obtain ⟨R, hR⟩ : ∃ R, (cfOf (linesIn l)).rows = R := ⟨_, rfl⟩
  obtain ⟨E, hE⟩ : ∃ E, (cfOf (linesIn l)).err = E := ⟨_, rfl⟩
  obtain ⟨M, hMm⟩ : ∃ M, (cfOf (linesIn l)).num = M := ⟨_, rfl⟩
  rw [hR] at C9 C10 hmany
  rw [hE, hMm] at C9 C10
  rw [hE] at he
  rw [hS] at C10 HCV
  have hd : decide (800 < (len0 : Int)) = false := decide_eq_false (by omega)
  have he2 : (E == 0) = false := beq_false_of_ne he
  have hml : R.length ≤ 100000 := by omega
  obtain ⟨N, hN⟩ : ∃ N, R.length = N := ⟨_, rfl⟩
  rw [hN] at C10 hml
  have hwr : IntKind.i64.wrap (most : Int) = (most : Int) := by simp [IntKind.wrap, IntKind.bits, IntKind.signed]; omega
  clear hM hO he hll hS hR hE hMm hmany hN
  go_enter Tryz.func3, Tryz.ntmps3
  go_wp2_with (first
    | (go_at_call 6; (with_reducible refine c7.mono ?_); rintro e w1 ⟨rfl, hb1⟩; clear c7; have hcv1 := HCV.out w1 hb1; have k9 := C9.out w1 hb1)
    | (go_at_call 7; (with_reducible refine k9.mono ?_); rintro e w2 ⟨rfl, HT⟩; clear hcv1; have z2 := hb1.trans (HT.out.1.mono hb1.size); have k10 := C10.out w2 z2)
    | (go_at_call 8; (with_reducible refine k10.mono ?_); rintro e w3 ⟨A', c', qs, rfl, HS⟩; have z3 := z2.trans (HS.out.1.mono z2.size); have k11 := is9 none A' N c' qs _ (most : Int) w3 (HT.out.2.below HS.out.1) HS.out.2.1 HS.out.2.2 hml (by omega))
    | (go_at_call 9; (with_reducible refine k11.mono ?_); rintro e w4 ⟨rfl, hb4⟩; have z4 := z3.trans (hb4.mono z3.size); have hcv4 := HCV.out w4 z4))
  go_ret
  exact ⟨rfl, z4⟩
end Go.Proofs.YtkcpnnfbhcklpaaGreatDoor.confusParses
