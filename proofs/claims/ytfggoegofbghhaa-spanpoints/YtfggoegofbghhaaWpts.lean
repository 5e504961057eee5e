/- The statement SpanPoints at any input. -/
import Derived.Test.YtfggoegofbghhaaSpts
import Derived.ProofKit
import Derived.OpenShut
namespace Go.Proofs.Ytfggoegofbghhaa
open Go.RowKit Go.Shelf

set_option maxRecDepth 100000 in
set_option maxHeartbeats 4000000 in
theorem points_rest (A : Option Addr) (n c : Nat) (ls : List Sp) (v : List UInt8) (most : Nat) (w : World) (hS : SAt w A n ls) (hA : Flat A) (hA0 : A = none → c = 0) (hc : n ≤ c) (hm : most ≤ 255) :
    Calls Try.prog 5 #[.slice A n c, .string (bs v), .int .u8 most] w fun e w' => e = .returned (.bool true) ∧ Below w.heap.size w w' := by
  have c7 := fun W => awake7 W
  have c8 := fun W (hb : Below w.heap.size w W) => small8 A n c ls W (hS.below hb)
  have C8 := Lib.hid c8
  have HBW := Lib.hid (show Below w.heap.size w (w.alloc (.cells #[.int .u8 most] 5)) from (Below.refl _ _).alloc (Nat.le_refl _) _)
  clear c8
  by_cases hsm : isSmall ls = true
  · have hn := small_len hS hsm
    by_cases hv : v.length ≤ 30
    · cases hr : addAll [] ls with
      | ok r => exact points_ok A n c ls r v most w hS hA hA0 hc hsm hn hv hm hr
      | error x =>
        have c9 := fun W (hb : Below w.heap.size w W) => new_none A n c ls x W (hS.below hb) hA hA0 hc (by omega) hr
        have HX := Lib.hid (err_ne hr)
        have hsz : (bs v).size ≤ 30 := by rw [bs_size]; exact hv
        obtain ⟨V, hV⟩ : ∃ V, bs v = V := ⟨_, rfl⟩
        rw [hV] at hsz ⊢
        have C9 := Lib.hid c9
        have HSM := Lib.hid hsm
        clear c9 hS hA hA0 hr hV hsm hv
        go_enter Try.func5, Try.ntmps5
        go_wp2_with (first
          | (go_at_call 7; (with_reducible refine (c7 _).mono ?_); rintro e w1 ⟨rfl, hb1⟩; have z1 := bmore HBW.out hb1 HBW.out.size; have k8 := C8.out w1 z1; rw [HSM.out] at k8)
          | (go_at_call 8; (with_reducible refine k8.mono ?_); rintro e w2 ⟨rfl, rfl⟩; have k9 := C9.out _ z1)
          | (go_at_call 9; (with_reducible refine k9.mono ?_); rintro e w3 ⟨rfl, hb3⟩; have hb0 : (x == 0) = false := beq_false_of_ne HX.out))
        go_ret
        exact ⟨congrArg (fun f => Ending.returned (.bool f)) (show (x != 0) = true by simp [bne, hb0]), bmore z1 hb3 z1.size⟩
    · have hsz : ¬ (bs v).size ≤ 30 := by rw [bs_size]; exact hv
      obtain ⟨V, hV⟩ : ∃ V, bs v = V := ⟨_, rfl⟩
      rw [hV] at hsz ⊢
      have HSM := Lib.hid hsm
      clear hS hA hA0 hV hsm hv
      go_enter Try.func5, Try.ntmps5
      go_wp2_with (fail)
      refine (c7 _).mono ?_
      rintro e w1 ⟨rfl, hb1⟩
      have z1 := bmore HBW.out hb1 HBW.out.size
      have k8 := C8.out w1 z1
      rw [HSM.out] at k8
      go_wp2_with (go_at_call 8; (with_reducible refine k8.mono ?_); rintro e w2 ⟨rfl, rfl⟩)
      refine (c7 _).mono ?_
      rintro e w3 ⟨rfl, hb3⟩
      go_wp2
      go_ret
      exact ⟨rfl, bmore z1 hb3 z1.size⟩
  · have hsf : isSmall ls = false := by simpa using hsm
    have HSM := Lib.hid hsf
    obtain ⟨V, hV⟩ : ∃ V, bs v = V := ⟨_, rfl⟩
    rw [hV]
    clear hsm hsf hS hV
    go_enter Try.func5, Try.ntmps5
    go_wp2_with (fail)
    refine (c7 _).mono ?_
    rintro e w1 ⟨rfl, hb1⟩
    have z1 := bmore HBW.out hb1 HBW.out.size
    have k8 := C8.out w1 z1
    rw [HSM.out] at k8
    go_wp2_with (go_at_call 8; (with_reducible refine k8.mono ?_); rintro e w2 ⟨rfl, rfl⟩)
    refine (c7 _).mono ?_
    rintro e w3 ⟨rfl, hb3⟩
    go_wp2
    go_ret
    exact ⟨rfl, bmore z1 hb3 z1.size⟩
theorem walkPoints (A : Option Addr) (n c : Nat) (ls : List Sp) (v : List UInt8) (x : Int) (w : World) (hS : SAt w A n ls) (hA : Flat A) (hA0 : A = none → c = 0) (hc : n ≤ c) (hx : (Lit.int .u8 x).wf = true) :
    Calls Try.prog 5 #[.slice A n c, .string (bs v), .int .u8 x] w fun e w' => e = .returned (.bool true) ∧ Below w.heap.size w w' := by
  have hb := bounds_u8 hx
  obtain ⟨m, rfl⟩ : ∃ m : Nat, x = m := ⟨x.toNat, by omega⟩
  exact points_rest A n c ls v m w hS hA hA0 hc (by omega)
end Go.Proofs.Ytfggoegofbghhaa
