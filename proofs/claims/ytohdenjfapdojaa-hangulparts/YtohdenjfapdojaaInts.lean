/- Two lists of numbers that are the same are told so by the document's own Same. -/
import Derived.Test.YtohdenjfapdojaaVals
import Derived.Test.YtohdenjfapdojaaProg
import Derived.BigQuiet
namespace Go.Proofs.Ytohdenjfapdojaa
open Go.RowKit

def CmpRel (n : Nat) (w : World) (i : Value) (wr : World) : Prop := ∃ k q : Nat, i = .int .i64 k ∧ k ≤ n ∧ wr = w.drewN q
set_option maxRecDepth 100000 in
set_option maxHeartbeats 1000000 in
theorem compare13 (A B : Option Addr) (n ca cb : Nat) (zs : List Int) (w : World) (hA : Vals w A n (nums .i64 zs)) (hB : Vals w B n (nums .i64 zs)) (hn : n ≤ 1000000) :
    Calls Try.prog 13 #[.slice A n ca, .slice B n cb] w fun e w' => e = .returned (.int .i64 0) ∧ ∃ q, w' = w.drewN q := by
  have hl : zs.length = n := by have := hA.1; unfold nums at this; rwa [List.length_map] at this
  have HA := Lib.hid hA
  have HB := Lib.hid hB
  have HZ := Lib.hid hl
  clear hA hB hl
  go_enter Try.func13, Try.ntmps13
  go_wp2
  go_loopw [5] (fun i wr => CmpRel n w i wr) (fun i _ => n - (intOf i).toNat)
  case atStart => exact ⟨0, 0, rfl, Nat.zero_le _, rfl⟩
  case round =>
    obtain ⟨k, q, rfl, hkn, rfl⟩ := hrel
    by_cases hlt : k < n
    · obtain ⟨b, off, rfl, -, hc⟩ := HA.out.2 (by omega)
      obtain ⟨b2, off2, rfl, -, hc2⟩ := HB.out.2 (by omega)
      have h1 : w.cell? ⟨b, off + k, none⟩ = some (.int .i64 (zs.getD k 0)) := hc k _ (nums_get (by rw [HZ.out]; exact hlt))
      have h2 : w.cell? ⟨b2, off2 + k, none⟩ = some (.int .i64 (zs.getD k 0)) := hc2 k _ (nums_get (by rw [HZ.out]; exact hlt))
      obtain ⟨x, hx⟩ : ∃ x, zs.getD k 0 = x := ⟨_, rfl⟩
      rw [hx] at h1 h2
      clear hc hc2 hx
      go_wp2
      go_quiet (fail)
      go_wp2
      go_quiet (fail)
      go_wp2
      go_roundw
      case rel => exact ⟨k + 1, _, by go_num, by omega, rfl⟩
      case measure => simp [intOf]; omega
    · have hke : k = n := by omega
      subst hke
      go_wp2
      go_ret
      exact ⟨rfl, q, rfl⟩
set_option maxHeartbeats 1000000 in
theorem same8 (A B : Option Addr) (n ca cb : Nat) (zs : List Int) (w : World) (hA : Vals w A n (nums .i64 zs)) (hB : Vals w B n (nums .i64 zs)) (hn : n ≤ 1000000) :
    Calls Try.prog 8 #[.slice A n ca, .slice B n cb] w fun e w' => e = .returned (.bool true) ∧ ∃ q, w' = w.drewN q := by
  have c := compare13 A B n ca cb zs w hA hB hn
  clear hA hB
  go_enter Try.func8, Try.ntmps8
  go_wp2_with (go_at_call 13; (with_reducible refine c.mono ?_); rintro e w' ⟨rfl, q, rfl⟩)
  go_ret
  exact ⟨rfl, q, rfl⟩
end Go.Proofs.Ytohdenjfapdojaa
