/- The document's own Together. -/
import Derived.Test.YtohdenjfapdojaaHto
namespace Go.Proofs.Ytohdenjfapdojaa
open Go.RowKit

set_option maxRecDepth 100000 in
set_option maxHeartbeats 4000000 in
theorem rtogether_lead (a b : Int) (w : World) (h : Lead a) (h' : Vow b) : Calls Try.prog 12 #[.int .i64 a, .int .i64 b] w (TogPost w (44032 + (21 * (a - 4352) + (b - 4449)) * 28, true)) := by
  obtain ⟨a0, a1⟩ := h
  obtain ⟨b0, b1⟩ := h'
  have c14 := syllable14 (a - 4352).toNat (b - 4449).toNat w (by omega) (by omega)
  rw [show (((a - 4352).toNat : Nat) : Int) = a - 4352 by omega, show (((b - 4449).toNat : Nat) : Int) = b - 4449 by omega] at c14
  go_enter Try.func12, Try.ntmps12
  go_wp2_with (go_at_call 14; (with_reducible refine c14.mono ?_); rintro e w' ⟨rfl, rfl⟩)
  refine bodyPost_ret (v := .tuple #[.int .i64 (44032 + (21 * (a - 4352) + (b - 4449)) * 28), .bool true]) (by simp [results, Try.results12, go_sem]) rfl ?_
  exact ⟨rfl, Below.refl _ _⟩
/-- Where a is no leading one, or b no vowel, and Apart of a has not two parts. -/
theorem rtogether_few (a b : Int) (n : Nat) (w : World) (h : ¬ (Lead a ∧ Vow b)) (hn : n ≠ 2) (c9 : Calls Try.prog 9 #[.int .i64 a] w fun e w' => ∃ A cap, e = .returned (.slice A n cap) ∧ Below w.heap.size w w') : Calls Try.prog 12 #[.int .i64 a, .int .i64 b] w (TogPost w (0, false)) := by
  have hnb : ((n : Int) == 2) = false := beq_false_of_ne (by omega)
  have c : (a < 4352) ∨ (4370 < a) ∨ (4352 ≤ a ∧ a ≤ 4370 ∧ b < 4449) ∨ (4352 ≤ a ∧ a ≤ 4370 ∧ 4469 < b) := by
    unfold Lead Vow at h
    omega
  clear h
  rcases c with h | h | ⟨h1, h2, h3⟩ | ⟨h1, h2, h3⟩
  all_goals
    go_enter Try.func12, Try.ntmps12
    go_wp2_with (go_at_call 9; (with_reducible refine c9.mono ?_); rintro e w' ⟨A, cap, rfl, hb⟩)
    refine bodyPost_ret (v := .tuple #[.int .i64 0, .bool false]) (by simp [results, Try.results12, go_sem]) rfl ?_
    exact ⟨rfl, hb⟩
theorem rtogether_two (a b : Int) (w : World) (h : 44032 ≤ a ∧ a < 55204) (c9 : Calls Try.prog 9 #[.int .i64 a] w fun e w' => ∃ A cap, e = .returned (.slice A 2 cap) ∧ Below w.heap.size w w') (r : Int × Bool) (hr : (Trail b → r = (a + (b - 4519), true)) ∧ (¬ Trail b → r = (0, false))) : Calls Try.prog 12 #[.int .i64 a, .int .i64 b] w (TogPost w r) := by
  obtain ⟨a0, a1⟩ := h
  by_cases ht : Trail b
  · rw [hr.1 ht]
    obtain ⟨b0, b1⟩ := ht
    clear hr
    go_enter Try.func12, Try.ntmps12
    go_wp2_with (go_at_call 9; (with_reducible refine c9.mono ?_); rintro e w' ⟨A, cap, rfl, hb⟩)
    refine bodyPost_ret (v := .tuple #[.int .i64 (a + b - 4519), .bool true]) (by simp [results, Try.results12, go_sem]) rfl ?_
    exact ⟨by rw [show a + (b - 4519) = a + b - 4519 by omega], hb⟩
  · rw [hr.2 ht]
    have c : b < 4520 ∨ 4546 < b := by unfold Trail at ht; omega
    clear hr ht
    rcases c with h | h
    all_goals
      go_enter Try.func12, Try.ntmps12
      go_wp2_with (go_at_call 9; (with_reducible refine c9.mono ?_); rintro e w' ⟨A, cap, rfl, hb⟩)
      refine bodyPost_ret (v := .tuple #[.int .i64 0, .bool false]) (by simp [results, Try.results12, go_sem]) rfl ?_
      exact ⟨rfl, hb⟩
theorem rtogether12 (a b : Int) (w : World) (hb : -1152921504606900000 ≤ a ∧ a ≤ 1152921504606900000) : Calls Try.prog 12 #[.int .i64 a, .int .i64 b] w (TogPost w (tog a b)) := by
  by_cases h1 : Lead a ∧ Vow b
  · rw [tog_lead h1.1 h1.2]
    exact rtogether_lead a b w h1.1 h1.2
  · by_cases h3 : 44032 ≤ a ∧ a < 55204
    · obtain ⟨l, v, t, hp, rfl⟩ := hang a h3.1 h3.2
      by_cases h0 : t = 0
      · subst h0
        refine rtogether_two _ b w h3 ?_ _ ⟨fun ht => tog_open ((opn_syl hp).2 rfl) ht, fun ht => tog_no h1 (fun h => ht h.2)⟩
        refine (rapart9 l v 0 w hp).mono ?_
        rintro e w' ⟨A, cap, rfl, hb, -⟩
        exact ⟨A, cap, rfl, hb⟩
      · rw [tog_no h1 (fun h => h0 ((opn_syl hp).1 h.1))]
        refine rtogether_few _ b 3 w h1 (by omega) ?_
        refine (rapart9 l v t w hp).mono ?_
        rintro e w' ⟨A, cap, rfl, hb, -⟩
        exact ⟨A, cap, by unfold partsOf; rw [if_neg h0]; rfl, hb⟩
    · rw [tog_no h1 (fun h => opn_not h3 h.1)]
      refine rtogether_few _ b 0 w h1 (by omega) ?_
      by_cases hl : a < 44032
      · exact (rapart9_low a w hb.1 hl).mono (fun e w' h => ⟨none, 0, h.1, h.2⟩)
      · exact (rapart9_high a w hb.2 (by omega)).mono (fun e w' h => ⟨none, 0, h.1, h.2⟩)
end Go.Proofs.Ytohdenjfapdojaa
