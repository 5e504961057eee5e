/- HangulParts and HangulBack walked. -/
import Derived.Test.YtohdenjfapdojaaHlaw
namespace Go.Proofs.Ytohdenjfapdojaa
open Go.RowKit

/-- What HangulParts asks of Apart, on both sides. -/
theorem walkParts_at (c : Int) (zs : List Int) (w : World) (hb : -1152921504606846976 ≤ c ∧ c ≤ 1152921504606846976) (hn : zs.length ≤ 3)
    (c7 : ∀ w1, Calls Try.prog 7 #[.int .i64 c] w1 (ApPost w1 zs)) (c9 : ∀ w1, Calls Try.prog 9 #[.int .i64 c] w1 (ApPost w1 zs))
    (hi : (44032 ≤ c ∧ c < 55204) ↔ 0 < zs.length) : Calls Try.prog 3 #[.int .i64 c] w fun e w' => e = .returned (.bool true) ∧ Below w.heap.size w w' := by
  obtain ⟨b0, b1⟩ := hb
  have c6 := awake6 w
  obtain ⟨n, hnl⟩ : ∃ n, zs.length = n := ⟨_, rfl⟩
  have d7 : ∀ w1, Below w.heap.size w w1 → Calls Try.prog 7 #[.int .i64 c] w1 fun e w' => ∃ A cap, e = .returned (.slice A n cap) ∧ Hid (Below w.heap.size w w' ∧ Vals w' A n (nums .i64 zs)) := fun w1 h => (c7 w1).mono (by
    rintro e w' ⟨A, cap, rfl, hb, hV⟩
    rw [hnl] at hV ⊢
    exact ⟨A, cap, rfl, Lib.hid ⟨below_trans h hb, hV.out⟩⟩)
  have d9 : ∀ w1 A, Hid (Below w.heap.size w w1 ∧ Vals w1 A n (nums .i64 zs)) → Calls Try.prog 9 #[.int .i64 c] w1 fun e w' => ∃ B cap, e = .returned (.slice B n cap) ∧ Hid (Below w.heap.size w w' ∧ Vals w' A n (nums .i64 zs) ∧ Vals w' B n (nums .i64 zs)) := fun w1 A h => (c9 w1).mono (by
    rintro e w' ⟨B, cap, rfl, hb, hV⟩
    rw [hnl] at hV ⊢
    exact ⟨B, cap, rfl, Lib.hid ⟨below_trans h.out.1 hb, h.out.2.below hb, hV.out⟩⟩)
  have d8 : ∀ (w1 : World) (A B : Option Addr) (ca cb : Nat), Hid (Below w.heap.size w w1 ∧ Vals w1 A n (nums .i64 zs) ∧ Vals w1 B n (nums .i64 zs)) → Calls Try.prog 8 #[.slice A n ca, .slice B n cb] w1 fun e w' => e = .returned (.bool true) ∧ Below w.heap.size w w' := fun w1 A B ca cb h => by
    have := h.out
    rw [← hnl] at this ⊢
    exact (same_of ca cb this.2.1 this.2.2 (by omega)).mono (by rintro e w' ⟨rfl, h2⟩; exact ⟨rfl, below_trans this.1 h2⟩)
  rw [hnl] at hi hn
  have d10 : ∀ w1, Calls Try.prog 10 #[.int .i64 c] w1 fun e w' => e = .returned (.bool (decide (0 < n))) ∧ w' = w1 := fun w1 => (is10 c w1).mono (by
    rintro e w' ⟨rfl, rfl⟩
    exact ⟨congrArg (fun b => Ending.returned (Value.bool b)) (decide_eq_decide.2 hi), rfl⟩)
  clear c7 c9 hnl hi
  by_cases h0 : 0 < n
  · rw [decide_eq_true h0] at d10
    go_enter Try.func3, Try.ntmps3
    go_wp2_with (first
      | (go_at_call 6; (with_reducible refine c6.mono ?_); rintro e w1 ⟨rfl, hb⟩)
      | (go_at_call 7; (with_reducible refine (d7 _ hb).mono ?_); rintro e w2 ⟨A, ca, rfl, h2⟩)
      | (go_at_call 9; (with_reducible refine (d9 _ _ h2).mono ?_); rintro e w3 ⟨B, cb, rfl, h3⟩)
      | (go_at_call 8; (with_reducible refine (d8 _ _ _ _ _ h3).mono ?_); rintro e w4 ⟨rfl, h4⟩)
      | (go_at_call 10; (with_reducible refine (d10 _).mono ?_); rintro e w5 ⟨rfl, rfl⟩))
    go_ret
    exact ⟨rfl, h4⟩
  · rw [decide_eq_false h0] at d10
    obtain rfl : n = 0 := by omega
    go_enter Try.func3, Try.ntmps3
    go_wp2_with (first
      | (go_at_call 6; (with_reducible refine c6.mono ?_); rintro e w1 ⟨rfl, hb⟩)
      | (go_at_call 7; (with_reducible refine (d7 _ hb).mono ?_); rintro e w2 ⟨A, ca, rfl, h2⟩)
      | (go_at_call 9; (with_reducible refine (d9 _ _ h2).mono ?_); rintro e w3 ⟨B, cb, rfl, h3⟩)
      | (go_at_call 8; (with_reducible refine (d8 _ _ _ _ _ h3).mono ?_); rintro e w4 ⟨rfl, h4⟩)
      | (go_at_call 10; (with_reducible refine (d10 _).mono ?_); rintro e w5 ⟨rfl, rfl⟩))
    go_ret
    exact ⟨rfl, h4⟩
theorem walkParts (c : Int) (w : World) : Calls Try.prog 3 #[.int .i64 c] w fun e w' => e = .returned (.bool true) ∧ Below w.heap.size w w' := by
  have c6 := awake6 w
  have d6 : ∀ w1, Below w.heap.size w w1 → Calls Try.prog 6 #[] w1 fun e w' => e = .returned (.bool true) ∧ Below w.heap.size w w' := fun w1 h => (awake6 w1).mono (by rintro e w' ⟨rfl, h2⟩; exact ⟨rfl, below_trans h h2⟩)
  by_cases h1 : 1152921504606846976 < c
  · go_enter Try.func3, Try.ntmps3
    go_wp2_with (first
      | (go_at_call 6; (with_reducible refine c6.mono ?_); rintro e w1 ⟨rfl, hb⟩)
      | (go_at_call 6; (with_reducible refine (d6 _ hb).mono ?_); rintro e w2 ⟨rfl, hb2⟩))
    go_ret
    exact ⟨rfl, hb2⟩
  · by_cases h2 : c < -1152921504606846976
    · go_enter Try.func3, Try.ntmps3
      go_wp2_with (first
        | (go_at_call 6; (with_reducible refine c6.mono ?_); rintro e w1 ⟨rfl, hb⟩)
        | (go_at_call 6; (with_reducible refine (d6 _ hb).mono ?_); rintro e w2 ⟨rfl, hb2⟩))
      go_ret
      exact ⟨rfl, hb2⟩
    · by_cases h3 : 44032 ≤ c ∧ c < 55204
      · obtain ⟨l, v, t, hp, rfl⟩ := hang c h3.1 h3.2
        refine walkParts_at _ (partsOf l v t) w (by omega) ?_ (fun w1 => apart7 l v t w1 hp) (fun w1 => rapart9 l v t w1 hp) ⟨fun _ => ?_, fun _ => h3⟩
        all_goals unfold partsOf; split <;> simp
      · refine walkParts_at c [] w (by omega) (by simp) (fun w1 => apart7_no c w1 h3) (fun w1 => ?_) ⟨fun h => absurd h h3, fun h => absurd h (by simp)⟩
        by_cases hl : c < 44032
        · exact (rapart9_low c w1 (by omega) hl).mono (fun e w' h => ⟨none, 0, h.1, h.2, Lib.hid (Vals.nil _ _)⟩)
        · exact (rapart9_high c w1 (by omega) (by omega)).mono (fun e w' h => ⟨none, 0, h.1, h.2, Lib.hid (Vals.nil _ _)⟩)
end Go.Proofs.Ytohdenjfapdojaa
