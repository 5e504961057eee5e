/- The laws of this layer walked: the example, HangulParts, HangulTogether, HangulBack. -/
import Derived.Test.YtohdenjfapdojaaHrt
import Derived.Test.YtohdenjfapdojaaInts
namespace Go.Proofs.Ytohdenjfapdojaa
open Go.RowKit

theorem below_trans {a b c : World} (h : Below a.heap.size a b) (h' : Below b.heap.size b c) : Below a.heap.size a c := h.trans (h'.mono h.size)
theorem same_of {W : World} {A B : Option Addr} {zs : List Int} (ca cb : Nat) (hA : Vals W A zs.length (nums .i64 zs)) (hB : Vals W B zs.length (nums .i64 zs)) (hn : zs.length ≤ 1000000) : Calls Try.prog 8 #[.slice A zs.length ca, .slice B zs.length cb] W fun e w' => e = .returned (.bool true) ∧ Below W.heap.size W w' :=
  (same8 A B zs.length ca cb zs W hA hB hn).mono (by rintro e w' ⟨rfl, q, rfl⟩; exact ⟨rfl, below_qq _ _⟩)
set_option maxRecDepth 100000 in
set_option maxHeartbeats 2000000 in
theorem awake6 (w : World) : Calls Try.prog 6 #[] w fun e w' => e = .returned (.bool true) ∧ Below w.heap.size w w' := by
  have c7 : Calls Try.prog 7 #[.int .i64 44033] w fun e w' => ∃ A cap, e = .returned (.slice A 3 cap) ∧ Hid (Below w.heap.size w w' ∧ Vals w' A 3 (nums .i64 [4352, 4449, 4520])) :=
    (apart7 0 0 1 w ⟨by omega, by omega, by omega, by omega, by omega, by omega⟩).mono (by rintro e w' ⟨A, cap, rfl, hb, hV⟩; exact ⟨A, cap, rfl, Lib.hid ⟨hb, hV.out⟩⟩)
  have c8 : ∀ (A : Option Addr) (cap : Nat) (w' : World), Hid (Below w.heap.size w w' ∧ Vals w' A 3 (nums .i64 [4352, 4449, 4520])) → Calls Try.prog 8 #[.slice A 3 cap, .slice (some ⟨w'.heap.size, 0, none⟩) 3 3] (w'.alloc (.cells #[.int .i64 4352, .int .i64 4449, .int .i64 4520] 3)) fun e w2 => e = .returned (.bool true) ∧ Below w.heap.size w w2 := by
    intro A cap w' h
    have hb : Below w'.heap.size w' (w'.alloc (.cells #[.int .i64 4352, .int .i64 4449, .int .i64 4520] 3)) := (Below.refl _ _).alloc (Nat.le_refl _) _
    exact (same_of (zs := [4352, 4449, 4520]) cap 3 (h.out.2.below hb) (three_vals w' _ _ _) (by decide)).mono (by rintro e w2 ⟨rfl, h2⟩; exact ⟨rfl, below_trans (below_trans h.out.1 hb) h2⟩)
  go_enter Try.func6, Try.ntmps6
  go_wp2_with (first
    | (go_at_call 7; (with_reducible refine c7.mono ?_); rintro e w1 ⟨A, cap, rfl, hV⟩)
    | (go_at_call 8; (with_reducible refine (c8 _ _ _ hV).mono ?_); rintro e w2 ⟨rfl, hb⟩))
  go_ret
  exact ⟨rfl, hb⟩
set_option maxRecDepth 100000 in
set_option maxHeartbeats 4000000 in
theorem walkTogether (a b : Int) (w : World) : Calls Try.prog 4 #[.int .i64 a, .int .i64 b] w fun e w' => e = .returned (.bool true) ∧ Below w.heap.size w w' := by
  have c6 := awake6 w
  have d6 : ∀ w1, Below w.heap.size w w1 → Calls Try.prog 6 #[] w1 fun e w' => e = .returned (.bool true) ∧ Below w.heap.size w w' := fun w1 h => (awake6 w1).mono (by rintro e w' ⟨rfl, h2⟩; exact ⟨rfl, below_trans h h2⟩)
  by_cases h1 : 1152921504606846976 < a
  · go_enter Try.func4, Try.ntmps4
    go_wp2_with (first
      | (go_at_call 6; (with_reducible refine c6.mono ?_); rintro e w1 ⟨rfl, hb⟩)
      | (go_at_call 6; (with_reducible refine (d6 _ hb).mono ?_); rintro e w2 ⟨rfl, hb2⟩))
    go_ret
    exact ⟨rfl, hb2⟩
  · by_cases h2 : a < -1152921504606846976
    · go_enter Try.func4, Try.ntmps4
      go_wp2_with (first
        | (go_at_call 6; (with_reducible refine c6.mono ?_); rintro e w1 ⟨rfl, hb⟩)
        | (go_at_call 6; (with_reducible refine (d6 _ hb).mono ?_); rintro e w2 ⟨rfl, hb2⟩))
      go_ret
      exact ⟨rfl, hb2⟩
    · obtain ⟨r, hr⟩ : ∃ r, tog a b = r := ⟨_, rfl⟩
      obtain ⟨x, y⟩ := r
      have c11 : ∀ w1, Below w.heap.size w w1 → Calls Try.prog 11 #[.int .i64 a, .int .i64 b] w1 fun e w' => e = .returned (.tuple #[.int .i64 x, .bool y]) ∧ Below w.heap.size w w' := fun w1 h => (together11 a b w1).mono (by rw [hr]; rintro e w' ⟨rfl, h2⟩; exact ⟨rfl, below_trans h h2⟩)
      have c12 : ∀ w1, Below w.heap.size w w1 → Calls Try.prog 12 #[.int .i64 a, .int .i64 b] w1 fun e w' => e = .returned (.tuple #[.int .i64 x, .bool y]) ∧ Below w.heap.size w w' := fun w1 h => (rtogether12 a b w1 (by omega)).mono (by rw [hr]; rintro e w' ⟨rfl, h2⟩; exact ⟨rfl, below_trans h h2⟩)
      clear hr d6
      go_enter Try.func4, Try.ntmps4
      go_wp2_with (first
        | (go_at_call 6; (with_reducible refine c6.mono ?_); rintro e w1 ⟨rfl, hb⟩)
        | (go_at_call 11; (with_reducible refine (c11 _ hb).mono ?_); rintro e w2 ⟨rfl, hb2⟩)
        | (go_at_call 12; (with_reducible refine (c12 _ hb2).mono ?_); rintro e w3 ⟨rfl, hb3⟩))
      go_ret
      exact ⟨by simp, hb3⟩
end Go.Proofs.Ytohdenjfapdojaa
