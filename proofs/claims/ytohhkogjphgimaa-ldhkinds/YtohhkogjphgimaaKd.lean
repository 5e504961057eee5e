/- The program's isACE and Kind. -/
import Derived.Test.YtohhkogjphgimaaLw
import Derived.Lib.Strings
namespace Go.Proofs.Ytohhkogjphgimaa
open Go.RowKit

theorem bs_toList' (l : List UInt8) : (bs l).toList = l := by rw [Lib.toList_data, bs_data]
/-- an A-label in form, as its text is asked -/
def acP (l : List UInt8) : Bool := decide (4 < l.length) && ((l.take 4).map lowO == [120, 110, 45, 45])
theorem hyp_at (l : List UInt8) (j : Nat) (h : j < l.length) : hyA (ints l) (j : Int) = decide (l.getD j 0 = 45) := by
  rw [hyA_in (by rw [ints_length]; exact h)]
  exact decide_eq_decide.2 (by rw [show (ints l).getD j 0 = ((l.getD j 0).toNat : Int) from ints_at l j, int_hyp])
theorem rsv_eq (l : List UInt8) : resv (l.map lowO) = rsv (ints l) := by
  unfold resv rsv
  rw [low_at, low_at, List.length_map]
  have f : ∀ c : UInt8, (lowO c == 45) = decide (c = 45) := fun c => by
    rw [show decide (c = 45) = decide (lowO c = 45) from decide_eq_decide.2 (by rw [low_hyp])]
    simp [BEq.beq]
  rw [f, f]
  by_cases h : 4 ≤ l.length
  · rw [decide_eq_true h, show (2 : Int) = ((2 : Nat) : Int) from rfl, show (3 : Int) = ((3 : Nat) : Int) from rfl, hyp_at l 2 (by omega), hyp_at l 3 (by omega)]; rfl
  · rw [decide_eq_false h, hyA_far (s := ints l) (k := 3) (by rw [ints_length]; omega)]; simp
theorem getD_four {l : List UInt8} (h : 4 < l.length) : l.take 4 = [l.getD 0 0, l.getD 1 0, l.getD 2 0, l.getD 3 0] := by
  match l, h with
  | a :: b :: c :: d :: _ :: _, _ => rfl
theorem ace_eq (l : List UInt8) (h : resv (l.map lowO) = true) : aceL (l.map lowO) = acP l := by
  unfold resv at h
  rw [low_at, low_at] at h
  simp only [Bool.and_eq_true, beq_iff_eq] at h
  obtain ⟨⟨-, h2⟩, h3⟩ := h
  unfold aceL acP
  rw [low_at, low_at, List.length_map]
  by_cases h4 : 4 < l.length
  · rw [getD_four h4]
    rw [decide_eq_true h4]
    have e : ([l.getD 0 0, l.getD 1 0, l.getD 2 0, l.getD 3 0].map lowO = [120, 110, 45, 45]) ↔ (lowO (l.getD 0 0) = 120 ∧ lowO (l.getD 1 0) = 110) := by
      constructor
      · intro e2
        simp only [List.map_cons, List.map_nil, List.cons.injEq] at e2
        exact ⟨e2.1, e2.2.1⟩
      · rintro ⟨e1, e2⟩
        simp only [List.map_cons, List.map_nil]
        rw [e1, e2, h2, h3]
    rw [Bool.eq_iff_iff]
    simp only [Bool.true_and, Bool.and_eq_true, beq_iff_eq]
    rw [e]
  · rw [decide_eq_false h4]; rfl
set_option maxHeartbeats 2000000 in
theorem ace17 (A : Option Addr) (n c : Nat) (l : List UInt8) (w : World) (h : Octs w A n l) (hn : n ≤ 1000000) (hc : n ≤ c) :
    Calls Try.prog 17 #[.slice A n c] w fun e w' => e = .returned (.bool (acP l)) ∧ Hid (Below w.heap.size w w') := by
  have hl := h.len
  by_cases h4 : 4 < n
  · have d := lower10 A 4 c (l.take 4) w (h.take 4 (by omega)) (by omega)
    obtain ⟨b, off, rfl, -, -⟩ := h.2 (by omega)
    have hA : acP l = ((l.take 4).map lowO == [120, 110, 45, 45]) := by unfold acP; rw [decide_eq_true (by omega)]; rfl
    rw [hA]
    have hcv : Hid (∀ w' A' c', Octs w' A' 4 ((l.take 4).map lowO) → (convert 22 9 (.slice A' 4 c')).run Try.prog w' = .ok (.string (bs ((l.take 4).map lowO))) w') := fun w' A' c' ho => conv22 c' ho
    unfold LwP at d
    obtain ⟨m, hm⟩ : ∃ m, (l.take 4).map lowO = m := ⟨_, rfl⟩
    rw [hm] at d hcv ⊢
    obtain ⟨S, hS⟩ : ∃ S, bs m = S := ⟨_, rfl⟩
    have hT : m = S.toList := by rw [← hS]; exact (bs_toList' m).symm
    rw [hS] at hcv
    rw [hT] at d hcv ⊢
    clear hA hm hS hT h hl
    go_enter Try.func17, Try.ntmps17
    go_wp2_with (go_at_call 10; (with_reducible refine d.mono ?_); rintro e w1 ⟨A', c', rfl, hc', HB⟩; have hq := hcv.out w1 A' c' HB.out.2)
    go_ret
    exact ⟨rfl, HB.out.1⟩
  · have hA : acP l = false := by unfold acP; rw [decide_eq_false (by omega)]; rfl
    rw [hA]
    clear hA h hl
    go_enter Try.func17, Try.ntmps17
    go_wp2
    go_ret
    exact ⟨rfl, Below.refl _ _⟩
set_option maxHeartbeats 2000000 in
theorem kind8 (A : Option Addr) (n c : Nat) (l : List UInt8) (w : World) (h : Octs w A n l) (hn : n ≤ 1000000) (hc : n ≤ c) :
    Calls Try.prog 8 #[.slice A n c] w fun e w' => e = .returned (.int .i64 (kindO l)) ∧ Hid (Below w.heap.size w w') := by
  have d1 := is9 A n c l w h hn
  have h2 : Hid (∀ w1, Below w.heap.size w w1 → Calls Try.prog 16 #[.slice A n c] w1 fun e w' => e = .returned (.bool (rsv (ints l))) ∧ Hid (Below w1.heap.size w1 w')) := fun w1 hb => rsv16 A n c (ints l) w1 (h.below hb) hn
  have h3 : Hid (∀ w1, Below w.heap.size w w1 → Calls Try.prog 17 #[.slice A n c] w1 fun e w' => e = .returned (.bool (acP l)) ∧ Hid (Below w1.heap.size w1 w')) := fun w1 hb => ace17 A n c l w1 (h.below hb) hn hc
  have hk : kindO l = if isL (l.map lowO) then (if rsv (ints l) then (if acP l then 3 else 2) else 1) else 0 := by
    unfold kindO kindL
    rw [rsv_eq]
    by_cases hr : rsv (ints l) = true
    · rw [ace_eq l (by rw [rsv_eq]; exact hr)]
    · rw [if_neg hr, if_neg hr]
  rw [hk]
  obtain ⟨x1, hx1⟩ : ∃ x, isL (l.map lowO) = x := ⟨_, rfl⟩
  obtain ⟨x2, hx2⟩ : ∃ x, rsv (ints l) = x := ⟨_, rfl⟩
  obtain ⟨x3, hx3⟩ : ∃ x, acP l = x := ⟨_, rfl⟩
  rw [hx1] at d1 ⊢
  rw [hx2] at h2 ⊢
  rw [hx3] at h3 ⊢
  clear h hk hx1 hx2 hx3
  cases x1 with
  | false =>
    go_enter Try.func8, Try.ntmps8
    go_wp2_with (go_at_call 9; (with_reducible refine d1.mono ?_); rintro e w1 ⟨rfl, HB⟩)
    go_ret
    exact ⟨rfl, HB.out⟩
  | true =>
    cases x2 with
    | false =>
      go_enter Try.func8, Try.ntmps8
      go_wp2_with (first
        | (go_at_call 9; (with_reducible refine d1.mono ?_); rintro e w1 ⟨rfl, HB⟩; have d2 := h2.out w1 HB.out)
        | (go_at_call 16; (with_reducible refine d2.mono ?_); rintro e w2 ⟨rfl, HB2⟩))
      go_ret
      exact ⟨rfl, HB.out.trans (HB2.out.mono HB.out.size)⟩
    | true =>
      cases x3
      all_goals
        go_enter Try.func8, Try.ntmps8
        go_wp2_with (first
          | (go_at_call 9; (with_reducible refine d1.mono ?_); rintro e w1 ⟨rfl, HB⟩; have d2 := h2.out w1 HB.out)
          | (go_at_call 16; (with_reducible refine d2.mono ?_); rintro e w2 ⟨rfl, HB2⟩; have HB3 : Hid (Below w.heap.size w w2) := HB.out.trans (HB2.out.mono HB.out.size); have d3 := h3.out w2 HB3.out)
          | (go_at_call 17; (with_reducible refine d3.mono ?_); rintro e w3 ⟨rfl, HB4⟩))
        go_ret
        exact ⟨rfl, HB3.out.trans (HB4.out.mono HB3.out.size)⟩
end Go.Proofs.Ytohhkogjphgimaa
