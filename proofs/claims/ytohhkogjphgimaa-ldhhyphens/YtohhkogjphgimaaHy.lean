/- Hyphens of numbers: the program's and the document's; the document's Ascii of none, its Rest. -/
import Derived.Test.YtohhkogjphgimaaCl
namespace Go.Proofs.Ytohhkogjphgimaa
open Go.RowKit

theorem hyp_eq (s : List Int) : hypO s = (!(edg s) && !(rsv s)) := by
  unfold hypO edg rsv
  by_cases h0 : s.length = 0
  · rw [if_pos h0, hyA_far (s := s) (k := 0) (by omega), hyA_far (s := s) (k := 2) (by omega), hyA_neg (s := s) (k := (s.length : Int) - 1) (by omega)]; rfl
  have e0 := hyA_in (s := s) (j := 0) (by omega)
  have e1 := hyA_in (s := s) (j := s.length - 1) (by omega)
  rw [show ((s.length - 1 : Nat) : Int) = (s.length : Int) - 1 by omega] at e1
  rw [show ((0 : Nat) : Int) = 0 from rfl] at e0
  rw [if_neg h0, e0, e1]
  by_cases h4 : s.length < 4
  · rw [hyA_far (s := s) (k := 3) (by omega), decide_eq_true h4, Bool.and_false]
    clear e0 e1 h0 h4
    generalize s.getD 0 0 = y0
    generalize s.getD (s.length - 1) 0 = y1
    by_cases a : y0 = 45 <;> by_cases b : y1 = 45 <;> simp_all
  · have e2 := hyA_in (s := s) (j := 2) (by omega)
    have e3 := hyA_in (s := s) (j := 3) (by omega)
    rw [show ((2 : Nat) : Int) = 2 from rfl] at e2
    rw [show ((3 : Nat) : Int) = 3 from rfl] at e3
    rw [e2, e3, decide_eq_false h4]
    clear e0 e1 e2 e3 h0 h4
    generalize s.getD 0 0 = y0
    generalize s.getD (s.length - 1) 0 = y1
    generalize s.getD 2 0 = y2
    generalize s.getD 3 0 = y3
    by_cases a : y0 = 45 <;> by_cases b : y1 = 45 <;> by_cases c : y2 = 45 <;> by_cases d : y3 = 45 <;> simp_all
set_option maxHeartbeats 1000000 in
theorem hyp12 (A : Option Addr) (n c : Nat) (s : List Int) (w : World) (h : Vals w A n (nums .i64 s)) (hn : n ≤ 1000000) :
    Calls Try.prog 12 #[.slice A n c] w fun e w' => e = .returned (.bool (hypO s)) ∧ Hid (Below w.heap.size w w') := by
  have d1 := edg21 A n c s w h hn
  have h2 : Hid (∀ w1, Below w.heap.size w w1 → Calls Try.prog 22 #[.slice A n c] w1 fun e w' => e = .returned (.bool (rsv s)) ∧ Hid (Below w1.heap.size w1 w')) := fun w1 hb => rsv22 A n c s w1 (h.below hb) hn
  rw [hyp_eq]
  obtain ⟨x1, hx1⟩ : ∃ x, edg s = x := ⟨_, rfl⟩
  obtain ⟨x2, hx2⟩ : ∃ x, rsv s = x := ⟨_, rfl⟩
  rw [hx1] at d1 ⊢
  rw [hx2] at h2 ⊢
  clear h hx1 hx2
  cases x1 with
  | true =>
    go_enter Try.func12, Try.ntmps12
    go_wp2_with (go_at_call 21; (with_reducible refine d1.mono ?_); rintro e w1 ⟨rfl, HB⟩)
    go_ret
    exact ⟨rfl, HB.out⟩
  | false =>
    go_enter Try.func12, Try.ntmps12
    go_wp2_with (first
      | (go_at_call 21; (with_reducible refine d1.mono ?_); rintro e w1 ⟨rfl, HB⟩; have d2 := h2.out w1 HB.out)
      | (go_at_call 22; (with_reducible refine d2.mono ?_); rintro e w2 ⟨rfl, HB2⟩))
    go_ret
    exact ⟨rfl, HB.out.trans (HB2.out.mono HB.out.size)⟩
set_option maxHeartbeats 2000000 in
theorem rhyp13 (A : Option Addr) (n c : Nat) (s : List Int) (w : World) (h : Vals w A n (nums .i64 s)) (hn : n ≤ 1000000) :
    Calls Try.prog 13 #[.slice A n c] w fun e w' => e = .returned (.bool (hypO s)) ∧ Hid (Below w.heap.size w w') := by
  have hl := nums_len h
  have HH : Hid (hypO s = if n = 0 then true else if s.getD 0 0 = 45 ∨ s.getD (n - 1) 0 = 45 then false else decide (n < 4) || decide (s.getD 2 0 ≠ 45) || decide (s.getD 3 0 ≠ 45)) := by unfold hypO; rw [hl]; rfl
  obtain ⟨r, hr⟩ : ∃ r, hypO s = r := ⟨_, rfl⟩
  rw [hr] at HH ⊢
  clear hr
  by_cases h0 : n = 0
  · have : r = true := by rw [HH.out, if_pos h0]
    subst this h0
    clear h hl
    go_enter Try.func13, Try.ntmps13
    go_wp2
    go_ret
    exact ⟨rfl, Below.refl _ _⟩
  obtain ⟨b, off, rfl, -, hc⟩ := h.2 (by omega)
  have hz : ((n : Int) == 0) = false := beq_false_of_ne (by omega)
  have q0 := hc 0 _ (nums_get (by omega))
  rw [Nat.add_zero] at q0
  have q1 := hc (n - 1) _ (nums_get (by omega))
  obtain ⟨N, hN⟩ : ∃ N, n = N + 1 := ⟨n - 1, by omega⟩
  obtain ⟨y0, hy0⟩ : ∃ y, s.getD 0 0 = y := ⟨_, rfl⟩
  obtain ⟨y1, hy1⟩ : ∃ y, s.getD (n - 1) 0 = y := ⟨_, rfl⟩
  rw [hy0] at q0 HH
  rw [hy1] at q1 HH
  rw [show n - 1 = N by omega] at q1
  have HC : Hid (∀ j, j < n → w.cell? ⟨b, off + j, none⟩ = some (.int .i64 (s.getD j 0))) := fun j hj => hc j _ (nums_get (by omega))
  clear hc hy0 hy1 h hl
  rw [if_neg h0] at HH
  by_cases g0 : y0 = 45
  · have : r = false := by rw [HH.out, if_pos (.inl g0)]
    subst this g0
    clear q1
    go_enter Try.func13, Try.ntmps13
    go_wp2
    go_ret
    exact ⟨rfl, Below.refl _ _⟩
  have e0 : (y0 == 45) = false := beq_false_of_ne g0
  by_cases g1 : y1 = 45
  · have : r = false := by rw [HH.out, if_pos (.inr g1)]
    subst this g1 hN
    clear g0
    go_enter Try.func13, Try.ntmps13
    go_wp2
    go_ret
    exact ⟨rfl, Below.refl _ _⟩
  have e1 : (y1 == 45) = false := beq_false_of_ne g1
  rw [if_neg (fun hh => hh.elim g0 g1)] at HH
  by_cases h4 : n < 4
  · have : r = true := by rw [HH.out, decide_eq_true h4]; rfl
    subst this hN
    clear g0 g1
    go_enter Try.func13, Try.ntmps13
    go_wp2
    go_ret
    exact ⟨rfl, Below.refl _ _⟩
  have q2 := HC.out 2 (by omega)
  have q3 := HC.out 3 (by omega)
  obtain ⟨y2, hy2⟩ : ∃ y, s.getD 2 0 = y := ⟨_, rfl⟩
  obtain ⟨y3, hy3⟩ : ∃ y, s.getD 3 0 = y := ⟨_, rfl⟩
  rw [hy2] at q2 HH
  rw [hy3] at q3 HH
  rw [decide_eq_false h4] at HH
  clear g0 g1 hy2 hy3
  subst hN
  by_cases g2 : y2 = 45
  · subst g2
    by_cases g3 : y3 = 45
    · subst g3
      have : r = false := by rw [HH.out]; rfl
      subst this
      go_enter Try.func13, Try.ntmps13
      go_wp2
      go_ret
      exact ⟨ret_bool (decide_eq_false (by omega)), Below.refl _ _⟩
    · have : r = true := by rw [HH.out, decide_eq_true (p := y3 ≠ 45) g3]; simp
      subst this
      have e3 : (y3 == 45) = false := beq_false_of_ne g3
      go_enter Try.func13, Try.ntmps13
      go_wp2
      go_ret
      exact ⟨ret_bool (by simp [bne, e3]), Below.refl _ _⟩
  · have : r = true := by rw [HH.out, decide_eq_true (p := y2 ≠ 45) g2]; simp
    subst this
    have e2 : (y2 == 45) = false := beq_false_of_ne g2
    clear q3
    go_enter Try.func13, Try.ntmps13
    go_wp2
    go_ret
    exact ⟨rfl, Below.refl _ _⟩
theorem ascii14 (w : World) : Calls Try.prog 14 #[.slice none 0 0] w fun e w' => e = .returned (.bool true) ∧ w = w' := by
  go_enter Try.func14, Try.ntmps14
  go_wp2
  go_loop [3] (fun i => i = .int .i64 0) (fun _ => 0)
  case atStart => rfl
  case round =>
    obtain rfl := hrel
    go_wp2
    go_ret
    exact ⟨rfl, rfl⟩
def restOf (t : Int) (n : Nat) : Nat := ((t.tmod (n : Int) + (n : Int)).tmod (n : Int)).toNat
theorem rest_lt {t : Int} {n : Nat} (h0 : 0 < n) : restOf t n < n := by
  have := Int.tmod_lt_of_pos (t.tmod (n : Int) + (n : Int)) (show (0 : Int) < (n : Int) by omega)
  unfold restOf
  omega
set_option maxHeartbeats 1000000 in
theorem rest15 (t : Int) (n : Nat) (w : World) (h0 : 0 < n) (hn : n ≤ 1000) : Calls Try.prog 15 #[.int .i64 t, .int .i64 n] w fun e w' => e = .returned (.int .i64 (restOf t n)) ∧ w = w' := by
  have h1 : (t.tmod (n : Int)) < (n : Int) := Int.tmod_lt_of_pos _ (by omega)
  have h2 : -(n : Int) < (t.tmod (n : Int)) := Int.lt_tmod_of_pos _ (by omega)
  have hr : (t.tmod (n : Int) + (n : Int)).tmod (n : Int) = (restOf t n : Int) := (Int.toNat_of_nonneg (Int.tmod_nonneg _ (by omega))).symm
  obtain ⟨r, hrr⟩ : ∃ r, restOf t n = r := ⟨_, rfl⟩
  rw [hrr] at hr ⊢
  obtain ⟨m, hm⟩ : ∃ m, t.tmod (n : Int) = m := ⟨_, rfl⟩
  rw [hm] at h1 h2 hr
  have hz : ((n : Int) == 0) = false := beq_false_of_ne (by omega)
  clear hrr
  go_enter Try.func15, Try.ntmps15
  go_wp2
  go_ret
  exact ⟨rfl, rfl⟩
end Go.Proofs.Ytohhkogjphgimaa
