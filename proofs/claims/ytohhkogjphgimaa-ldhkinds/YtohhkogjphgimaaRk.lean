/- The document's own Kind of a text. -/
import Derived.Test.YtohhkogjphgimaaRf
namespace Go.Proofs.Ytohhkogjphgimaa
open Go.RowKit

theorem rs_plain {m : List UInt8} (h : 4 ≤ m.length) : resv m = ((m.drop 2).take 2 == [45, 45]) := by
  match m, h with
  | a :: b :: c :: d :: r, _ =>
    unfold resv
    have e : (((a :: b :: c :: d :: r).drop 2).take 2 == [45, 45]) = (c == 45 && d == 45) := by
      show ([c, d] == [45, 45]) = _
      rw [Bool.eq_iff_iff]
      simp
    rw [e, decide_eq_true (by simp)]
    rfl
theorem ace_plain {m : List UInt8} (h : resv m = true) (h4 : 4 < m.length) : aceL m = (m.take 4 == [120, 110, 45, 45]) := by
  unfold resv at h
  simp only [Bool.and_eq_true, beq_iff_eq] at h
  obtain ⟨⟨-, h2⟩, h3⟩ := h
  unfold aceL
  rw [getD_four h4, h2, h3, decide_eq_true h4, Bool.eq_iff_iff]
  simp
set_option maxRecDepth 4000 in
theorem o_ways : ∀ c : UInt8, (c.toNat = 45 ∧ ldhO c = true) ∨ (c.toNat ≠ 45 ∧ c.toNat < 48 ∧ ldhO c = false) ∨ ((48 ≤ c.toNat ∧ c.toNat ≤ 57) ∧ ldhO c = true) ∨ ((57 < c.toNat ∧ c.toNat < 97) ∧ ldhO c = false)
    ∨ ((97 ≤ c.toNat ∧ c.toNat ≤ 122) ∧ ldhO c = true) ∨ (122 < c.toNat ∧ ldhO c = false) := all_u8 (by decide)
theorem o_hyp (c : UInt8) : (((c.toNat : Nat) : Int) == 45) = decide (c = 45) := by
  show decide _ = _
  exact decide_eq_decide.2 (by rw [int_hyp])
def RkI (m : List UInt8) (n : Nat) (i : Value) : Prop := ∃ k : Nat, k ≤ n ∧ i = .int .i64 k ∧ Hid (∀ j, j < k → ldhO (m.getD j 0) = true)
set_option maxRecDepth 100000 in
set_option maxHeartbeats 4000000 in
theorem rkind7 (l : List UInt8) (w : World) (hn : l.length ≤ 1000) : Calls Try.prog 7 #[.string (bs l)] w fun e w' => e = .returned (.int .i64 (kindO l)) ∧ Hid (Below w.heap.size w w') := by
  have d := rlower11 l w hn
  unfold kindO
  obtain ⟨m, hm⟩ : ∃ m, l.map lowO = m := ⟨_, rfl⟩
  obtain ⟨n, hl⟩ : ∃ n, m.length = n := ⟨_, rfl⟩
  have hn2 : n ≤ 1000 := by rw [← hl, ← hm, List.length_map]; exact hn
  have HL := Lib.hid hl
  rw [hm] at d ⊢
  have hs : (bs m).size = n := by rw [bs_size, hl]
  have HQ : Hid (∀ k h, (((bs m)[k]'h).toNat : Int) = oct m k) := fun k h => bs_oct m k h
  have HX2 : Hid ((bs m).extract 2 4 = bs ((m.drop 2).take 2)) := bs_ext m 2 4
  have HX4 : Hid ((bs m).extract 0 4 = bs (m.take 4)) := by rw [bs_ext]; rfl
  obtain ⟨t, ht⟩ : ∃ t, bs m = t := ⟨_, rfl⟩
  rw [ht] at hs HQ HX2 HX4 d
  obtain ⟨s0, hs0⟩ : ∃ s, bs l = s := ⟨_, rfl⟩
  rw [hs0] at d ⊢
  have HK : Hid (kindL m = if isL m then (if resv m then (if aceL m then 3 else 2) else 1) else 0) := rfl
  obtain ⟨K, hK⟩ : ∃ K, kindL m = K := ⟨_, rfl⟩
  rw [hK] at HK ⊢
  have HI : Hid (isL m = (decide (1 ≤ n) && decide (n ≤ 63) && m.getD 0 0 != 45 && m.getD (n - 1) 0 != 45 && m.all ldhO)) := by unfold isL; rw [hl]; rfl
  have HZ : Hid (isL m = false → K = 0) := fun h => by rw [HK.out, h]; rfl
  clear hm hl ht hs0 hK hn
  by_cases h0 : n = 0
  · have : K = 0 := HZ.out (by rw [HI.out, decide_eq_false (p := 1 ≤ n) (by omega)]; rfl)
    subst this h0
    go_enter Try.func7, Try.ntmps7
    go_wp2_with (go_at_call 11; (with_reducible refine d.mono ?_); rintro e w1 ⟨rfl, HB⟩)
    go_ret
    exact ⟨rfl, HB.out⟩
  by_cases h1 : 63 < n
  · have : K = 0 := HZ.out (by rw [HI.out, decide_eq_false (p := n ≤ 63) (by omega)]; simp)
    subst this
    go_enter Try.func7, Try.ntmps7
    go_wp2_with (go_at_call 11; (with_reducible refine d.mono ?_); rintro e w1 ⟨rfl, HB⟩)
    go_ret
    exact ⟨rfl, HB.out⟩
  have hq0 := HQ.out 0
  have hq1 := HQ.out (n - 1)
  have e0 : (oct m 0 == 45) = decide (m.getD 0 0 = 45) := o_hyp _
  have e1 : (oct m (n - 1) == 45) = decide (m.getD (n - 1) 0 = 45) := o_hyp _
  obtain ⟨y0, hy0⟩ : ∃ y, oct m 0 = y := ⟨_, rfl⟩
  obtain ⟨y1, hy1⟩ : ∃ y, oct m (n - 1) = y := ⟨_, rfl⟩
  rw [hy0] at hq0 e0
  rw [hy1] at hq1 e1
  obtain ⟨N, hN⟩ : ∃ N, n = N + 1 := ⟨n - 1, by omega⟩
  rw [show n - 1 = N by omega] at hq1
  clear hy0 hy1
  by_cases g0 : m.getD 0 0 = 45
  · have : K = 0 := HZ.out (by rw [HI.out, g0]; simp)
    subst this
    rw [decide_eq_true g0] at e0
    clear g0 e1
    have HN := Lib.hid hN
    subst hN
    go_enter Try.func7, Try.ntmps7
    go_wp2_with (go_at_call 11; (with_reducible refine d.mono ?_); rintro e w1 ⟨rfl, HB⟩)
    go_ret
    exact ⟨rfl, HB.out⟩
  by_cases g1 : m.getD (n - 1) 0 = 45
  · have : K = 0 := HZ.out (by rw [HI.out, g1]; simp)
    subst this
    rw [decide_eq_true g1] at e1
    rw [decide_eq_false g0] at e0
    clear g0 g1
    subst hN
    go_enter Try.func7, Try.ntmps7
    go_wp2_with (go_at_call 11; (with_reducible refine d.mono ?_); rintro e w1 ⟨rfl, HB⟩)
    go_ret
    exact ⟨rfl, HB.out⟩
  have HI2 : Hid (isL m = m.all ldhO) := by
    rw [HI.out, decide_eq_true (p := 1 ≤ n) (by omega), decide_eq_true (p := n ≤ 63) (by omega), show (m.getD 0 0 != 45) = true from bne_iff_ne.2 g0, show (m.getD (n - 1) 0 != 45) = true from bne_iff_ne.2 g1]
    rfl
  rw [decide_eq_false g1] at e1
  rw [decide_eq_false g0] at e0
  clear g0 g1 HI
  subst hN
  go_enter Try.func7, Try.ntmps7
  go_wp2_with (go_at_call 11; (with_reducible refine d.mono ?_); rintro e w1 ⟨rfl, HB⟩)
  clear d e0 e1 hq0 hq1
  go_loop [3] (fun i => RkI m (N + 1) i) (fun i => (N + 1) - (intOf i).toNat)
  case atStart => exact ⟨0, Nat.zero_le _, rfl, fun j hj => absurd hj (by omega)⟩
  case round =>
    obtain ⟨k, hk, rfl, HK2⟩ := hrel
    by_cases hlt : k < N + 1
    · have hq := HQ.out k
      unfold oct at hq
      have hw := o_ways (m.getD k 0)
      have hlt2 := (m.getD k 0).toNat_lt
      obtain ⟨x, hx⟩ : ∃ x, ldhO (m.getD k 0) = x := ⟨_, rfl⟩
      rw [hx] at hw
      have HX := Lib.hid hx
      obtain ⟨y, hy⟩ : ∃ y, (m.getD k 0).toNat = y := ⟨_, rfl⟩
      rw [hy] at hq hw hlt2
      have HF : Hid (x = false → K = 0) := fun h => HZ.out (by
        rw [HI2.out]
        exact List.all_eq_false.2 ⟨m.getD k 0, by rw [List.getD_eq_getElem?_getD, List.getElem?_eq_getElem (by rw [HL.out]; exact hlt)]; exact List.getElem_mem _, by rw [HX.out, h]; simp⟩)
      have HT : Hid (x = true → RkI m (N + 1) (.int .i64 ((k : Int) + 1))) := fun h => ⟨k + 1, by omega, by go_num, fun j hj => by
          by_cases e : j = k
          · subst e; rw [HX.out]; exact h
          · exact HK2.out j (by omega)⟩
      clear hx hy
      rcases hw with ⟨rfl, rfl⟩ | ⟨h1, h2, rfl⟩ | ⟨⟨h1, h2⟩, rfl⟩ | ⟨⟨h1, h2⟩, rfl⟩ | ⟨⟨h1, h2⟩, rfl⟩ | ⟨h1, rfl⟩
      case inr.inl =>
        have h3 : ((y : Int) == 45) = false := beq_false_of_ne (by omega)
        have := HF.out rfl
        subst this
        go_wp2
        go_ret
        exact ⟨rfl, HB.out⟩
      case inr.inr.inr.inl =>
        have j1 : ¬ (y : Int) < 48 := by omega
        have j2 : (57 : Int) < (y : Int) := by omega
        have j3 : (y : Int) < 97 := by omega
        have h3 : ((y : Int) == 45) = false := beq_false_of_ne (by omega)
        have := HF.out rfl
        subst this
        go_wp2
        go_ret
        exact ⟨rfl, HB.out⟩
      case inr.inr.inr.inr.inr =>
        have j1 : ¬ (y : Int) < 48 := by omega
        have j2 : (57 : Int) < (y : Int) := by omega
        have j3 : ¬ (y : Int) < 97 := by omega
        have j4 : (122 : Int) < (y : Int) := by omega
        have h3 : ((y : Int) == 45) = false := beq_false_of_ne (by omega)
        have := HF.out rfl
        subst this
        go_wp2
        go_ret
        exact ⟨rfl, HB.out⟩
      all_goals
        try have h3 : ((y : Int) == 45) = false := beq_false_of_ne (by omega)
        go_wp2
        go_round
        case rel => exact HT.out rfl
        case measure => simp [intOf]; omega
    · have HA : Hid (isL m = true) := by
        rw [HI2.out]
        exact List.all_eq_true.2 (fun x hx => by
          obtain ⟨j, hj, rfl⟩ := List.getElem_of_mem hx
          have := HK2.out j (by have := HL.out; omega)
          rwa [List.getD_eq_getElem?_getD, List.getElem?_eq_getElem hj] at this)
      by_cases h4 : N + 1 < 4
      · have : K = 1 := by
          rw [HK.out, HA.out, show resv m = false by unfold resv; rw [decide_eq_false (by rw [HL.out]; omega)]; rfl]; rfl
        subst this
        go_wp2
        go_ret
        exact ⟨rfl, HB.out⟩
      · have hx2 := HX2.out
        have HR : Hid (resv m = ((m.drop 2).take 2 == [45, 45])) := rs_plain (by rw [HL.out]; omega)
        have hb2 : bs ((m.drop 2).take 2) = bs ((m.drop 2).take 2) := rfl
        obtain ⟨t2, ht2⟩ : ∃ t2, bs ((m.drop 2).take 2) = t2 := ⟨_, rfl⟩
        have ht3 : t2.toList = (m.drop 2).take 2 := by rw [← ht2]; exact bs_toList' _
        rw [ht2] at hx2
        rw [← ht3] at HR
        clear hb2 ht2 ht3
        cases hr : (t2.toList == [45, 45]) with
        | false =>
          have : K = 1 := by rw [HK.out, HA.out, HR.out, hr]; rfl
          subst this
          go_wp2
          go_ret
          exact ⟨rfl, HB.out⟩
        | true =>
          have HR2 : Hid (resv m = true) := by rw [HR.out]; exact hr
          by_cases h5 : 4 < N + 1
          · have hx4 := HX4.out
            have HC : Hid (aceL m = (m.take 4 == [120, 110, 45, 45])) := ace_plain HR2.out (by rw [HL.out]; exact h5)
            obtain ⟨t4, ht4⟩ : ∃ t4, bs (m.take 4) = t4 := ⟨_, rfl⟩
            have ht5 : t4.toList = m.take 4 := by rw [← ht4]; exact bs_toList' _
            rw [ht4] at hx4
            rw [← ht5] at HC
            clear ht4 ht5
            cases hc : (t4.toList == [120, 110, 45, 45]) with
            | false =>
              have : K = 2 := by rw [HK.out, HA.out, HR2.out, HC.out, hc]; rfl
              subst this
              go_wp2
              go_ret
              exact ⟨rfl, HB.out⟩
            | true =>
              have : K = 3 := by rw [HK.out, HA.out, HR2.out, HC.out, hc]; rfl
              subst this
              go_wp2
              go_ret
              exact ⟨rfl, HB.out⟩
          · have : K = 2 := by rw [HK.out, HA.out, HR2.out, show aceL m = false by unfold aceL; rw [decide_eq_false (by rw [HL.out]; exact h5)]; rfl]; rfl
            subst this
            go_wp2
            go_ret
            exact ⟨rfl, HB.out⟩
end Go.Proofs.Ytohhkogjphgimaa
