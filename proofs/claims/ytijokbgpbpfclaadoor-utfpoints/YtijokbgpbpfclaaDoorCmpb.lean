/- What the document's own comparing hands back, and the two that ask whether all are ASCII. -/
import Derived.Test.YtijokbgpbpfclaaDoorCmp
namespace Go.Proofs.YtijokbgpbpfclaaDoor
open Go.RowKit

set_option maxHeartbeats 800000 in
theorem compare17 (A B : Option Addr) (n m ca cb : Nat) (xs ys : List Int) (w : World) (ha : Nums .i64 w A n xs) (hb : Nums .i64 w B m ys) (hn : n ≤ 1000000) (hm : m ≤ 1000000) :
    Calls Tryd.prog 17 #[.slice A n ca, .slice B m cb] w fun e w' => e = .returned (.int .i64 (lexc xs ys)) ∧ ∃ q, w' = w.drewN q := by
  have HA := Lib.hid ha.1
  have HB := Lib.hid hb.1
  go_enter Tryd.func17, Tryd.ntmps17
  go_wp2
  go_loopw [5] (fun i wr => ∃ k q : Nat, wr = w.drewN q ∧ k ≤ n ∧ k ≤ m ∧ i = .int .i64 k ∧ lexc xs ys = lexc (xs.drop k) (ys.drop k)) (fun i _ => n - (intOf i).toNat)
  case atStart => exact ⟨0, 0, rfl, Nat.zero_le _, Nat.zero_le _, rfl, rfl⟩
  case round =>
    obtain ⟨k, q, rfl, hkn, hkm, rfl, hr0⟩ := hrel
    have hr := Lib.hid hr0
    clear hr0
    by_cases hlt : k < n
    · by_cases hlm : k < m
      · obtain ⟨b, off, rfl, _, hc⟩ := ha.2 (by omega)
        have hcx := hc k hlt
        obtain ⟨b', off', rfl, _, hc'⟩ := hb.2 (by omega)
        have hcy := hc' k hlm
        clear hc hc' ha hb
        obtain ⟨x, hx⟩ : ∃ x, xs.getD k 0 = x := ⟨_, rfl⟩
        obtain ⟨y, hy⟩ : ∃ y, ys.getD k 0 = y := ⟨_, rfl⟩
        rw [hx] at hcx
        rw [hy] at hcy
        have HX := Lib.hid hx
        have HY := Lib.hid hy
        clear hx hy
        have i1 : (k : Int) < (n : Int) := by omega
        have i2 : (k : Int) < (m : Int) := by omega
        have i3 : (0 : Int) ≤ (k : Int) := by omega
        rcases Int.lt_trichotomy x y with h | h | h
        · go_wp2
          go_quiet (fail)
          go_wp2
          go_ret
          exact ⟨ret_int (lexc_lt xs ys k (by have := HA.out; omega) (by have := HB.out; omega) hr.out (by rw [HX.out, HY.out]; exact h)).symm, by first | exact ⟨_, World.drewN_drewN _ _ _⟩ | exact ⟨_, by rw [World.drewN_drewN, World.drewN_drewN]⟩⟩
        · have h1 : ¬ x < y := by omega
          have h2 : ¬ y < x := by omega
          have H := Lib.hid h
          clear h
          go_wp2
          go_quiet (fail)
          go_wp2
          go_quiet (fail)
          go_wp2
          go_roundw
          case rel => exact ⟨k + 1, _, rfl, by omega, by omega, by go_num, lexc_on xs ys k (by have := HA.out; omega) (by have := HB.out; omega) hr.out (by rw [HX.out, HY.out]; exact H.out)⟩
          case measure => simp [intOf]; omega
        · have h1 : ¬ x < y := by omega
          go_wp2
          go_quiet (fail)
          go_wp2
          go_quiet (fail)
          go_wp2
          go_ret
          exact ⟨ret_int (lexc_gt xs ys k (by have := HA.out; omega) (by have := HB.out; omega) hr.out (by rw [HX.out, HY.out]; exact h)).symm, by first | exact ⟨_, World.drewN_drewN _ _ _⟩ | exact ⟨_, by rw [World.drewN_drewN, World.drewN_drewN]⟩⟩
      · clear ha hb
        have h1 : ¬ n < m := by omega
        have h2 : m < n := by omega
        go_wp2
        go_ret
        exact ⟨ret_int (lexc_end_gt xs ys k (by have := HA.out; omega) (by have := HB.out; omega) hr.out).symm, _, rfl⟩
    · clear ha hb
      by_cases hlm : n < m
      · go_wp2
        go_ret
        exact ⟨ret_int (lexc_end_lt xs ys k (by have := HA.out; omega) (by have := HB.out; omega) hr.out).symm, _, rfl⟩
      · have h2 : ¬ m < n := by omega
        go_wp2
        go_ret
        exact ⟨ret_int (lexc_end xs ys k (by have := HA.out; omega) (by have := HB.out; omega) hr.out).symm, _, rfl⟩

theorem ascii22 (A : Option Addr) (n ca : Nat) (xs : List Int) (w : World) (ha : Nums .i64 w A n xs) (hn : n ≤ 1000000) :
    Calls Tryd.prog 22 #[.slice A n ca] w fun e w' => e = .returned (.bool (asc xs)) ∧ w = w' := by
  have HA := Lib.hid ha.1
  go_enter Tryd.func22, Tryd.ntmps22
  go_wp2
  go_loop [7] (fun i => ∃ k : Nat, k ≤ n ∧ i = .int .i64 k ∧ ∀ j, j < k → 0 ≤ xs.getD j 0 ∧ xs.getD j 0 ≤ 127) (fun i => n - (intOf i).toNat)
  case atStart => exact ⟨0, Nat.zero_le _, rfl, fun j hj => absurd hj (by omega)⟩
  case round =>
    obtain ⟨k, hkn, rfl, hr0⟩ := hrel
    have hr := Lib.hid hr0
    clear hr0
    by_cases hlt : k < n
    · obtain ⟨b, off, rfl, _, hc⟩ := ha.2 (by omega)
      have hcx := hc k hlt
      clear hc ha
      obtain ⟨x, hx⟩ : ∃ x, xs.getD k 0 = x := ⟨_, rfl⟩
      rw [hx] at hcx
      have HX := Lib.hid hx
      clear hx
      by_cases h0 : x < 0
      · go_wp2
        go_ret
        exact ⟨ret_bool (asc_bad xs k (by have := HA.out; omega) (by rw [HX.out]; omega)).symm, rfl⟩
      · by_cases h1 : 128 ≤ x
        · go_wp2
          go_ret
          exact ⟨ret_bool (asc_bad xs k (by have := HA.out; omega) (by rw [HX.out]; omega)).symm, rfl⟩
        · go_wp2
          go_round
          case rel => exact ⟨k + 1, by omega, by go_num, fun j hj => by
            by_cases e : j = k
            · subst e; rw [HX.out]; omega
            · exact hr.out j (by omega)⟩
          case measure => simp [intOf]; omega
    · clear ha
      go_wp2
      go_ret
      exact ⟨ret_bool (asc_all xs (fun j hj => hr.out j (by have := HA.out; omega))).symm, rfl⟩

theorem ascii23 (A : Option Addr) (n ca : Nat) (xs : List Int) (w : World) (ha : Nums .i64 w A n xs) (hn : n ≤ 1000000) :
    Calls Tryd.prog 23 #[.slice A n ca] w fun e w' => e = .returned (.bool (asc xs)) ∧ w = w' := by
  have HA := Lib.hid ha.1
  go_enter Tryd.func23, Tryd.ntmps23
  go_wp2
  go_loop [3] (fun i => ∃ k : Nat, k ≤ n ∧ i = .int .i64 k ∧ ∀ j, j < k → 0 ≤ xs.getD j 0 ∧ xs.getD j 0 ≤ 127) (fun i => n - (intOf i).toNat)
  case atStart => exact ⟨0, Nat.zero_le _, rfl, fun j hj => absurd hj (by omega)⟩
  case round =>
    obtain ⟨k, hkn, rfl, hr0⟩ := hrel
    have hr := Lib.hid hr0
    clear hr0
    by_cases hlt : k < n
    · obtain ⟨b, off, rfl, _, hc⟩ := ha.2 (by omega)
      have hcx := hc k hlt
      clear hc ha
      obtain ⟨x, hx⟩ : ∃ x, xs.getD k 0 = x := ⟨_, rfl⟩
      rw [hx] at hcx
      have HX := Lib.hid hx
      clear hx
      by_cases h0 : x < 0
      · go_wp2
        go_ret
        exact ⟨ret_bool (asc_bad xs k (by have := HA.out; omega) (by rw [HX.out]; omega)).symm, rfl⟩
      · by_cases h1 : 127 < x
        · go_wp2
          go_ret
          exact ⟨ret_bool (asc_bad xs k (by have := HA.out; omega) (by rw [HX.out]; omega)).symm, rfl⟩
        · go_wp2
          go_round
          case rel => exact ⟨k + 1, by omega, by go_num, fun j hj => by
            by_cases e : j = k
            · subst e; rw [HX.out]; omega
            · exact hr.out j (by omega)⟩
          case measure => simp [intOf]; omega
    · clear ha
      go_wp2
      go_ret
      exact ⟨ret_bool (asc_all xs (fun j hj => hr.out j (by have := HA.out; omega))).symm, rfl⟩

theorem same12 (A B : Option Addr) (n m ca cb : Nat) (xs ys : List Int) (w : World) (ha : Nums .i64 w A n xs) (hb : Nums .i64 w B m ys) (hn : n ≤ 1000000) (hm : m ≤ 1000000) (he : xs = ys) :
    Calls Tryd.prog 12 #[.slice A n ca, .slice B m cb] w fun e w' => e = .returned (.bool true) ∧ ∃ q, w' = w.drewN q := by
  have c := compare17 A B n m ca cb xs ys w ha hb hn hm
  rw [he, lexc_self] at c
  clear ha hb he
  go_enter Tryd.func12, Tryd.ntmps12
  go_wp2_with (go_at_call 17; refine c.mono ?_; rintro e w' ⟨rfl, q, rfl⟩)
  go_ret
  exact ⟨rfl, _, rfl⟩
end Go.Proofs.YtijokbgpbpfclaaDoor
