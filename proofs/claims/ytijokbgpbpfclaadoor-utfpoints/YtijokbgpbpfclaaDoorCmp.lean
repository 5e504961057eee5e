/- What the small functions of the program and of the document's own answers hand back: comparing, small letters, scalars, ASCII. -/
import Derived.Test.YtijokbgpbpfclaaDoorProg
import Derived.Test.YtijokbgpbpfclaaDoorPlain
import Derived.WalkKit
import Derived.Deep.QuietTactic
import Derived.BigQuiet
namespace Go.Proofs.YtijokbgpbpfclaaDoor
open Go.RowKit

theorem lower18 (c : Int) (w : World) (h0 : -9223372036854775808 ≤ c) (h1 : c ≤ 9223372036854775807) :
    Calls Tryd.prog 18 #[.int .i64 c] w fun e w' => e = .returned (.int .i64 (lowI c)) ∧ w = w' := by
  by_cases h : 65 ≤ c ∧ c ≤ 90
  · rw [lowI_pos h]
    obtain ⟨ha, hb⟩ := h
    go_enter Tryd.func18, Tryd.ntmps18
    go_wp2
    go_ret
    exact ⟨rfl, rfl⟩
  · rw [lowI_neg h]
    by_cases ha : 65 ≤ c
    · have hb : 90 < c := by omega
      clear h
      go_enter Tryd.func18, Tryd.ntmps18
      go_wp2
      go_ret
      exact ⟨rfl, rfl⟩
    · clear h
      go_enter Tryd.func18, Tryd.ntmps18
      go_wp2
      go_ret
      exact ⟨rfl, rfl⟩

theorem lower19 (c : Int) (w : World) (h0 : -9223372036854775808 ≤ c) (h1 : c ≤ 9223372036854775807) :
    Calls Tryd.prog 19 #[.int .i64 c] w fun e w' => e = .returned (.int .i64 (lowI c)) ∧ w = w' := by
  by_cases h : 65 ≤ c ∧ c ≤ 90
  · rw [lowI_pos h]
    obtain ⟨ha, hb⟩ := h
    go_enter Tryd.func19, Tryd.ntmps19
    go_wp2
    go_ret
    exact ⟨rfl, rfl⟩
  · rw [lowI_neg h]
    by_cases ha : 65 ≤ c
    · have hb : 90 < c := by omega
      clear h
      go_enter Tryd.func19, Tryd.ntmps19
      go_wp2
      go_ret
      exact ⟨rfl, rfl⟩
    · clear h
      go_enter Tryd.func19, Tryd.ntmps19
      go_wp2
      go_ret
      exact ⟨rfl, rfl⟩

/-- The five ways a number can lie. -/
theorem scal_ways (c : Int) : (c < 0 ∧ scal c = false) ∨ (1114111 < c ∧ scal c = false) ∨ ((0 ≤ c ∧ c < 55296) ∧ scal c = true) ∨ ((55296 ≤ c ∧ c ≤ 57343) ∧ scal c = false) ∨ ((57343 < c ∧ c ≤ 1114111) ∧ scal c = true) := by
  by_cases h0 : c < 0
  · exact .inl ⟨h0, scal_neg (by omega)⟩
  by_cases h1 : 1114111 < c
  · exact .inr (.inl ⟨h1, scal_neg (by omega)⟩)
  by_cases h2 : c < 55296
  · exact .inr (.inr (.inl ⟨⟨by omega, h2⟩, scal_pos (by omega)⟩))
  by_cases h3 : c ≤ 57343
  · exact .inr (.inr (.inr (.inl ⟨⟨by omega, h3⟩, scal_neg (by omega)⟩)))
  · exact .inr (.inr (.inr (.inr ⟨⟨by omega, by omega⟩, scal_pos (by omega)⟩)))

theorem scalar20 (c : Int) (w : World) : Calls Tryd.prog 20 #[.int .i64 c] w fun e w' => e = .returned (.bool (scal c)) ∧ w = w' := by
  rcases scal_ways c with ⟨h, e⟩ | ⟨h, e⟩ | ⟨⟨h, h'⟩, e⟩ | ⟨⟨h, h'⟩, e⟩ | ⟨⟨h, h'⟩, e⟩
  all_goals
    rw [e]
    clear e
    go_enter Tryd.func20, Tryd.ntmps20
    go_wp2
    go_ret
    first | exact ⟨rfl, rfl⟩ | exact ⟨ret_bool (by simp; omega), rfl⟩

theorem scalar21 (c : Int) (w : World) : Calls Tryd.prog 21 #[.int .i64 c] w fun e w' => e = .returned (.bool (scal c)) ∧ w = w' := by
  rcases scal_ways c with ⟨h, e⟩ | ⟨h, e⟩ | ⟨⟨h, h'⟩, e⟩ | ⟨⟨h, h'⟩, e⟩ | ⟨⟨h, h'⟩, e⟩
  all_goals
    rw [e]
    clear e
    go_enter Tryd.func21, Tryd.ntmps21
    go_wp2
    go_ret
    first | exact ⟨rfl, rfl⟩ | exact ⟨ret_bool (by simp; omega), rfl⟩

theorem cmp32 (x y : Int) (w : World) : Calls Tryd.prog 32 #[.int .i64 x, .int .i64 y] w fun e w' => e = .returned (.int .i64 (lexc [x] [y])) ∧ w = w' := by
  by_cases h : x < y
  · have e : lexc [x] [y] = -1 := by simp [lexc, h]
    rw [e]
    clear e
    go_enter Tryd.func32, Tryd.ntmps32
    go_wp2
    all_goals (go_ret; exact ⟨rfl, rfl⟩)
  · by_cases h' : y < x
    · have e : lexc [x] [y] = 1 := by simp [lexc, h, h']
      rw [e]
      clear e
      go_enter Tryd.func32, Tryd.ntmps32
      go_wp2
      all_goals (go_ret; exact ⟨rfl, rfl⟩)
    · have e : lexc [x] [y] = 0 := by simp [lexc, h, h']
      rw [e]
      clear e
      go_enter Tryd.func32, Tryd.ntmps32
      go_wp2
      all_goals (go_ret; exact ⟨rfl, rfl⟩)
theorem cmp32_lt {x y : Int} (w : World) (h : x < y) : Calls Tryd.prog 32 #[.int .i64 x, .int .i64 y] w fun e w' => e = .returned (.int .i64 (-1)) ∧ w = w' := by
  have := cmp32 x y w
  rwa [show lexc [x] [y] = -1 by simp [lexc, h]] at this
theorem cmp32_gt {x y : Int} (w : World) (h : y < x) : Calls Tryd.prog 32 #[.int .i64 x, .int .i64 y] w fun e w' => e = .returned (.int .i64 1) ∧ w = w' := by
  have := cmp32 x y w
  rwa [show lexc [x] [y] = 1 by simp [lexc, h, show ¬ x < y by omega]] at this
theorem cmp32_eq {x y : Int} (w : World) (h : x = y) : Calls Tryd.prog 32 #[.int .i64 x, .int .i64 y] w fun e w' => e = .returned (.int .i64 0) ∧ w = w' := by
  have := cmp32 x y w
  rwa [show lexc [x] [y] = 0 by simp [lexc, h]] at this

/-- slices.Compare, whatever two slices, nil and shared ones among them. -/
theorem compare29 (A B : Option Addr) (n m ca cb : Nat) (xs ys : List Int) (w : World) (ha : Nums .i64 w A n xs) (hb : Nums .i64 w B m ys) (hn : n ≤ 1000000) (hm : m ≤ 1000000) :
    Calls Tryd.prog 29 #[.slice A n ca, .slice B m cb] w fun e w' => e = .returned (.int .i64 (lexc xs ys)) ∧ w = w' := by
  have HA := Lib.hid ha.1
  have HB := Lib.hid hb.1
  go_enter Tryd.func29, Tryd.ntmps29
  go_wp2
  go_loop [11] (fun i => ∃ k : Nat, k ≤ n ∧ k ≤ m ∧ i = .int .i64 k ∧ lexc xs ys = lexc (xs.drop k) (ys.drop k)) (fun i => n - (intOf i).toNat)
  case atStart => exact ⟨0, Nat.zero_le _, Nat.zero_le _, rfl, rfl⟩
  case round =>
    obtain ⟨k, hkn, hkm, rfl, hr0⟩ := hrel
    have hr := Lib.hid hr0
    clear hr0
    by_cases hlt : k < n
    · obtain ⟨b, off, rfl, _, hc⟩ := ha.2 (by omega)
      have hcx := hc k hlt
      clear hc
      by_cases hlm : k < m
      · obtain ⟨b', off', rfl, _, hc'⟩ := hb.2 (by omega)
        have hcy := hc' k hlm
        clear hc' ha hb
        obtain ⟨x, hx⟩ : ∃ x, xs.getD k 0 = x := ⟨_, rfl⟩
        obtain ⟨y, hy⟩ : ∃ y, ys.getD k 0 = y := ⟨_, rfl⟩
        rw [hx] at hcx
        rw [hy] at hcy
        have HX := Lib.hid hx
        have HY := Lib.hid hy
        clear hx hy
        rcases Int.lt_trichotomy x y with h | h | h
        · go_wp2_with (go_at_call 32; refine (cmp32_lt _ h).mono ?_; rintro e w' ⟨rfl, rfl⟩)
          go_ret
          exact ⟨ret_int (lexc_lt xs ys k (by have := HA.out; omega) (by have := HB.out; omega) hr.out (by rw [HX.out, HY.out]; exact h)).symm, rfl⟩
        · have H := Lib.hid h
          clear h
          go_wp2_with (go_at_call 32; refine (cmp32_eq _ H.out).mono ?_; rintro e w' ⟨rfl, rfl⟩)
          go_round
          case rel => exact ⟨k + 1, by omega, by omega, by go_num, lexc_on xs ys k (by have := HA.out; omega) (by have := HB.out; omega) hr.out (by rw [HX.out, HY.out]; exact H.out)⟩
          case measure => simp [intOf]; omega
        · go_wp2_with (go_at_call 32; refine (cmp32_gt _ h).mono ?_; rintro e w' ⟨rfl, rfl⟩)
          go_ret
          exact ⟨ret_int (lexc_gt xs ys k (by have := HA.out; omega) (by have := HB.out; omega) hr.out (by rw [HX.out, HY.out]; exact h)).symm, rfl⟩
      · clear ha hb
        go_wp2
        go_ret
        exact ⟨ret_int (lexc_end_gt xs ys k (by have := HA.out; omega) (by have := HB.out; omega) hr.out).symm, rfl⟩
    · clear ha hb
      by_cases hlm : n < m
      · go_wp2
        go_ret
        exact ⟨ret_int (lexc_end_lt xs ys k (by have := HA.out; omega) (by have := HB.out; omega) hr.out).symm, rfl⟩
      · go_wp2
        go_ret
        exact ⟨ret_int (lexc_end xs ys k (by have := HA.out; omega) (by have := HB.out; omega) hr.out).symm, rfl⟩

theorem compare16 (A B : Option Addr) (n m ca cb : Nat) (xs ys : List Int) (w : World) (ha : Nums .i64 w A n xs) (hb : Nums .i64 w B m ys) (hn : n ≤ 1000000) (hm : m ≤ 1000000) :
    Calls Tryd.prog 16 #[.slice A n ca, .slice B m cb] w fun e w' => e = .returned (.int .i64 (lexc xs ys)) ∧ w = w' := by
  have c := compare29 A B n m ca cb xs ys w ha hb hn hm
  clear ha hb
  go_enter Tryd.func16, Tryd.ntmps16
  go_wp2_with (go_at_call 29; refine c.mono ?_; rintro e w' ⟨rfl, rfl⟩)
  go_ret
  exact ⟨rfl, rfl⟩
end Go.Proofs.YtijokbgpbpfclaaDoor
