/- What the document's own Trim, Cut and Same hand back. -/
import Derived.Test.YtkcpnnfbhcklpaaGreatDoorProg
import Derived.Test.YtkcpnnfbhcklpaaGreatDoorWords
import Derived.BigQuiet
namespace Go.Proofs.YtkcpnnfbhcklpaaGreatDoor
open Go.RowKit

theorem front (x : UInt8) (m : List UInt8) : (bs (x :: m)).size = m.length + 1 ∧ (∀ h, (((bs (x :: m))[0]'h).toNat : Int) = x.toNat) ∧ (bs (x :: m)).extract 1 (m.length + 1) = bs m := by
  refine ⟨by rw [bs_size]; rfl, fun h => by rw [bs_get]; rfl, ?_⟩
  rw [bs_ext]
  simp
theorem back (x : UInt8) (m : List UInt8) : (bs (m ++ [x])).size = m.length + 1 ∧ (∀ h, (((bs (m ++ [x]))[m.length]'h).toNat : Int) = x.toNat) ∧ (bs (m ++ [x])).extract 0 m.length = bs m := by
  refine ⟨by rw [bs_size]; simp, fun h => by rw [bs_get]; simp, ?_⟩
  rw [bs_ext]
  simp
theorem sp_pos {x : UInt8} (h : sp x = true) : (x.toNat : Int) = 32 ∨ (x.toNat : Int) = 9 := by
  simp [sp] at h
  rcases h with rfl | rfl
  · left; rfl
  · right; rfl
theorem sp_neg {x : UInt8} (h : sp x = false) : ((x.toNat : Int) == 32) = false ∧ ((x.toNat : Int) == 9) = false := by
  simp [sp] at h
  refine ⟨beq_false_of_ne fun e => h.1 ?_, beq_false_of_ne fun e => h.2 ?_⟩
  · exact (u8_int x 32).1 e
  · exact (u8_int x 9).1 e

set_option maxHeartbeats 1000000 in
theorem trim21 (l : List UInt8) (w : World) (hl : l.length ≤ 1000000) :
    Calls Tryz.prog 37 #[.string (bs l)] w fun e w' => e = .returned (.string (bs (trim l))) ∧ w = w' := by
  go_enter Tryz.func37, Tryz.ntmps37
  go_wp2
  go_loop [0] (fun v => ∃ m, v = .string (bs m) ∧ ltrim m = ltrim l ∧ m.length ≤ l.length) (fun v => Lib.strSize v)
  case atStart => exact ⟨l, rfl, rfl, Nat.le_refl _⟩
  case round =>
    obtain ⟨m, rfl, hm, hml⟩ := hrel
    have HM := Lib.hid hm
    clear hm
    have step : (∃ x m', m = x :: m' ∧ sp x = true) ∨ (ltrim m = m ∧ ((bs m).size = 0 ∨ ∃ n, (bs m).size = n + 1 ∧ ∃ X : Int, (∀ h, (((bs m)[0]'h).toNat : Int) = X) ∧ (X == 32) = false ∧ (X == 9) = false)) := by
      rcases m with - | ⟨x, m⟩
      · exact .inr ⟨rfl, .inl rfl⟩
      · cases hs : sp x with
        | true => exact .inl ⟨x, m, rfl, hs⟩
        | false => exact .inr ⟨ltrim_cons_neg hs, .inr ⟨m.length, (front x m).1, _, (front x m).2.1, sp_neg hs⟩⟩
    rcases step with ⟨x, m, rfl, hs⟩ | ⟨hfix, hstop⟩
    · obtain ⟨h1, h2, h3⟩ := front x m
      simp only [List.length_cons] at hml
      have HM2 : Hid (ltrim m = ltrim l) := by rw [← HM.out, ltrim_cons_pos hs]; rfl
      obtain ⟨t, ht⟩ : ∃ t, bs (x :: m) = t := ⟨_, rfl⟩
      rw [ht] at h1 h2 h3 ⊢
      have hst : Lib.strSize (.string t) = m.length + 1 := by rw [Lib.strSize_string, h1]
      clear ht HM
      rcases sp_pos hs with hx | hx
      all_goals
        rw [hx] at h2
        clear hx hs
        go_wp2
        go_round
        case rel => exact ⟨m, rfl, HM2.out, by omega⟩
        case measure => rw [hst, Lib.strSize_string, bs_size]; omega
    · have HT : Hid (rtrim m = trim l) := by unfold trim; rw [← HM.out, hfix]; rfl
      have HT0 : Hid (∃ m2, (Value.string (bs m)) = .string (bs m2) ∧ rtrim m2 = trim l ∧ m2.length ≤ l.length) := ⟨m, rfl, HT.out, hml⟩
      clear HM hfix HT
      obtain ⟨t, ht⟩ : ∃ t, bs m = t := ⟨_, rfl⟩
      rw [ht] at hstop HT0 ⊢
      clear ht
      rcases hstop with h0 | ⟨n, h0, X, hX, hX1, hX2⟩
      all_goals
        go_wp2
        clear h0
        try clear hX hX1 hX2
        go_loop [0] (fun v => ∃ m2, v = .string (bs m2) ∧ rtrim m2 = trim l ∧ m2.length ≤ l.length) (fun v => Lib.strSize v)
        case atStart => exact HT0.out
        case round =>
          clear HT0
          obtain ⟨m2, rfl, hm2, hm2l⟩ := hrel
          have HM2 := Lib.hid hm2
          clear hm2
          have step2 : (∃ x m', m2 = m' ++ [x] ∧ sp x = true) ∨ (rtrim m2 = m2 ∧ ((bs m2).size = 0 ∨ ∃ n, (bs m2).size = n + 1 ∧ n < 1000000 ∧ ∃ X : Int, (∀ h, (((bs m2)[n]'h).toNat : Int) = X) ∧ (X == 32) = false ∧ (X == 9) = false)) := by
            rcases List.eq_nil_or_concat m2 with rfl | ⟨m', x, rfl⟩
            · exact .inr ⟨rfl, .inl rfl⟩
            · rw [List.concat_eq_append] at hm2l ⊢
              cases hs : sp x with
              | true => exact .inl ⟨x, m', rfl, hs⟩
              | false => exact .inr ⟨rtrim_snoc_neg hs, .inr ⟨m'.length, (back x m').1, by simp at hm2l; omega, _, (back x m').2.1, sp_neg hs⟩⟩
          rcases step2 with ⟨x, m', rfl, hs⟩ | ⟨hfix, hstop⟩
          · obtain ⟨h1, h2, h3⟩ := back x m'
            simp only [List.length_append, List.length_cons, List.length_nil] at hm2l
            have HM3 : Hid (rtrim m' = trim l) := by rw [← HM2.out, rtrim_snoc_pos hs]; rfl
            obtain ⟨t2, ht⟩ : ∃ t, bs (m' ++ [x]) = t := ⟨_, rfl⟩
            rw [ht] at h1 h2 h3 ⊢
            have hst : Lib.strSize (.string t2) = m'.length + 1 := by rw [Lib.strSize_string, h1]
            clear ht HM2
            obtain ⟨N, hN⟩ : ∃ N, m'.length = N := ⟨_, rfl⟩
            rw [hN] at h1 h2 h3 hst hm2l
            have HN := Lib.hid hN
            clear hN
            rcases sp_pos hs with hx | hx
            all_goals
              rw [hx] at h2
              clear hx hs
              go_wp2
              go_round
              case rel => exact ⟨m', rfl, HM3.out, by rw [HN.out]; omega⟩
              case measure => rw [hst, Lib.strSize_string, bs_size, HN.out]; omega
          · have HR : Hid (bs m2 = bs (trim l)) := by rw [← HM2.out, hfix]; rfl
            clear HM2 hfix
            obtain ⟨t2, ht⟩ : ∃ t, bs m2 = t := ⟨_, rfl⟩
            rw [ht] at hstop HR ⊢
            clear ht
            rcases hstop with h0 | ⟨n, h0, hn, X, hX, hX1, hX2⟩
            all_goals
              go_wp2
              go_ret
              exact ⟨ret_str HR.out, rfl⟩
end Go.Proofs.YtkcpnnfbhcklpaaGreatDoor
