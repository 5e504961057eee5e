/- What the document's own Point hands back. -/
import Derived.Test.YtkcpnnfbhcklpaaGreatDoorHexr
import Derived.Test.YtkcpnnfbhcklpaaGreatDoorSame
namespace Go.Proofs.YtkcpnnfbhcklpaaGreatDoor
open Go.RowKit

/-- A code point, or -1. -/
def ptI : Option Nat → Int
  | some c => c
  | none => -1
theorem point_out {l : List UInt8} (h : l.length < 4 ∨ 6 < l.length) : point l = none := by
  unfold point
  cases hexv 0 l with
  | none => rfl
  | some c =>
    have := wid_range c
    rw [Option.bind_some, if_neg (by omega)]
theorem point_big {l : List UInt8} {a : Nat} (h : hexv 0 l = some a) (hb : 1114111 < a) : point l = none := by
  unfold point
  rw [h, Option.bind_some, if_neg (by omega)]
theorem point_yes {l : List UInt8} {a : Nat} (hb : ¬ 1114111 < a) (he : hexT a = l) : point l = some a := by
  have := point_hexT a (by omega)
  rwa [he] at this
theorem point_no {l : List UInt8} {a : Nat} (h : hexv 0 l = some a) (he : ¬ hexT a = l) : point l = none := by
  unfold point
  rw [h, Option.bind_some, if_neg ?_]
  rintro ⟨_, _, h2⟩
  exact he ((hexT_iff h).2 h2)

set_option maxRecDepth 100000 in
set_option maxHeartbeats 1000000 in
theorem point12 (l : List UInt8) (w : World) (hl : l.length ≤ 1000000) : Calls Tryz.prog 21 #[.string (bs l)] w fun e w' => e = .returned (.int .i64 (ptI (point l))) ∧ Below w.heap.size w w' := by
  have hsz := bs_size l
  obtain ⟨n, hn⟩ : ∃ n, l.length = n := ⟨_, rfl⟩
  rw [hn] at hl hsz
  have HN := Lib.hid hn
  clear hn
  by_cases hout : n < 4 ∨ 6 < n
  · rw [point_out (by rw [HN.out]; exact hout)]
    rcases hout with h | h
    · go_enter Tryz.func21, Tryz.ntmps21
      go_wp2
      go_ret
      exact ⟨rfl, Below.refl _ _⟩
    · have h4 : ¬ n < 4 := by omega
      go_enter Tryz.func21, Tryz.ntmps21
      go_wp2
      go_ret
      exact ⟨rfl, Below.refl _ _⟩
  · have h4 : 4 ≤ n := by omega
    have h6 : n ≤ 6 := by omega
    clear hout hl
    go_enter Tryz.func21, Tryz.ntmps21
    go_wp2
    go_loop [3, 4] (fun c i => ∃ (k a : Nat), c = .int .i64 a ∧ i = .int .i64 k ∧ k ≤ n ∧ a < 16 ^ k ∧ hexv 0 l = hexv a (l.drop k)) (fun _ i => n - (intOf i).toNat)
    case atStart => exact ⟨0, 0, rfl, rfl, Nat.zero_le _, by decide, rfl⟩
    case round =>
      obtain ⟨k, a, rfl, rfl, hkn, ha, hv⟩ := hrel
      have ha6 : a < 16777216 := Nat.lt_of_lt_of_le ha (by have : (16 : Nat) ^ k ≤ 16 ^ 6 := Nat.pow_le_pow_right (by decide) (by omega); exact this)
      by_cases hlt : k < n
      · have hlt' : k < l.length := by rw [HN.out]; exact hlt
        have hx := bs_oct l k
        have hxr := oct_range l k
        rw [hexv_drop hlt'] at hv
        have hval : val (l.getD k 0) = (if 48 ≤ oct l k ∧ oct l k ≤ 57 then oct l k - 48 else if 65 ≤ oct l k ∧ oct l k ≤ 70 then oct l k - 55 else -1) := by
          rw [val_eq]
          unfold oct
          split <;> split <;> (try split) <;> (try split) <;> omega
        rw [hval] at hv
        obtain ⟨X, hX⟩ : ∃ X, oct l k = X := ⟨_, rfl⟩
        rw [hX] at hx hv hxr
        clear hX hval hlt'
        obtain ⟨hx0, hx1⟩ := hxr
        by_cases g1 : 48 ≤ X ∧ X ≤ 57
        · rw [if_pos g1, if_neg (by omega)] at hv
          obtain ⟨g1, g2⟩ := g1
          have HV := Lib.hid hv
          have HA := Lib.hid ha
          clear hv ha
          go_wp2
          go_round
          case rel =>
            refine ⟨k + 1, a * 16 + (X - 48).toNat, val_int (by omega), by go_num, by omega, ?_, HV.out⟩
            have := HA.out
            rw [Nat.pow_succ]
            omega
          case measure => simp [intOf]; omega
        · rw [if_neg g1] at hv
          by_cases g3 : 65 ≤ X ∧ X ≤ 70
          · rw [if_pos g3, if_neg (by omega)] at hv
            obtain ⟨g3, g4⟩ := g3
            have g5 : ¬ X ≤ 57 := by omega
            have HV := Lib.hid hv
            have HA := Lib.hid ha
            clear hv ha g1
            go_wp2
            go_round
            case rel =>
              refine ⟨k + 1, a * 16 + (X - 55).toNat, val_int (by omega), by go_num, by omega, ?_, HV.out⟩
              have := HA.out
              rw [Nat.pow_succ]
              omega
            case measure => simp [intOf]; omega
          · rw [if_neg g3, if_pos (by omega)] at hv
            have hp0 : point l = none := by
              unfold point
              rw [hv]
              rfl
            have HP := Lib.hid hp0
            clear hv ha hp0
            rcases (show X < 48 ∨ (57 < X ∧ X < 65) ∨ 70 < X by omega) with g | ⟨g, g'⟩ | g
            all_goals
              clear g1 g3
              go_wp2
              go_ret
              exact ⟨by rw [HP.out]; rfl, Below.refl _ _⟩
      · have hke : k = n := by omega
        subst hke
        rw [List.drop_of_length_le (by rw [HN.out]; exact Nat.le_refl _)] at hv
        clear ha
        by_cases hbig : 1114111 < a
        · have HP := Lib.hid (point_big hv hbig)
          clear hv
          go_wp2
          go_ret
          exact ⟨by rw [HP.out]; rfl, Below.refl _ _⟩
        · have c29 := hex29 a w (by omega)
          by_cases heq : hexT a = l
          · have HP := Lib.hid (point_yes hbig heq)
            rw [heq] at c29
            obtain ⟨S, hS⟩ : ∃ S, bs l = S := ⟨_, rfl⟩
            rw [hS] at c29 hsz ⊢
            clear hv heq hS
            go_wp2_with (go_at_call 38; (with_reducible refine c29.mono ?_); rintro e w' ⟨rfl, hb⟩)
            go_ret
            exact ⟨by rw [HP.out]; rfl, hb⟩
          · have HP := Lib.hid (point_no hv heq)
            have hne : ¬ (bs (hexT a)).toList = (bs l).toList := by rw [bs_toList', bs_toList']; exact heq
            have hneb : ((bs (hexT a)).toList == (bs l).toList) = false := beq_false_of_ne hne
            obtain ⟨S, hS⟩ : ∃ S, bs l = S := ⟨_, rfl⟩
            obtain ⟨T, hT⟩ : ∃ T, bs (hexT a) = T := ⟨_, rfl⟩
            rw [hT] at c29 hne hneb
            rw [hS] at hne hneb hsz ⊢
            clear hv heq hS hT
            go_wp2_with (go_at_call 38; (with_reducible refine c29.mono ?_); rintro e w' ⟨rfl, hb⟩)
            go_ret
            exact ⟨by rw [HP.out]; rfl, hb⟩
end Go.Proofs.YtkcpnnfbhcklpaaGreatDoor
