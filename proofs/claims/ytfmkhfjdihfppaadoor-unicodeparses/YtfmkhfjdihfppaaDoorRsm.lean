/- The document's own capitals, number and named, at any text. -/
import Derived.Test.YtfmkhfjdihfppaaDoorRlines
namespace Go.Proofs.YtfmkhfjdihfppaaDoor
open Go.RowKit

/-- A text of capital letters. -/
def caps (l : List UInt8) : Bool := l.all fun b => decide (65 ≤ b.toNat ∧ b.toNat ≤ 90)
theorem caps_drop {l : List UInt8} {k : Nat} (hk : k < l.length) : caps (l.drop k) = (decide (65 ≤ oct l k ∧ oct l k ≤ 90) && caps (l.drop (k + 1))) := by
  unfold caps oct
  rw [List.drop_eq_getElem_cons hk, List.all_cons, List.getD_eq_getElem?_getD, List.getElem?_eq_getElem hk]
  congr 1
  simp only [Option.getD_some, decide_eq_decide]
  omega

set_option maxRecDepth 100000 in
set_option maxHeartbeats 1000000 in
theorem capitals41 (l : List UInt8) (w : World) (hl : l.length ≤ 1000000) : Calls Tryd.prog 41 #[.string (bs l)] w fun e w' => e = .returned (.bool (caps l)) ∧ w' = w := by
  have hsz := bs_size l
  obtain ⟨n, hn⟩ : ∃ n, l.length = n := ⟨_, rfl⟩
  rw [hn] at hl hsz
  have HN := Lib.hid hn
  clear hn
  go_enter Tryd.func41, Tryd.ntmps41
  go_wp2
  go_loop [3] (fun i => ∃ k : Nat, i = .int .i64 k ∧ k ≤ n ∧ caps l = caps (l.drop k)) (fun i => n - (intOf i).toNat)
  case atStart => exact ⟨0, rfl, Nat.zero_le _, rfl⟩
  case round =>
    obtain ⟨k, rfl, hkn, hv⟩ := hrel
    by_cases hlt : k < n
    · have hlt' : k < l.length := by rw [HN.out]; exact hlt
      have hx := bs_oct l k
      have hxr := oct_range l k
      rw [caps_drop hlt'] at hv
      obtain ⟨X, hX⟩ : ∃ X, oct l k = X := ⟨_, rfl⟩
      rw [hX] at hx hv hxr
      clear hX hlt'
      obtain ⟨hx0, hx1⟩ := hxr
      by_cases g1 : X < 65
      · rw [show decide (65 ≤ X ∧ X ≤ 90) = false from decide_eq_false (by omega), Bool.false_and] at hv
        have HV := Lib.hid hv
        clear hv
        go_wp2
        go_ret
        exact ⟨by rw [HV.out]; rfl, rfl⟩
      · by_cases g2 : 90 < X
        · rw [show decide (65 ≤ X ∧ X ≤ 90) = false from decide_eq_false (by omega), Bool.false_and] at hv
          have HV := Lib.hid hv
          clear hv
          go_wp2
          go_ret
          exact ⟨by rw [HV.out]; rfl, rfl⟩
        · rw [show decide (65 ≤ X ∧ X ≤ 90) = true from decide_eq_true (by omega), Bool.true_and] at hv
          have HV := Lib.hid hv
          clear hv
          go_wp2
          go_round
          case rel => exact ⟨k + 1, by go_num, by omega, HV.out⟩
          case measure => simp [intOf]; omega
    · have hke : k = n := by omega
      subst hke
      rw [List.drop_of_length_le (by rw [HN.out]; exact Nat.le_refl _)] at hv
      have HV := Lib.hid hv
      clear hv
      go_wp2
      go_ret
      exact ⟨by rw [HV.out]; rfl, rfl⟩

/-- Decimal digits, read. -/
def decv (a : Nat) : List UInt8 → Option Nat
  | [] => some a
  | b :: t => if 48 ≤ b.toNat ∧ b.toNat ≤ 57 then decv (a * 10 + (b.toNat - 48)) t else none
theorem decv_drop {l : List UInt8} {k a : Nat} (hk : k < l.length) : decv a (l.drop k) = if 48 ≤ oct l k ∧ oct l k ≤ 57 then decv (a * 10 + (oct l k - 48).toNat) (l.drop (k + 1)) else none := by
  unfold oct
  rw [List.drop_eq_getElem_cons hk, List.getD_eq_getElem?_getD, List.getElem?_eq_getElem hk, Option.getD_some, decv]
  by_cases h : 48 ≤ (l[k]).toNat ∧ (l[k]).toNat ≤ 57
  · rw [if_pos h, if_pos (by omega), show ((l[k].toNat : Int) - 48).toNat = l[k].toNat - 48 by omega]
  · rw [if_neg h, if_neg (by omega)]
/-- A combining class: 0 to 254, or -1. -/
def cccOf (l : List UInt8) : Int :=
  if l.length < 1 ∨ 3 < l.length ∨ (1 < l.length ∧ oct l 0 = 48) then -1 else
    match decv 0 l with
    | none => -1
    | some a => if 254 < a then -1 else a
theorem ccc_out {l : List UInt8} (h : l.length < 1 ∨ 3 < l.length ∨ (1 < l.length ∧ oct l 0 = 48)) : cccOf l = -1 := by unfold cccOf; rw [if_pos h]
theorem ccc_none {l : List UInt8} (h : decv 0 l = none) : cccOf l = -1 := by unfold cccOf; rw [h]; split <;> rfl
theorem ccc_big {l : List UInt8} {a : Nat} (h : decv 0 l = some a) (hb : 254 < a) : cccOf l = -1 := by
  unfold cccOf; rw [h]; simp only [if_pos hb]; split <;> rfl
theorem ccc_yes {l : List UInt8} (a : Nat) (h0 : ¬ (l.length < 1 ∨ 3 < l.length ∨ (1 < l.length ∧ oct l 0 = 48))) (h : decv 0 l = some a) (hb : ¬ 254 < a) : cccOf l = a := by
  unfold cccOf; rw [h, if_neg h0]; simp only [if_neg hb]

set_option maxRecDepth 100000 in
set_option maxHeartbeats 2000000 in
theorem number40 (l : List UInt8) (w : World) (hl : l.length ≤ 1000000) : Calls Tryd.prog 40 #[.string (bs l)] w fun e w' => e = .returned (.int .i64 (cccOf l)) ∧ w' = w := by
  have hsz := bs_size l
  have HY := Lib.hid (@ccc_yes l)
  have HO := Lib.hid (@ccc_out l)
  obtain ⟨n, hn⟩ : ∃ n, l.length = n := ⟨_, rfl⟩
  rw [hn] at hsz hl HY HO
  have HN := Lib.hid hn
  clear hn
  have hz := bs_oct l 0
  have hzr := oct_range l 0
  obtain ⟨Z, hZ⟩ : ∃ Z, oct l 0 = Z := ⟨_, rfl⟩
  rw [hZ] at hz hzr HY HO
  clear hZ
  obtain ⟨hz0, hz1⟩ := hzr
  by_cases h1 : n < 1
  · have HP := Lib.hid (HO.out (Or.inl h1))
    clear HO HY hz
    go_enter Tryd.func40, Tryd.ntmps40
    go_wp2
    go_ret
    exact ⟨by rw [HP.out]; rfl, rfl⟩
  by_cases h3 : 3 < n
  · have HP := Lib.hid (HO.out (Or.inr (Or.inl h3)))
    have h1' : 1 ≤ n := by omega
    clear HO HY hz h1
    go_enter Tryd.func40, Tryd.ntmps40
    go_wp2
    go_ret
    exact ⟨by rw [HP.out]; rfl, rfl⟩
  have h1' : 1 ≤ n := by omega
  have h3' : n ≤ 3 := by omega
  by_cases h0 : 1 < n ∧ Z = 48
  · have HP := Lib.hid (HO.out (Or.inr (Or.inr h0)))
    obtain ⟨h0, rfl⟩ := h0
    clear HO HY h1 h3
    go_enter Tryd.func40, Tryd.ntmps40
    go_wp2
    go_ret
    exact ⟨by rw [HP.out]; rfl, rfl⟩
  have HW := Lib.hid (show ∀ a, decv 0 l = some a → ¬ 254 < a → cccOf l = a from fun a h hb => HY.out a (by rintro (h | h | h); exact h1 h; exact h3 h; exact h0 h) h hb)
  clear HO HY h1 h3 hl
  rcases (show n ≤ 1 ∨ (1 < n ∧ ¬ Z = 48) by omega) with hone | ⟨hone, hne⟩
  all_goals
    first
    | have hb : (Z == 48) = false := beq_false_of_ne hne
    | skip
    clear h0
    go_enter Tryd.func40, Tryd.ntmps40
    go_wp2
    clear hz
    go_loop [3, 4] (fun c i => ∃ (k a : Nat), c = .int .i64 a ∧ i = .int .i64 k ∧ k ≤ n ∧ a < 10 ^ k ∧ decv 0 l = decv a (l.drop k)) (fun _ i => n - (intOf i).toNat)
    case atStart => exact ⟨0, 0, rfl, rfl, Nat.zero_le _, by decide, rfl⟩
    case round =>
      obtain ⟨k, a, rfl, rfl, hkn, ha, hv⟩ := hrel
      have ha6 : a < 1000 := Nat.lt_of_lt_of_le ha (by have : (10 : Nat) ^ k ≤ 10 ^ 3 := Nat.pow_le_pow_right (by decide) (by omega); exact this)
      by_cases hlt : k < n
      · have hlt' : k < l.length := by rw [HN.out]; exact hlt
        have hx := bs_oct l k
        have hxr := oct_range l k
        rw [decv_drop hlt'] at hv
        obtain ⟨X, hX⟩ : ∃ X, oct l k = X := ⟨_, rfl⟩
        rw [hX] at hx hv hxr
        clear hX hlt'
        obtain ⟨hx0, hx1⟩ := hxr
        by_cases g1 : X < 48
        · rw [if_neg (by omega)] at hv
          have HV := Lib.hid (ccc_none hv)
          clear hv ha
          go_wp2
          go_ret
          exact ⟨by rw [HV.out]; rfl, rfl⟩
        by_cases g2 : 57 < X
        · rw [if_neg (by omega)] at hv
          have HV := Lib.hid (ccc_none hv)
          clear hv ha
          go_wp2
          go_ret
          exact ⟨by rw [HV.out]; rfl, rfl⟩
        rw [if_pos (by omega)] at hv
        have HV := Lib.hid hv
        have HA := Lib.hid ha
        clear hv ha
        go_wp2
        go_round
        case rel =>
          refine ⟨k + 1, a * 10 + (X - 48).toNat, val_int (by omega), by go_num, by omega, ?_, HV.out⟩
          have := HA.out
          rw [Nat.pow_succ]
          omega
        case measure => simp [intOf]; omega
      · have hke : k = n := by omega
        subst hke
        rw [List.drop_of_length_le (by rw [HN.out]; exact Nat.le_refl _)] at hv
        clear ha
        by_cases hbig : 254 < a
        · have HP := Lib.hid (ccc_big hv hbig)
          clear hv
          go_wp2
          go_ret
          exact ⟨by rw [HP.out]; rfl, rfl⟩
        · have HP := Lib.hid (HW.out a hv hbig)
          clear hv
          go_wp2
          go_ret
          exact ⟨by rw [HP.out]; rfl, rfl⟩

/-- Does a name begin with <, and end so? -/
def namedB (s e : List UInt8) : Bool := decide (1 ≤ s.length ∧ oct s 0 = 60 ∧ e.length ≤ s.length) && ((bs s).extract (s.length - e.length) s.length).toList == (bs e).toList
theorem named_iff (s e : List UInt8) : namedB s e = true ↔ 1 ≤ s.length ∧ oct s 0 = 60 ∧ e <:+ s := by
  unfold namedB
  rw [bs_ext, Lib.toList_data, Lib.toList_data, bs_data, bs_data, Bool.and_eq_true, decide_eq_true_iff, beq_iff_eq, List.take_of_length_le (by rw [List.length_drop]; omega), and_assoc, and_assoc]
  refine and_congr_right fun _ => and_congr_right fun _ => ⟨fun h => ?_, fun h => ⟨h.length_le, ?_⟩⟩
  · exact ⟨s.take (s.length - e.length), by have := List.take_append_drop (s.length - e.length) s; rwa [h.2] at this⟩
  · obtain ⟨t, rfl⟩ := h
    rw [List.length_append, Nat.add_sub_cancel, List.drop_left]

set_option maxRecDepth 100000 in
set_option maxHeartbeats 2000000 in
theorem named24 (s e : List UInt8) (w : World) (hl : s.length ≤ 1000000) (hm : e.length ≤ 1000000) : Calls Tryd.prog 23 #[.string (bs s), .string (bs e)] w fun r w' => r = .returned (.bool (namedB s e)) ∧ w' = w := by
  have hsz := bs_size s
  have hse := bs_size e
  have hz := bs_oct s 0
  have hzr := oct_range s 0
  obtain ⟨N, hN⟩ : ∃ N, namedB s e = N := ⟨_, rfl⟩
  rw [hN]
  unfold namedB at hN
  obtain ⟨n, hn⟩ : ∃ n, s.length = n := ⟨_, rfl⟩
  obtain ⟨m, hm'⟩ : ∃ m, e.length = m := ⟨_, rfl⟩
  obtain ⟨Z, hZ⟩ : ∃ Z, oct s 0 = Z := ⟨_, rfl⟩
  rw [hn] at hsz hl hN
  rw [hm'] at hse hm hN
  rw [hZ] at hz hzr hN
  clear hn hm' hZ
  revert hsz hse hz hN
  generalize bs s = S
  generalize bs e = E
  intro hsz hse hN hz
  obtain ⟨hz0, hz1⟩ := hzr
  by_cases h1 : n < 1
  · rw [show decide (1 ≤ n ∧ Z = 60 ∧ m ≤ n) = false from decide_eq_false (by omega), Bool.false_and] at hN
    subst hN
    clear hz
    go_enter Tryd.func23, Tryd.ntmps23
    go_wp2
    go_ret
    exact ⟨rfl, rfl⟩
  have h1' : 1 ≤ n := by omega
  by_cases h2 : Z = 60
  · by_cases h3 : m ≤ n
    · rw [show decide (1 ≤ n ∧ Z = 60 ∧ m ≤ n) = true from decide_eq_true (by omega), Bool.true_and] at hN
      subst h2
      cases N with
      | true =>
        clear h1
        go_enter Tryd.func23, Tryd.ntmps23
        go_wp2
        go_ret
        exact ⟨rfl, rfl⟩
      | false =>
        clear h1
        go_enter Tryd.func23, Tryd.ntmps23
        go_wp2
        go_ret
        exact ⟨rfl, rfl⟩
    · rw [show decide (1 ≤ n ∧ Z = 60 ∧ m ≤ n) = false from decide_eq_false (by omega), Bool.false_and] at hN
      subst hN h2
      have h3' : n < m := by omega
      clear h1 h3
      go_enter Tryd.func23, Tryd.ntmps23
      go_wp2
      go_ret
      exact ⟨rfl, rfl⟩
  · rw [show decide (1 ≤ n ∧ Z = 60 ∧ m ≤ n) = false from decide_eq_false (by omega), Bool.false_and] at hN
    subst hN
    have hb : (Z == 60) = false := beq_false_of_ne h2
    clear h1
    go_enter Tryd.func23, Tryd.ntmps23
    go_wp2
    go_ret
    exact ⟨rfl, rfl⟩
end Go.Proofs.YtfmkhfjdihfppaaDoor
