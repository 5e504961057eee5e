/- What the program's Point and Range hand back. -/
import Derived.Test.YtkcpnnfbhcklpaaGreatDoorHex
import Derived.Test.YtkcpnnfbhcklpaaGreatDoorShelf
import Derived.Test.YtkcpnnfbhcklpaaGreatDoorVals
import Derived.Test.YtkcpnnfbhcklpaaGreatDoorBits
import Derived.BigQuiet
namespace Go.Proofs.YtkcpnnfbhcklpaaGreatDoor
open Go.RowKit

set_option maxHeartbeats 1000000 in
theorem width27 (c : Nat) (w : World) : Calls Tryz.prog 51 #[.int .i64 c] w fun e w' => e = .returned (.int .i64 (wid c)) ∧ w = w' := by
  by_cases h : 1048575 < c
  · have e : wid c = 6 := by simp [wid, h]
    rw [e]
    clear e
    go_enter Tryz.func51, Tryz.ntmps51
    go_wp2
    go_ret
    exact ⟨rfl, rfl⟩
  · by_cases h' : 65535 < c
    · have e : wid c = 5 := by simp [wid, h, h']
      rw [e]
      clear e
      go_enter Tryz.func51, Tryz.ntmps51
      go_wp2
      go_ret
      exact ⟨rfl, rfl⟩
    · have e : wid c = 4 := by simp [wid, h, h']
      rw [e]
      clear e
      go_enter Tryz.func51, Tryz.ntmps51
      go_wp2
      go_ret
      exact ⟨rfl, rfl⟩
theorem idx28 (c : UInt8) (x : Int) (hx : (c.toNat : Int) = x) (w : World) : Calls Tryz.prog 52 #[.string ⟨#[48, 49, 50, 51, 52, 53, 54, 55, 56, 57, 65, 66, 67, 68, 69, 70]⟩, .int .u8 x] w fun e w' => e = .returned (.int .i64 (val c)) ∧ w = w' := by
  have h := Tryz.strings_IndexByte ⟨#[48, 49, 50, 51, 52, 53, 54, 55, 56, 57, 65, 66, 67, 68, 69, 70]⟩ x w
  refine h.mono ?_
  rintro e w' ⟨rfl, rfl⟩
  subst hx
  refine ⟨?_, rfl⟩
  simp [val, digs]

def ptVal : Option Nat → Value
  | some c => .tuple #[.int .i64 c, .int .i64 0]
  | none => .tuple #[.int .i64 0, .int .i64 13]

theorem hexv_drop {l : List UInt8} {k a : Nat} (hk : k < l.length) : hexv a (l.drop k) = if val (l.getD k 0) < 0 then none else hexv (a * 16 + (val (l.getD k 0)).toNat) (l.drop (k + 1)) := by
  rw [List.drop_eq_getElem_cons hk, hexv, List.getD_eq_getElem?_getD, List.getElem?_eq_getElem hk]
  rfl

set_option maxRecDepth 100000 in
set_option maxHeartbeats 1000000 in
theorem point11 (l : List UInt8) (w : World) (hl : l.length ≤ 1000000) : Calls Tryz.prog 32 #[.string (bs l)] w fun e w' => e = .returned (ptVal (point l)) ∧ w = w' := by
  have c27 : ∀ w, Calls Tryz.prog 51 #[.int .i64 1114111] w fun e w' => e = .returned (.int .i64 6) ∧ w = w' := fun w => width27 1114111 w
  have hsz := bs_size l
  obtain ⟨n, hn⟩ : ∃ n, l.length = n := ⟨_, rfl⟩
  rw [hn] at hl hsz
  have HN := Lib.hid hn
  clear hn
  by_cases hlong : 6 < n
  · have hp : point l = none := by
      unfold point
      cases hexv 0 l with
      | none => rfl
      | some c => simp; intro h; have := HN.out; omega
    rw [hp]
    clear hp
    go_enter Tryz.func32, Tryz.ntmps32
    go_wp2_with (go_at_call 51; (with_reducible refine (c27 _).mono ?_); rintro e w' ⟨rfl, rfl⟩)
    go_ret2
    exact ⟨rfl, rfl⟩
  · go_enter Tryz.func32, Tryz.ntmps32
    go_wp2_with (go_at_call 51; (with_reducible refine (c27 _).mono ?_); rintro e w' ⟨rfl, rfl⟩)
    clear c27
    go_loop [4, 13] (fun c i => ∃ (k a : Nat), c = .int .i64 a ∧ i = .int .i64 k ∧ k ≤ n ∧ a < 16 ^ k ∧ hexv 0 l = hexv a (l.drop k)) (fun _ i => n - (intOf i).toNat)
    case atStart => exact ⟨0, 0, rfl, rfl, Nat.zero_le _, by decide, rfl⟩
    case round =>
      obtain ⟨k, a, rfl, rfl, hkn, ha, hv⟩ := hrel
      have ha6 : a < 16777216 := Nat.lt_of_lt_of_le ha (by have : (16 : Nat) ^ k ≤ 16 ^ 6 := Nat.pow_le_pow_right (by decide) (by omega); exact this)
      by_cases hlt : k < n
      · have hlt' : k < l.length := by rw [HN.out]; exact hlt
        have hx := bs_oct l k
        have c28 := fun w => idx28 (l.getD k 0) (oct l k) rfl w
        rw [hexv_drop hlt'] at hv
        have hr := val_range (l.getD k 0)
        obtain ⟨V, hV⟩ : ∃ V, val (l.getD k 0) = V := ⟨_, rfl⟩
        rw [hV] at hv hr
        simp only [hV] at c28
        obtain ⟨X, hX⟩ : ∃ X, oct l k = X := ⟨_, rfl⟩
        rw [hX] at hx
        simp only [hX] at c28
        have HV := Lib.hid hv
        have HA := Lib.hid ha
        clear hV hX hv ha hlt'
        by_cases hneg : V < 0
        · have hp : Hid (point l = none) := by
            unfold point
            rw [HV.out, if_pos hneg]
            exact Lib.hid rfl
          go_wp2_with (go_at_call 52; (with_reducible refine (c28 _).mono ?_); rintro e w' ⟨rfl, rfl⟩)
          go_ret2
          exact ⟨by rw [hp.out]; rfl, rfl⟩
        · obtain ⟨v, rfl⟩ : ∃ v : Nat, V = v := ⟨V.toNat, by omega⟩
          go_wp2_with (go_at_call 52; (with_reducible refine (c28 _).mono ?_); rintro e w' ⟨rfl, rfl⟩)
          go_round
          case rel =>
            refine ⟨k + 1, a * 16 + v, by rw [or16 a v ha6 (by omega)], by go_num, by omega, ?_, ?_⟩
            · have := HA.out
              rw [Nat.pow_succ]
              omega
            · rw [HV.out, if_neg (by omega)]
              rfl
          case measure => simp [intOf]; omega
      · have hke : k = n := by omega
        subst hke
        rw [List.drop_of_length_le (by rw [HN.out]; exact Nat.le_refl _)] at hv
        have HV := Lib.hid hv
        clear hv ha
        by_cases hbig : 1114111 < a
        · have hp : Hid (point l = none) := by
            unfold point
            rw [HV.out]
            simp [hexv]
            intro _ h
            omega
          go_wp2
          go_ret2
          exact ⟨by rw [hp.out]; rfl, rfl⟩
        · have c27 := fun w => width27 a w
          obtain ⟨d, hd⟩ : ∃ d, wid a = d := ⟨_, rfl⟩
          simp only [hd] at c27
          have HD := Lib.hid hd
          have hd6 := (wid_range a).2
          rw [hd] at hd6
          clear hd
          by_cases heq : k = d
          · have hp0 : point l = some a := by
              unfold point
              rw [HV.out, hexv, Option.bind_some, if_pos ⟨by rw [HN.out]; omega, by omega, by rw [HN.out, HD.out]; exact heq⟩]
            have hp := Lib.hid hp0
            clear hp0
            subst heq
            go_wp2_with (go_at_call 51; (with_reducible refine (c27 _).mono ?_); rintro e w' ⟨rfl, rfl⟩)
            go_ret2
            exact ⟨by rw [hp.out]; rfl, rfl⟩
          · have hp0 : point l = none := by
              unfold point
              rw [HV.out, hexv, Option.bind_some, if_neg (by rw [HN.out, HD.out]; rintro ⟨_, _, h⟩; exact heq h)]
            have hp := Lib.hid hp0
            clear hp0
            have hne : ((k : Int) == (d : Int)) = false := beq_false_of_ne (by omega)
            have hne2 : ((k : Int) != (d : Int)) = true := by simp [bne, hne]
            go_wp2_with (go_at_call 51; (with_reducible refine (c27 _).mono ?_); rintro e w' ⟨rfl, rfl⟩)
            go_ret2
            exact ⟨by rw [hp.out]; rfl, rfl⟩

/-- What Range hands back. -/
def rgVal (r : Int × Int × Int) : Value := .tuple #[.int .i64 r.1, .int .i64 r.2.1, .int .i64 r.2.2]
theorem cut_fst (l : List UInt8) : (Lib.cut l [46, 46]).1.length ≤ l.length ∧ (Lib.cut l [46, 46]).2.1.length ≤ l.length := by
  unfold Lib.cut
  split
  · simp
    omega
  · simp

end Go.Proofs.YtkcpnnfbhcklpaaGreatDoor
