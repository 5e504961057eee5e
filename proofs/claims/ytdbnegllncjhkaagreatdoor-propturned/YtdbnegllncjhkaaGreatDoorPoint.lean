/- What the program's Point and Range hand back. -/
import Derived.Test.YtdbnegllncjhkaaGreatDoorHex
import Derived.Test.YtdbnegllncjhkaaGreatDoorShelf
import Derived.Test.YtdbnegllncjhkaaGreatDoorWords
import Derived.BigQuiet
namespace Go.Proofs.YtdbnegllncjhkaaGreatDoor
open Go.RowKit

set_option maxHeartbeats 1000000 in
theorem width27 (c : Nat) (w : World) : Calls Tryz.prog 101 #[.int .i64 c] w fun e w' => e = .returned (.int .i64 (wid c)) ∧ w = w' := by
  by_cases h : 1048575 < c
  · have e : wid c = 6 := by simp [wid, h]
    rw [e]
    clear e
    go_enter Tryz.func101, Tryz.ntmps101
    go_wp2
    go_ret
    exact ⟨rfl, rfl⟩
  · by_cases h' : 65535 < c
    · have e : wid c = 5 := by simp [wid, h, h']
      rw [e]
      clear e
      go_enter Tryz.func101, Tryz.ntmps101
      go_wp2
      go_ret
      exact ⟨rfl, rfl⟩
    · have e : wid c = 4 := by simp [wid, h, h']
      rw [e]
      clear e
      go_enter Tryz.func101, Tryz.ntmps101
      go_wp2
      go_ret
      exact ⟨rfl, rfl⟩
theorem idx28 (c : UInt8) (x : Int) (hx : (c.toNat : Int) = x) (w : World) : Calls Tryz.prog 102 #[.string ⟨#[48, 49, 50, 51, 52, 53, 54, 55, 56, 57, 65, 66, 67, 68, 69, 70]⟩, .int .u8 x] w fun e w' => e = .returned (.int .i64 (val c)) ∧ w = w' := by
  have h := Tryz.strings_IndexByte ⟨#[48, 49, 50, 51, 52, 53, 54, 55, 56, 57, 65, 66, 67, 68, 69, 70]⟩ x w
  refine h.mono ?_
  rintro e w' ⟨rfl, rfl⟩
  subst hx
  refine ⟨?_, rfl⟩
  simp [val, digs]

def ptVal : Option Nat → Value
  | some c => .tuple #[.int .i64 c, .int .i64 0]
  | none => .tuple #[.int .i64 0, .int .i64 13]

theorem hexv_drop {l : List UInt8} {k a : Nat} (hk : k < l.length) : hexv a (l.drop k) = if val (l.getD k 0) < 0 then none else hexv (a * 16 + (val (l.getD k 0)).toNat) (l.drop (k + 1)) := by
  rw [List.drop_eq_getElem_cons hk, hexv, List.getD_eq_getElem?_getD, List.getElem?_eq_getElem hk]
  rfl

set_option maxRecDepth 100000 in
set_option maxHeartbeats 1000000 in
theorem point11 (l : List UInt8) (w : World) (hl : l.length ≤ 1000000) : Calls Tryz.prog 74 #[.string (bs l)] w fun e w' => e = .returned (ptVal (point l)) ∧ w = w' := by
  have c27 : ∀ w, Calls Tryz.prog 101 #[.int .i64 1114111] w fun e w' => e = .returned (.int .i64 6) ∧ w = w' := fun w => width27 1114111 w
  have hsz := bs_size l
  obtain ⟨n, hn⟩ : ∃ n, l.length = n := ⟨_, rfl⟩
  rw [hn] at hl hsz
  have HN := Lib.hid hn
  clear hn
  by_cases hlong : 6 < n
  · have hp : point l = none := by
      unfold point
      cases hexv 0 l with
      | none => rfl
      | some c => simp; intro h; have := HN.out; omega
    rw [hp]
    clear hp
    go_enter Tryz.func74, Tryz.ntmps74
    go_wp2_with (go_at_call 101; (with_reducible refine (c27 _).mono ?_); rintro e w' ⟨rfl, rfl⟩)
    go_ret2
    exact ⟨rfl, rfl⟩
  · go_enter Tryz.func74, Tryz.ntmps74
    go_wp2_with (go_at_call 101; (with_reducible refine (c27 _).mono ?_); rintro e w' ⟨rfl, rfl⟩)
    clear c27
    go_loop [4, 13] (fun c i => ∃ (k a : Nat), c = .int .i64 a ∧ i = .int .i64 k ∧ k ≤ n ∧ a < 16 ^ k ∧ hexv 0 l = hexv a (l.drop k)) (fun _ i => n - (intOf i).toNat)
    case atStart => exact ⟨0, 0, rfl, rfl, Nat.zero_le _, by decide, rfl⟩
    case round =>
      obtain ⟨k, a, rfl, rfl, hkn, ha, hv⟩ := hrel
      have ha6 : a < 16777216 := Nat.lt_of_lt_of_le ha (by have : (16 : Nat) ^ k ≤ 16 ^ 6 := Nat.pow_le_pow_right (by decide) (by omega); exact this)
      by_cases hlt : k < n
      · have hlt' : k < l.length := by rw [HN.out]; exact hlt
        have hx := bs_oct l k
        have c28 := fun w => idx28 (l.getD k 0) (oct l k) rfl w
        rw [hexv_drop hlt'] at hv
        have hr := val_range (l.getD k 0)
        obtain ⟨V, hV⟩ : ∃ V, val (l.getD k 0) = V := ⟨_, rfl⟩
        rw [hV] at hv hr
        simp only [hV] at c28
        obtain ⟨X, hX⟩ : ∃ X, oct l k = X := ⟨_, rfl⟩
        rw [hX] at hx
        simp only [hX] at c28
        have HV := Lib.hid hv
        have HA := Lib.hid ha
        clear hV hX hv ha hlt'
        by_cases hneg : V < 0
        · have hp : Hid (point l = none) := by
            unfold point
            rw [HV.out, if_pos hneg]
            exact Lib.hid rfl
          go_wp2_with (go_at_call 102; (with_reducible refine (c28 _).mono ?_); rintro e w' ⟨rfl, rfl⟩)
          go_ret2
          exact ⟨by rw [hp.out]; rfl, rfl⟩
        · obtain ⟨v, rfl⟩ : ∃ v : Nat, V = v := ⟨V.toNat, by omega⟩
          go_wp2_with (go_at_call 102; (with_reducible refine (c28 _).mono ?_); rintro e w' ⟨rfl, rfl⟩)
          go_round
          case rel =>
            refine ⟨k + 1, a * 16 + v, by rw [or16 a v ha6 (by omega)], by go_num, by omega, ?_, ?_⟩
            · have := HA.out
              rw [Nat.pow_succ]
              omega
            · rw [HV.out, if_neg (by omega)]
              rfl
          case measure => simp [intOf]; omega
      · have hke : k = n := by omega
        subst hke
        rw [List.drop_of_length_le (by rw [HN.out]; exact Nat.le_refl _)] at hv
        have HV := Lib.hid hv
        clear hv ha
        by_cases hbig : 1114111 < a
        · have hp : Hid (point l = none) := by
            unfold point
            rw [HV.out]
            simp [hexv]
            intro _ h
            omega
          go_wp2
          go_ret2
          exact ⟨by rw [hp.out]; rfl, rfl⟩
        · have c27 := fun w => width27 a w
          obtain ⟨d, hd⟩ : ∃ d, wid a = d := ⟨_, rfl⟩
          simp only [hd] at c27
          have HD := Lib.hid hd
          have hd6 := (wid_range a).2
          rw [hd] at hd6
          clear hd
          by_cases heq : k = d
          · have hp0 : point l = some a := by
              unfold point
              rw [HV.out, hexv, Option.bind_some, if_pos ⟨by rw [HN.out]; omega, by omega, by rw [HN.out, HD.out]; exact heq⟩]
            have hp := Lib.hid hp0
            clear hp0
            subst heq
            go_wp2_with (go_at_call 101; (with_reducible refine (c27 _).mono ?_); rintro e w' ⟨rfl, rfl⟩)
            go_ret2
            exact ⟨by rw [hp.out]; rfl, rfl⟩
          · have hp0 : point l = none := by
              unfold point
              rw [HV.out, hexv, Option.bind_some, if_neg (by rw [HN.out, HD.out]; rintro ⟨_, _, h⟩; exact heq h)]
            have hp := Lib.hid hp0
            clear hp0
            have hne : ((k : Int) == (d : Int)) = false := beq_false_of_ne (by omega)
            have hne2 : ((k : Int) != (d : Int)) = true := by simp [bne, hne]
            go_wp2_with (go_at_call 101; (with_reducible refine (c27 _).mono ?_); rintro e w' ⟨rfl, rfl⟩)
            go_ret2
            exact ⟨by rw [hp.out]; rfl, rfl⟩

/-- What Range hands back. -/
def rgVal (r : Int × Int × Int) : Value := .tuple #[.int .i64 r.1, .int .i64 r.2.1, .int .i64 r.2.2]
theorem cut_dots (l : List UInt8) (m : Int) (w : World) (hl : l.length ≤ 1000000) (hm : w.cell? ⟨0, 0, none⟩ = some (.int .i64 m)) : Calls Tryz.prog 73 #[.string (bs l), .string ⟨#[46, 46]⟩] w fun e w' =>
    e = .returned (.tuple #[.string (bs (Lib.cut l [46, 46]).1), .string (bs (Lib.cut l [46, 46]).2.1), .bool (Lib.cut l [46, 46]).2.2]) ∧ ∃ n, w' = w.drewN n := by
  have c := Tryz.strings_Cut (bs l) ⟨#[46, 46]⟩ m w (by rw [bs_size]; omega) hm
  rw [bs_data] at c
  exact c
theorem cut_fst (l : List UInt8) : (Lib.cut l [46, 46]).1.length ≤ l.length ∧ (Lib.cut l [46, 46]).2.1.length ≤ l.length := by
  unfold Lib.cut
  split
  · simp
    omega
  · simp

set_option maxRecDepth 100000 in
set_option maxHeartbeats 1000000 in
theorem range13 (l : List UInt8) (m : Int) (w : World) (hl : l.length ≤ 1000000) (hm : w.cell? ⟨0, 0, none⟩ = some (.int .i64 m)) : Calls Tryz.prog 43 #[.string (bs l)] w fun e w' => e = .returned (rgVal (rangeOf l)) ∧ ∃ q, w' = w.drewN q := by
  have c30 := cut_dots l m w hl hm
  have hcl := cut_fst l
  have hr : Hid (rangeOf l = if (Lib.cut l [46, 46]).2.2 then (match point (Lib.cut l [46, 46]).1, point (Lib.cut l [46, 46]).2.1 with | some a, some b => if b ≤ a then (0, 0, 14) else ((a : Int), (b : Int), 0) | _, _ => (0, 0, 13)) else (match point (Lib.cut l [46, 46]).1 with | some a => ((a : Int), (a : Int), 0) | none => (0, 0, 13))) := by
    unfold rangeOf Lib.cut
    split
    · exact Lib.hid rfl
    · exact Lib.hid rfl
  have c11 := fun w => point11 (Lib.cut l [46, 46]).1 w (by omega)
  have d11 := fun w => point11 (Lib.cut l [46, 46]).2.1 w (by omega)
  obtain ⟨X, hX⟩ : ∃ X, (Lib.cut l [46, 46]).1 = X := ⟨_, rfl⟩
  obtain ⟨Y, hY⟩ : ∃ Y, (Lib.cut l [46, 46]).2.1 = Y := ⟨_, rfl⟩
  obtain ⟨f, hf⟩ : ∃ f, (Lib.cut l [46, 46]).2.2 = f := ⟨_, rfl⟩
  rw [hX, hY, hf] at c30 hr
  simp only [hX] at c11
  simp only [hY] at d11
  clear hX hY hf hm hcl
  cases hx : point X with
  | none =>
    rw [hx] at hr
    simp only [hx, ptVal] at c11
    have hr2 : Hid (rangeOf l = (0, 0, 13)) := by
      rw [hr.out]
      cases f <;> exact Lib.hid rfl
    clear hr hx d11
    go_enter Tryz.func43, Tryz.ntmps43
    go_wp2_with (first
      | (go_at_call 73; (with_reducible refine c30.mono ?_); rintro e w' ⟨rfl, q, rfl⟩)
      | (go_at_call 74; (with_reducible refine (c11 _).mono ?_); rintro e w' ⟨rfl, rfl⟩))
    go_ret3
    exact ⟨by rw [hr2.out]; rfl, q, rfl⟩
  | some a =>
    rw [hx] at hr
    simp only [hx, ptVal] at c11
    clear hx
    cases f with
    | false =>
      have hr2 : Hid (rangeOf l = ((a : Int), (a : Int), 0)) := by
        rw [hr.out]
        exact Lib.hid rfl
      clear hr d11
      go_enter Tryz.func43, Tryz.ntmps43
      go_wp2_with (first
        | (go_at_call 73; (with_reducible refine c30.mono ?_); rintro e w' ⟨rfl, q, rfl⟩)
        | (go_at_call 74; (with_reducible refine (c11 _).mono ?_); rintro e w' ⟨rfl, rfl⟩))
      go_ret3
      exact ⟨by rw [hr2.out]; rfl, q, rfl⟩
    | true =>
      cases hy : point Y with
      | none =>
        rw [hy] at hr
        simp only [hy, ptVal] at d11
        have hr2 : Hid (rangeOf l = (0, 0, 13)) := by
          rw [hr.out]
          exact Lib.hid rfl
        clear hr hy
        go_enter Tryz.func43, Tryz.ntmps43
        go_wp2_with (go_at_call 73; (with_reducible refine c30.mono ?_); rintro e w' ⟨rfl, q, rfl⟩)
        go_wp2_with (go_at_call 74; (with_reducible refine (c11 _).mono ?_); clear c11; rintro e w' ⟨rfl, rfl⟩)
        go_wp2_with (go_at_call 74; (with_reducible refine (d11 _).mono ?_); rintro e w' ⟨rfl, rfl⟩)
        go_ret3
        exact ⟨by rw [hr2.out]; rfl, q, rfl⟩
      | some b =>
        rw [hy] at hr
        simp only [hy, ptVal] at d11
        clear hy
        by_cases hba : b ≤ a
        · have hr2 : Hid (rangeOf l = (0, 0, 14)) := by
            rw [hr.out]
            simp [hba]
            trivial
          clear hr
          go_enter Tryz.func43, Tryz.ntmps43
          go_wp2_with (go_at_call 73; (with_reducible refine c30.mono ?_); rintro e w' ⟨rfl, q, rfl⟩)
          go_wp2_with (go_at_call 74; (with_reducible refine (c11 _).mono ?_); clear c11; rintro e w' ⟨rfl, rfl⟩)
          go_wp2_with (go_at_call 74; (with_reducible refine (d11 _).mono ?_); rintro e w' ⟨rfl, rfl⟩)
          go_ret3
          exact ⟨by rw [hr2.out]; rfl, q, rfl⟩
        · have hr2 : Hid (rangeOf l = ((a : Int), (b : Int), 0)) := by
            rw [hr.out]
            simp [hba]
            trivial
          clear hr
          go_enter Tryz.func43, Tryz.ntmps43
          go_wp2_with (go_at_call 73; (with_reducible refine c30.mono ?_); rintro e w' ⟨rfl, q, rfl⟩)
          go_wp2_with (go_at_call 74; (with_reducible refine (c11 _).mono ?_); clear c11; rintro e w' ⟨rfl, rfl⟩)
          go_wp2_with (go_at_call 74; (with_reducible refine (d11 _).mono ?_); rintro e w' ⟨rfl, rfl⟩)
          go_ret3
          exact ⟨by rw [hr2.out]; rfl, q, rfl⟩
end Go.Proofs.YtdbnegllncjhkaaGreatDoor
