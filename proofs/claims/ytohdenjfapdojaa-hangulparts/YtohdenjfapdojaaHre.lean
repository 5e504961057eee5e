/- The document's own Syllable and Apart. -/
import Derived.Test.YtohdenjfapdojaaHap
namespace Go.Proofs.Ytohdenjfapdojaa
open Go.RowKit

theorem syllable14 (l v : Nat) (w : World) (hl : l < 100) (hv : v < 100) : Calls Try.prog 14 #[.int .i64 (l : Nat), .int .i64 (v : Nat), .int .i64 0] w fun e w' => e = .returned (.int .i64 (44032 + (21 * (l : Int) + (v : Int)) * 28)) ∧ w' = w := by
  go_enter Try.func14, Try.ntmps14
  go_wp2
  go_ret
  exact ⟨by go_num, rfl⟩
theorem below_qq (w : World) (q : Nat) : Below w.heap.size w (w.drewN q) := have h := Below.refl w.heap.size w; ⟨h.os, h.tape, h.output, h.size, h.block⟩
theorem litPost2 (w : World) (q : Nat) (x y : Int) : ApPost w [x, y] (.returned (.slice (some ⟨w.heap.size, 0, none⟩) 2 2)) ((w.drewN q).alloc (.cells #[.int .i64 x, .int .i64 y] 3)) :=
  ⟨_, _, rfl, (below_qq w q).alloc (Nat.le_refl _) _, Lib.hid (two_vals (w.drewN q) x y)⟩
theorem three_vals (w : World) (x y z : Int) : Vals (w.alloc (.cells #[.int .i64 x, .int .i64 y, .int .i64 z] 3)) (some ⟨w.heap.size, 0, none⟩) 3 (nums .i64 [x, y, z]) := by
  obtain ⟨A, c, h, -, hv, -⟩ := own_vals (World.ownsRow_lit (base := w.heap.size) (size := 1) (e := 3) w #[.int .i64 x, .int .i64 y, .int .i64 z] 3 (Nat.le_refl _) (by decide) rfl)
  cases h
  exact hv
theorem litPost3 (w : World) (q : Nat) (x y z : Int) : ApPost w [x, y, z] (.returned (.slice (some ⟨w.heap.size, 0, none⟩) 3 3)) ((w.drewN q).alloc (.cells #[.int .i64 x, .int .i64 y, .int .i64 z] 3)) :=
  ⟨_, _, rfl, (below_qq w q).alloc (Nat.le_refl _) _, Lib.hid (three_vals (w.drewN q) x y z)⟩
def RaRel (n : Nat) (ok : Nat → Prop) (w : World) (i : Value) (wr : World) : Prop := ∃ k q : Nat, i = .int .i64 k ∧ k ≤ n ∧ ok k ∧ wr = w.drewN q
set_option maxRecDepth 100000 in
set_option maxHeartbeats 4000000 in
theorem rapart9 (l v t : Int) (w : World) (hp : Places l v t) : Calls Try.prog 9 #[.int .i64 (syl l v t)] w (ApPost w (partsOf l v t)) := by
  obtain ⟨l0, l1, v0, v1, t0, t1⟩ := hp
  obtain ⟨c, hc⟩ : ∃ c, syl l v t = c := ⟨_, rfl⟩
  have hc2 : 44032 + (21 * l + v) * 28 + t = c := hc
  rw [hc]
  clear hc
  go_enter Try.func9, Try.ntmps9
  go_wp2
  go_loopw [3] (fun i wr => RaRel 19 (fun i => (i : Int) ≤ l) w i wr) (fun i _ => 19 - (intOf i).toNat)
  case atStart => exact ⟨0, 0, rfl, by omega, by simpa using l0, rfl⟩
  case round =>
    obtain ⟨i, q, rfl, hi, hok, rfl⟩ := hrel
    have hlt : i < 19 := by omega
    go_wp2
    rw [show decide ((i : Int) < 19) = true from decide_eq_true (by omega)]
    go_loopw [4] (fun j wr => RaRel 21 (fun j => (i : Int) = l → (j : Int) ≤ v) w j wr) (fun j _ => 21 - (intOf j).toNat)
    case atStart => exact ⟨0, q, rfl, by omega, fun _ => by simpa using v0, rfl⟩
    case round =>
      obtain ⟨j, q2, rfl, hj, hok2, rfl⟩ := hrel
      by_cases hlt2 : j < 21
      · have c14 := syllable14 i j (w.drewN q2) (by omega) (by omega)
        obtain ⟨s, hs⟩ : ∃ s, 44032 + (21 * (i : Int) + (j : Int)) * 28 = s := ⟨_, rfl⟩
        rw [hs] at c14
        by_cases hh : (i : Int) = l ∧ (j : Int) = v
        · obtain ⟨rfl, rfl⟩ := hh
          have hk : c - s = t := by omega
          by_cases ht : t = 0
          · subst ht
            have hpt : partsOf i j 0 = [4352 + (i : Int), 4449 + (j : Int)] := if_pos rfl
            go_wp2_with (go_at_call 14; (with_reducible refine c14.mono ?_); rintro e w' ⟨rfl, rfl⟩)
            go_ret
            rw [hpt]
            exact litPost2 w q2 _ _
          · have hb : (t == 0) = false := beq_false_of_ne ht
            have hpt : partsOf i j t = [4352 + (i : Int), 4449 + (j : Int), 4519 + t] := if_neg ht
            go_wp2_with (go_at_call 14; (with_reducible refine c14.mono ?_); rintro e w' ⟨rfl, rfl⟩)
            go_ret
            rw [hpt]
            exact litPost3 w q2 _ _ _
        · have hk : 28 ≤ c - s := by
            by_cases he : (i : Int) = l
            · have h1 := hok2 he
              have h2 : (j : Int) ≠ v := fun e => hh ⟨he, e⟩
              omega
            · omega
          have hok3 : (i : Int) = l → ((j + 1 : Nat) : Int) ≤ v := fun he => by
            have h1 := hok2 he
            have h2 : (j : Int) ≠ v := fun e => hh ⟨he, e⟩
            omega
          clear hh
          go_wp2_with (go_at_call 14; (with_reducible refine c14.mono ?_); rintro e w' ⟨rfl, rfl⟩)
          go_roundw
          case rel => exact ⟨j + 1, _, by go_num, by omega, hok3, rfl⟩
          case measure => simp [intOf]; omega
      · obtain rfl : j = 21 := by omega
        have hok3 : ((i + 1 : Nat) : Int) ≤ l := by
          by_cases he : (i : Int) = l
          · have := hok2 he; omega
          · omega
        go_wp2
        go_roundw
        case rel => exact ⟨i + 1, _, by go_num, by omega, hok3, rfl⟩
        case measure => simp [intOf]; omega
set_option maxRecDepth 100000 in
set_option maxHeartbeats 4000000 in
theorem rapart9_low (c : Int) (w : World) (h0 : -1152921504606900000 ≤ c) (h1 : c < 44032) : Calls Try.prog 9 #[.int .i64 c] w fun e w' => e = .returned (.slice none 0 0) ∧ Below w.heap.size w w' := by
  go_enter Try.func9, Try.ntmps9
  go_wp2
  go_loopw [3] (fun i wr => RaRel 19 (fun _ => True) w i wr) (fun i _ => 19 - (intOf i).toNat)
  case atStart => exact ⟨0, 0, rfl, by omega, by simp, rfl⟩
  case round =>
    obtain ⟨i, q, rfl, hi, hok, rfl⟩ := hrel
    by_cases hlt : i < 19
    · go_wp2
      rw [show decide ((i : Int) < 19) = true from decide_eq_true (by omega)]
      go_loopw [4] (fun j wr => RaRel 21 (fun _ => True) w j wr) (fun j _ => 21 - (intOf j).toNat)
      case atStart => exact ⟨0, q, rfl, by omega, by intros; omega, rfl⟩
      case round =>
        obtain ⟨j, q2, rfl, hj, hok2, rfl⟩ := hrel
        by_cases hlt2 : j < 21
        · have c14 := syllable14 i j (w.drewN q2) (by omega) (by omega)
          obtain ⟨s, hs⟩ : ∃ s, 44032 + (21 * (i : Int) + (j : Int)) * 28 = s := ⟨_, rfl⟩
          rw [hs] at c14
          go_wp2_with (go_at_call 14; (with_reducible refine c14.mono ?_); rintro e w' ⟨rfl, rfl⟩)
          go_roundw
          case rel => exact ⟨j + 1, _, by go_num, by omega, by intros; omega, rfl⟩
          case measure => simp [intOf]; omega
        · obtain rfl : j = 21 := by omega
          go_wp2
          go_roundw
          case rel => exact ⟨i + 1, _, by go_num, by omega, by intros; omega, rfl⟩
          case measure => simp [intOf]; omega
    · obtain rfl : i = 19 := by omega
      go_wp2
      go_ret
      exact ⟨rfl, below_qq _ _⟩
set_option maxRecDepth 100000 in
set_option maxHeartbeats 4000000 in
theorem rapart9_high (c : Int) (w : World) (h0 : c ≤ 1152921504606900000) (h1 : 55204 ≤ c) : Calls Try.prog 9 #[.int .i64 c] w fun e w' => e = .returned (.slice none 0 0) ∧ Below w.heap.size w w' := by
  go_enter Try.func9, Try.ntmps9
  go_wp2
  go_loopw [3] (fun i wr => RaRel 19 (fun _ => True) w i wr) (fun i _ => 19 - (intOf i).toNat)
  case atStart => exact ⟨0, 0, rfl, by omega, by simp, rfl⟩
  case round =>
    obtain ⟨i, q, rfl, hi, hok, rfl⟩ := hrel
    by_cases hlt : i < 19
    · go_wp2
      rw [show decide ((i : Int) < 19) = true from decide_eq_true (by omega)]
      go_loopw [4] (fun j wr => RaRel 21 (fun _ => True) w j wr) (fun j _ => 21 - (intOf j).toNat)
      case atStart => exact ⟨0, q, rfl, by omega, by intros; omega, rfl⟩
      case round =>
        obtain ⟨j, q2, rfl, hj, hok2, rfl⟩ := hrel
        by_cases hlt2 : j < 21
        · have c14 := syllable14 i j (w.drewN q2) (by omega) (by omega)
          obtain ⟨s, hs⟩ : ∃ s, 44032 + (21 * (i : Int) + (j : Int)) * 28 = s := ⟨_, rfl⟩
          rw [hs] at c14
          go_wp2_with (go_at_call 14; (with_reducible refine c14.mono ?_); rintro e w' ⟨rfl, rfl⟩)
          go_roundw
          case rel => exact ⟨j + 1, _, by go_num, by omega, by intros; omega, rfl⟩
          case measure => simp [intOf]; omega
        · obtain rfl : j = 21 := by omega
          go_wp2
          go_roundw
          case rel => exact ⟨i + 1, _, by go_num, by omega, by intros; omega, rfl⟩
          case measure => simp [intOf]; omega
    · obtain rfl : i = 19 := by omega
      go_wp2
      go_ret
      exact ⟨rfl, below_qq _ _⟩
end Go.Proofs.Ytohdenjfapdojaa
