/- HangulBack walked. -/
import Derived.Test.YtohdenjfapdojaaHlp
import Derived.Deep.Cut
namespace Go.Proofs.Ytohdenjfapdojaa
open Go.RowKit

theorem cell_at {w : World} {A : Option Addr} {zs : List Int} (h : Vals w A zs.length (nums .i64 zs)) (h0 : 0 < zs.length) : ∃ b off, A = some ⟨b, off, none⟩ ∧ b < w.heap.size ∧ ∀ j x, zs[j]? = some x → w.cell? ⟨b, off + j, none⟩ = some (.int .i64 x) := by
  obtain ⟨b, off, rfl, hlt, hc⟩ := h.2 h0
  exact ⟨b, off, rfl, hlt, fun j x hj => hc j _ (by unfold nums; rw [List.getElem?_map, hj]; rfl)⟩
theorem tog_two {l v t : Int} (hp : Places l v t) : tog (4352 + l) (4449 + v) = (syl l v 0, true) := by
  obtain ⟨a, b, c, d, e, f⟩ := hp
  rw [tog_lead (by unfold Lead; omega) (by unfold Vow; omega), show 44032 + (21 * (4352 + l - 4352) + (4449 + v - 4449)) * 28 = syl l v 0 by unfold syl; omega]
theorem tog_three {l v t : Int} (hp : Places l v t) (ht : t ≠ 0) : tog (syl l v 0) (4519 + t) = (syl l v t, true) := by
  obtain ⟨a, b, c, d, e, f⟩ := hp
  rw [tog_open ((opn_syl ⟨a, b, c, d, by omega, by omega⟩).2 rfl) (by unfold Trail; omega), show syl l v 0 + (4519 + t - 4519) = syl l v t by unfold syl; omega]
set_option maxRecDepth 100000 in
set_option maxHeartbeats 4000000 in
theorem walkBack (n : Int) (w : World) (hn : 0 ≤ n ∧ n ≤ 65535) : Calls Try.prog 5 #[.int .u16 n] w fun e w' => e = .returned (.bool true) ∧ Below w.heap.size w w' := by
  obtain ⟨n0, n1⟩ := hn
  have c6 := awake6 w
  obtain ⟨k, hk⟩ : ∃ k, n.tmod 11172 = k := ⟨_, rfl⟩
  have k0 : 0 ≤ k ∧ k < 11172 := by
    rw [← hk, Int.tmod_eq_emod_of_nonneg n0]
    omega
  obtain ⟨l, v, t, hp, hc⟩ := hang (44032 + k) (by omega) (by omega)
  have hin := hang_in hp
  obtain ⟨k0, k1⟩ := k0
  have HP := Lib.hid hp
  obtain ⟨c, hs⟩ : ∃ c, syl l v t = c := ⟨_, rfl⟩
  have HS := Lib.hid hs
  rw [hs] at hc hin
  have c7 : ∀ w1, Below w.heap.size w w1 → Calls Try.prog 7 #[.int .i64 c] w1 fun e w' => ∃ A cap, e = .returned (.slice A (partsOf l v t).length cap) ∧ Hid (Below w.heap.size w w' ∧ Vals w' A (partsOf l v t).length (nums .i64 (partsOf l v t))) := fun w1 h => by
    rw [← hs]
    refine (apart7 l v t w1 hp).mono ?_
    rintro e w' ⟨A, cap, rfl, hb, hV⟩
    exact ⟨A, cap, rfl, Lib.hid ⟨below_trans h hb, hV.out⟩⟩
  clear hp hs
  by_cases ht : t = 0
  · subst ht
    rw [show partsOf l v 0 = [4352 + l, 4449 + v] from if_pos rfl] at c7
    have d7 : ∀ w1, Below w.heap.size w w1 → Calls Try.prog 7 #[.int .i64 c] w1 fun e w' => ∃ b off cap, e = .returned (.slice (some ⟨b, off, none⟩) 2 cap) ∧ Below w.heap.size w w' ∧ w'.cell? ⟨b, off, none⟩ = some (.int .i64 (4352 + l)) ∧ w'.cell? ⟨b, off + 1, none⟩ = some (.int .i64 (4449 + v)) := fun w1 h => (c7 w1 h).mono (by
      rintro e w' ⟨A, cap, rfl, hb⟩
      obtain ⟨b, off, rfl, -, hc⟩ := cell_at hb.out.2 (by simp)
      exact ⟨b, off, cap, rfl, hb.out.1, hc 0 _ rfl, hc 1 _ rfl⟩)
    obtain ⟨x, hx⟩ : ∃ x, 4352 + l = x := ⟨_, rfl⟩
    obtain ⟨y, hy⟩ : ∃ y, 4449 + v = y := ⟨_, rfl⟩
    have d11 : ∀ W, Calls Try.prog 11 #[.int .i64 x, .int .i64 y] W fun e w' => e = .returned (.tuple #[.int .i64 c, .bool true]) ∧ w' = W := fun W => (together11_same x y W).mono (by
      rw [← hx, ← hy, tog_two HP.out, HS.out]
      rintro e w' ⟨rfl, rfl⟩
      exact ⟨rfl, rfl⟩)
    rw [hx, hy] at d7
    clear c7 hx hy
    subst hc
    go_enter Try.func5, Try.ntmps5
    go_upto_region 7 with (first
      | (go_at_call 6; (with_reducible refine c6.mono ?_); rintro e w1 ⟨rfl, hb⟩)
      | (go_at_call 7; (with_reducible refine (d7 _ hb).mono ?_); rintro e w2 ⟨b, off, cap, rfl, hb2, g0, g1⟩))
    go_quiet ((go_at_call 11; with_reducible exact Calls.quiet_of_same (d11 _)))
    go_wp2
    go_ret
    exact ⟨by simp, hb2.trans ((below_qq _ _).mono hb2.size)⟩
  · rw [show partsOf l v t = [4352 + l, 4449 + v, 4519 + t] from if_neg ht] at c7
    obtain ⟨x, hx⟩ : ∃ x, 4352 + l = x := ⟨_, rfl⟩
    obtain ⟨y, hy⟩ : ∃ y, 4449 + v = y := ⟨_, rfl⟩
    obtain ⟨z, hz⟩ : ∃ z, 4519 + t = z := ⟨_, rfl⟩
    obtain ⟨s, hs⟩ : ∃ s, syl l v 0 = s := ⟨_, rfl⟩
    have d7 : ∀ w1, Below w.heap.size w w1 → Calls Try.prog 7 #[.int .i64 c] w1 fun e w' => ∃ b off cap, e = .returned (.slice (some ⟨b, off, none⟩) 3 cap) ∧ Hid (Below w.heap.size w w' ∧ b < w'.heap.size) ∧ w'.cell? ⟨b, off, none⟩ = some (.int .i64 (4352 + l)) ∧ w'.cell? ⟨b, off + 1, none⟩ = some (.int .i64 (4449 + v)) ∧ w'.cell? ⟨b, off + 2, none⟩ = some (.int .i64 (4519 + t)) := fun w1 h => (c7 w1 h).mono (by
      rintro e w' ⟨A, cap, rfl, hb⟩
      obtain ⟨b, off, rfl, hlt, hc⟩ := cell_at hb.out.2 (by simp)
      exact ⟨b, off, cap, rfl, Lib.hid ⟨hb.out.1, hlt⟩, hc 0 _ rfl, hc 1 _ rfl, hc 2 _ rfl⟩)
    have d11 : ∀ W, Calls Try.prog 11 #[.int .i64 x, .int .i64 y] W fun e w' => e = .returned (.tuple #[.int .i64 s, .bool true]) ∧ w' = W := fun W => (together11_same x y W).mono (by
      rw [← hx, ← hy, tog_two HP.out, hs]
      rintro e w' ⟨rfl, rfl⟩
      exact ⟨rfl, rfl⟩)
    have d12 : ∀ W, Calls Try.prog 11 #[.int .i64 s, .int .i64 z] W fun e w' => e = .returned (.tuple #[.int .i64 c, .bool true]) ∧ w' = W := fun W => (together11_same s z W).mono (by
      rw [← hs, ← hz, tog_three HP.out ht, HS.out]
      rintro e w' ⟨rfl, rfl⟩
      exact ⟨rfl, rfl⟩)
    rw [hx, hy, hz] at d7
    clear c7 hx hy hz hs
    subst hc
    go_enter Try.func5, Try.ntmps5
    go_upto_region 7 with (first
      | (go_at_call 6; (with_reducible refine c6.mono ?_); rintro e w1 ⟨rfl, hb⟩)
      | (go_at_call 7; (with_reducible refine (d7 _ hb).mono ?_); rintro e w2 ⟨b, off, cap, rfl, hb2, g0, g1, g2⟩))
    go_quiet ((go_at_call 11; with_reducible exact Calls.quiet_of_same (d11 _)))
    go_wp2_with (go_at_call 11; (with_reducible refine (d12 _).mono ?_); rintro e w4 ⟨rfl, rfl⟩)
    go_ret
    exact ⟨by simp, hb2.out.1.trans ((below_qq _ _).mono hb2.out.1.size)⟩
end Go.Proofs.Ytohdenjfapdojaa
