/- LdhCuts walked. -/
import Derived.Test.YtohhkogjphgimaaHy
import Derived.Test.YtohhkogjphgimaaAw
import Derived.Test.YtohhkogjphgimaaPh
import Derived.IntWalk
import Derived.Deep.QuietTactic
import Derived.BigQuiet
namespace Go.Proofs.Ytohhkogjphgimaa
open Go.RowKit
attribute [local go_sem] Oper.semAt_some

theorem hyp_val (c : UInt8) : (((c.toNat : Nat) : Int) != 45) = decide (c ≠ 45) := by
  rw [bne, show (((c.toNat : Nat) : Int) == 45) = decide (c = 45) from decide_eq_decide.2 (by rw [int_hyp]), decide_not]
set_option maxRecDepth 100000 in
set_option maxHeartbeats 8000000 in
theorem cuts5 (A : Option Addr) (n c : Nat) (l : List UInt8) (t : Int) (w : World) (h : Octs w A n l) (hc : n ≤ c) :
    Calls Try.prog 5 #[.slice A n c, .int .i64 t] w fun e w' => e = .returned (.bool true) ∧ Hid (Below w.heap.size w w') := by
  have HB : Hid (Below w.heap.size w w) := Below.refl _ _
  have D6 : Hid (∀ W, Below w.heap.size w W → Calls Try.prog 6 #[] W fun e w' => e = .returned (.bool true) ∧ Hid (Below w.heap.size w w')) := fun W hb => lift hb hb.size (awake6 W)
  by_cases hn : 200 < n
  · have hn' : (200 : Int) < (n : Int) := by omega
    clear h
    go_enter Try.func5, Try.ntmps5
    go_wp2_with (go_at_call 6; (with_reducible refine (D6.out _ HB.out).mono ?_); rintro e V ⟨rfl, HB⟩)
    go_ret
    exact ⟨rfl, HB⟩
  have hn' : ¬ (200 : Int) < (n : Int) := by omega
  have hl := h.len
  have D9 : Hid (∀ W, Below w.heap.size w W → Calls Try.prog 9 #[.slice A n c] W fun e w' => e = .returned (.bool (isL (l.map lowO))) ∧ Hid (Below w.heap.size w w')) := fun W hb => lift hb hb.size (is9 A n c l W (h.below hb) (by omega))
  by_cases hi : isL (l.map lowO) = true
  case neg =>
    have hi : isL (l.map lowO) = false := by simpa using hi
    have D8 : Hid (∀ W, Below w.heap.size w W → Calls Try.prog 8 #[.slice A n c] W fun e w' => e = .returned (.int .i64 0) ∧ Hid (Below w.heap.size w w')) := fun W hb => by
      have k := kind8 A n c l W (h.below hb) (by omega) hc
      rw [(kind_zero l).2 hi] at k
      exact lift hb hb.size k
    rw [hi] at D9
    clear h hi hl
    go_enter Try.func5, Try.ntmps5
    go_wp2_with (first
      | (go_at_call 6; (with_reducible refine (D6.out _ HB.out).mono ?_); rintro e V ⟨rfl, HB⟩)
      | (go_at_call 9; (with_reducible refine (D9.out _ HB.out).mono ?_); rintro e V ⟨rfl, HB⟩)
      | (go_at_call 8; (with_reducible refine (D8.out _ HB.out).mono ?_); rintro e V ⟨rfl, HB⟩))
    go_ret
    exact ⟨rfl, HB⟩
  have hn1 : 1 ≤ n := by
    have := hi
    unfold isL at this
    simp only [Bool.and_eq_true, decide_eq_true_eq, List.length_map] at this
    omega
  obtain ⟨b, off, rfl, hbl, -⟩ := h.2 (by omega)
  have hcl := octs_cells h
  have D15 : Hid (∀ W, Below w.heap.size w W → Calls Try.prog 15 #[.int .i64 t, .int .i64 ((n : Int) + 1)] W fun e w' => e = .returned (.int .i64 (restOf t (n + 1))) ∧ Hid (Below w.heap.size w w')) := fun W hb =>
    (rest15 t (n + 1) W (by omega) (by omega)).mono fun _ _ ⟨a, q⟩ => ⟨a, by subst q; exact hb⟩
  have hkn : restOf t (n + 1) < n + 1 := rest_lt (by omega)
  obtain ⟨k, hk⟩ : ∃ k, restOf t (n + 1) = k := ⟨_, rfl⟩
  rw [hk] at D15 hkn
  have DX : Hid (0 < k → ∀ W, Below w.heap.size w W → Calls Try.prog 9 #[.slice (some ⟨b, off, none⟩) k c] W fun e w' => e = .returned (.bool (decide (l.getD (k - 1) 0 ≠ 45))) ∧ Hid (Below w.heap.size w w')) := fun hk0 W hb => by
    have q := is9 (some ⟨b, off, none⟩) k c (l.take k) W ((h.below hb).take k (by omega)) (by omega)
    have e : isL ((l.take k).map lowO) = decide (l.getD (k - 1) 0 ≠ 45) := by
      rw [Bool.eq_iff_iff, decide_eq_true_eq, is_take l k (by omega) hk0 hi, take_at l k (k - 1) (by omega)]
    rw [e] at q
    exact lift hb hb.size q
  have DY : Hid (k < n → ∀ W, Below w.heap.size w W → Calls Try.prog 9 #[.slice (some ⟨b, off + k, none⟩) (n - k) (c - k)] W fun e w' => e = .returned (.bool (decide (l.getD k 0 ≠ 45))) ∧ Hid (Below w.heap.size w w')) := fun hk0 W hb => by
    have ho : Octs W (some ⟨b, off + k, none⟩) (n - k) (l.drop k) := octs_of (by rw [List.length_drop]; omega) (fun _ => Nat.lt_of_lt_of_le hbl hb.size) (fun j hj => by
      have := octs_cells (h.below hb) (k + j) (by omega)
      rw [show off + k + j = off + (k + j) by omega, this, ints_get, ints_get, oct_drop])
    have q := is9 (some ⟨b, off + k, none⟩) (n - k) (c - k) (l.drop k) W ho (by omega)
    have e : isL ((l.drop k).map lowO) = decide (l.getD k 0 ≠ 45) := by
      rw [Bool.eq_iff_iff, decide_eq_true_eq, is_drop l k (by omega) hi, drop_at l k 0, Nat.add_zero]
    rw [e] at q
    exact lift hb hb.size q
  have HC : Hid (∀ j, j < n → ∀ W, Below w.heap.size w W → W.cell? ⟨b, off + j, none⟩ = some (.int .u8 ((l.getD j 0).toNat : Int))) := fun j hj W hb => by
    have := octs_cells (h.below hb) j hj
    rw [ints_get] at this
    exact this
  rw [hi] at D9
  clear hi hk h hcl hl hbl
  rcases Nat.eq_zero_or_pos k with rfl | hk0
  · have hs := HC.out 0 (by omega)
    have DY := DY.out (by omega)
    rw [Nat.add_zero] at hs
    rw [← hyp_val] at DY
    obtain ⟨v2, hv2⟩ : ∃ v, ((l.getD 0 0).toNat : Int) = v := ⟨_, rfl⟩
    rw [hv2] at hs DY
    have HS := Lib.hid hs
    have DY : Hid (∀ W, Below w.heap.size w W → Calls Try.prog 9 #[.slice (some ⟨b, off, none⟩) n c] W fun e w' => e = .returned (.bool (v2 != 45)) ∧ Hid (Below w.heap.size w w')) := DY
    clear hs hv2 HC DX
    have hz : ((n : Int) == 0) = false := beq_false_of_ne (by omega)
    have hc0 : ¬ c = 0 := by omega
    have hn0 : 0 < n := hn1
    go_enter Try.func5, Try.ntmps5
    go_wp2_with (first
      | (go_at_call 6; (with_reducible refine (D6.out _ HB.out).mono ?_); rintro e V ⟨rfl, HB⟩)
      | (go_at_call 9; (with_reducible refine (D9.out _ HB.out).mono ?_); rintro e V ⟨rfl, HB⟩)
      | (go_at_call 15; (with_reducible refine (D15.out _ HB.out).mono ?_); rintro e V ⟨rfl, HB⟩))
    go_quiet (fail)
    go_wp2
    replace HB : Hid (Below w.heap.size w (V.drewN nq)) := below_drewN HB.out _
    generalize V.drewN nq = V at HB ⊢
    refine ph_open (fun W => W.cell? ⟨b, off, none⟩ = some (.int .u8 v2)) (by kernel_rfl) ?_ (by as_aux_lemma => kernel_rfl) (fun NS hHeld => ?_)
    · exact HS.out _ (below_drew HB.out)
    replace HB : Hid (Below w.heap.size w V.drew) := below_drew HB.out
    refine ph_take (i := 0) (v := ?_) NS rfl (by as_aux_lemma => kernel_rfl) (by as_aux_lemma => kernel_rfl) (fun _ _ _ h => h) (by rfl) ?_ (HS.out _ HB.out) ?_
    rotate_left
    · (intro w hSw; (try dsimp only at hSw); go_simp; try with_reducible rfl)
    try simp only [Act.put, List.setIfInBounds_toArray, List.set_cons_zero, List.set_cons_succ]
    refine ph_take (i := 1) (v := ?_) NS rfl (by as_aux_lemma => kernel_rfl) (by as_aux_lemma => kernel_rfl) (fun _ _ _ h => h) (by rfl) ?_ (HS.out _ HB.out) ?_
    rotate_left
    · (intro w hSw; (try dsimp only at hSw); go_simp; try with_reducible rfl)
    try simp only [Act.put, List.setIfInBounds_toArray, List.set_cons_zero, List.set_cons_succ]
    refine ph_take (i := 2) (v := ?_) NS rfl (by as_aux_lemma => kernel_rfl) (by as_aux_lemma => kernel_rfl) (fun _ _ _ h => h) (by rfl) ?_ (HS.out _ HB.out) ?_
    rotate_left
    · (intro w hSw; (try dsimp only at hSw); go_simp; try with_reducible rfl)
    try simp only [Act.put, List.setIfInBounds_toArray, List.set_cons_zero, List.set_cons_succ]
    refine ph_take (i := 3) (v := ?_) NS rfl (by as_aux_lemma => kernel_rfl) (by as_aux_lemma => kernel_rfl) (fun _ _ _ h => h) (by rfl) ?_ (HS.out _ HB.out) ?_
    rotate_left
    · (intro w hSw; (try dsimp only at hSw); go_simp; try with_reducible rfl)
    try simp only [Act.put, List.setIfInBounds_toArray, List.set_cons_zero, List.set_cons_succ]
    refine ph_skip (i := 4) NS rfl (by as_aux_lemma => kernel_rfl) (by as_aux_lemma => kernel_rfl) (fun _ _ _ h => h) (by rfl) (HS.out _ HB.out) ?_
    try simp only [Act.put, List.setIfInBounds_toArray, List.set_cons_zero, List.set_cons_succ]
    refine ph_skip (i := 5) NS rfl (by as_aux_lemma => kernel_rfl) (by as_aux_lemma => kernel_rfl) (fun _ _ _ h => h) (by rfl) (HS.out _ HB.out) ?_
    try simp only [Act.put, List.setIfInBounds_toArray, List.set_cons_zero, List.set_cons_succ]
    refine ph_skip (i := 6) NS rfl (by as_aux_lemma => kernel_rfl) (by as_aux_lemma => kernel_rfl) (fun _ _ _ h => h) (by rfl) (HS.out _ HB.out) ?_
    try simp only [Act.put, List.setIfInBounds_toArray, List.set_cons_zero, List.set_cons_succ]
    refine ph_skip (i := 7) NS rfl (by as_aux_lemma => kernel_rfl) (by as_aux_lemma => kernel_rfl) (fun _ _ _ h => h) (by rfl) (HS.out _ HB.out) ?_
    try simp only [Act.put, List.setIfInBounds_toArray, List.set_cons_zero, List.set_cons_succ]
    refine ph_skip (i := 8) NS rfl (by as_aux_lemma => kernel_rfl) (by as_aux_lemma => kernel_rfl) (fun _ _ _ h => h) (by rfl) (HS.out _ HB.out) ?_
    try simp only [Act.put, List.setIfInBounds_toArray, List.set_cons_zero, List.set_cons_succ]
    refine ph_skip (i := 9) NS rfl (by as_aux_lemma => kernel_rfl) (by as_aux_lemma => kernel_rfl) (fun _ _ _ h => h) (by rfl) (HS.out _ HB.out) ?_
    try simp only [Act.put, List.setIfInBounds_toArray, List.set_cons_zero, List.set_cons_succ]
    refine ph_skip (i := 10) NS rfl (by as_aux_lemma => kernel_rfl) (by as_aux_lemma => kernel_rfl) (fun _ _ _ h => h) (by rfl) (HS.out _ HB.out) ?_
    try simp only [Act.put, List.setIfInBounds_toArray, List.set_cons_zero, List.set_cons_succ]
    refine ph_skip (i := 11) NS rfl (by as_aux_lemma => kernel_rfl) (by as_aux_lemma => kernel_rfl) (fun _ _ _ h => h) (by rfl) (HS.out _ HB.out) ?_
    try simp only [Act.put, List.setIfInBounds_toArray, List.set_cons_zero, List.set_cons_succ]
    refine ph_skip (i := 12) NS rfl (by as_aux_lemma => kernel_rfl) (by as_aux_lemma => kernel_rfl) (fun _ _ _ h => h) (by rfl) (HS.out _ HB.out) ?_
    try simp only [Act.put, List.setIfInBounds_toArray, List.set_cons_zero, List.set_cons_succ]
    refine ph_skip (i := 13) NS rfl (by as_aux_lemma => kernel_rfl) (by as_aux_lemma => kernel_rfl) (fun _ _ _ h => h) (by rfl) (HS.out _ HB.out) ?_
    try simp only [Act.put, List.setIfInBounds_toArray, List.set_cons_zero, List.set_cons_succ]
    refine ph_take (i := 14) (v := ?_) NS rfl (by as_aux_lemma => kernel_rfl) (by as_aux_lemma => kernel_rfl) (fun _ _ _ h => h) (by rfl) ?_ (HS.out _ HB.out) ?_
    rotate_left
    · (intro w hSw; (try dsimp only at hSw); go_simp; try with_reducible rfl)
    try simp only [Act.put, List.setIfInBounds_toArray, List.set_cons_zero, List.set_cons_succ]
    refine ph_take (i := 15) (v := ?_) NS rfl (by as_aux_lemma => kernel_rfl) (by as_aux_lemma => kernel_rfl) (fun _ _ _ h => h) (by rfl) ?_ (HS.out _ HB.out) ?_
    rotate_left
    · (intro w hSw; (try dsimp only at hSw); go_simp; try with_reducible rfl)
    try simp only [Act.put, List.setIfInBounds_toArray, List.set_cons_zero, List.set_cons_succ]
    refine ph_take (i := 16) (v := ?_) NS rfl (by as_aux_lemma => kernel_rfl) (by as_aux_lemma => kernel_rfl) (fun _ _ _ h => h) (by rfl) ?_ (HS.out _ HB.out) ?_
    rotate_left
    · (intro w hSw; (try dsimp only at hSw); go_simp; try with_reducible rfl)
    try simp only [Act.put, List.setIfInBounds_toArray, List.set_cons_zero, List.set_cons_succ]
    refine ph_take (i := 17) (v := ?_) NS rfl (by as_aux_lemma => kernel_rfl) (by as_aux_lemma => kernel_rfl) (fun _ _ _ h => h) (by rfl) ?_ (HS.out _ HB.out) ?_
    rotate_left
    · (intro w hSw; (try dsimp only at hSw); go_simp; try with_reducible rfl)
    try simp only [Act.put, List.setIfInBounds_toArray, List.set_cons_zero, List.set_cons_succ]
    refine ph_take (i := 18) (v := ?_) NS rfl (by as_aux_lemma => kernel_rfl) (by as_aux_lemma => kernel_rfl) (fun _ _ _ h => h) (by rfl) ?_ (HS.out _ HB.out) ?_
    rotate_left
    · (intro w hSw; (try dsimp only at hSw); go_simp; try with_reducible rfl)
    try simp only [Act.put, List.setIfInBounds_toArray, List.set_cons_zero, List.set_cons_succ]
    refine ph_take (i := 19) (v := ?_) NS rfl (by as_aux_lemma => kernel_rfl) (by as_aux_lemma => kernel_rfl) (fun _ _ _ h => h) (by rfl) ?_ (HS.out _ HB.out) ?_
    rotate_left
    · (intro w hSw; (try dsimp only at hSw); go_simp; try with_reducible rfl)
    try simp only [Act.put, List.setIfInBounds_toArray, List.set_cons_zero, List.set_cons_succ]
    refine ph_take (i := 20) (v := ?_) NS rfl (by as_aux_lemma => kernel_rfl) (by as_aux_lemma => kernel_rfl) (fun _ _ _ h => h) (by rfl) ?_ (HS.out _ HB.out) ?_
    rotate_left
    · (intro w hSw; (try dsimp only at hSw); go_simp; try with_reducible rfl)
    try simp only [Act.put, List.setIfInBounds_toArray, List.set_cons_zero, List.set_cons_succ]
    refine ph_take (i := 22) (v := ?_) NS rfl (by as_aux_lemma => kernel_rfl) (by as_aux_lemma => kernel_rfl) (fun _ _ _ h => h) (by rfl) ?_ (HS.out _ HB.out) ?_
    rotate_left
    · (intro w hSw; (try dsimp only at hSw); go_simp; try with_reducible rfl)
    try simp only [Act.put, List.setIfInBounds_toArray, List.set_cons_zero, List.set_cons_succ]
    refine ph_take (i := 23) (v := ?_) NS rfl (by as_aux_lemma => kernel_rfl) (by as_aux_lemma => kernel_rfl) (fun _ _ _ h => h) (by rfl) ?_ (HS.out _ HB.out) ?_
    rotate_left
    · (intro w hSw; (try dsimp only at hSw); go_simp; try with_reducible rfl)
    try simp only [Act.put, List.setIfInBounds_toArray, List.set_cons_zero, List.set_cons_succ]
    refine ph_take (i := 24) (v := ?_) NS rfl (by as_aux_lemma => kernel_rfl) (by as_aux_lemma => kernel_rfl) (fun _ _ _ h => h) (by rfl) ?_ (HS.out _ HB.out) ?_
    rotate_left
    · (intro w hSw; (try dsimp only at hSw); go_simp; try with_reducible rfl)
    try simp only [Act.put, List.setIfInBounds_toArray, List.set_cons_zero, List.set_cons_succ]
    refine ph_take (i := 25) (v := ?_) NS rfl (by as_aux_lemma => kernel_rfl) (by as_aux_lemma => kernel_rfl) (fun _ _ _ h => h) (by rfl) ?_ (HS.out _ HB.out) ?_
    rotate_left
    · (intro w hSw; (try dsimp only at hSw); go_simp; try with_reducible rfl)
    try simp only [Act.put, List.setIfInBounds_toArray, List.set_cons_zero, List.set_cons_succ]
    refine ph_step (i := 21) rfl (by as_aux_lemma => kernel_rfl) (by rfl) (fun KK hK => ?_)
    go_simp
    (go_at_call 9; (with_reducible refine (DY.out _ HB.out).mono ?_); rintro e V ⟨rfl, HB⟩)
    refine hK.out _ _ ?_ (fun hHeld => ?_)
    · exact HS.out _ HB.out
    clear hK KK
    try simp only [Act.put, List.setIfInBounds_toArray, List.set_cons_zero, List.set_cons_succ]
    refine ph_take (i := 26) (v := ?_) NS rfl (by as_aux_lemma => kernel_rfl) (by as_aux_lemma => kernel_rfl) (fun _ _ _ h => h) (by rfl) ?_ (HS.out _ HB.out) ?_
    rotate_left
    · (intro w hSw; (try dsimp only at hSw); go_simp; try with_reducible rfl)
    try simp only [Act.put, List.setIfInBounds_toArray, List.set_cons_zero, List.set_cons_succ]
    refine ph_take (i := 27) (v := ?_) NS rfl (by as_aux_lemma => kernel_rfl) (by as_aux_lemma => kernel_rfl) (fun _ _ _ h => h) (by rfl) ?_ (HS.out _ HB.out) ?_
    rotate_left
    · (intro w hSw; (try dsimp only at hSw); go_simp; try with_reducible rfl)
    try simp only [Act.put, List.setIfInBounds_toArray, List.set_cons_zero, List.set_cons_succ]
    refine ph_take (i := 28) (v := ?_) NS rfl (by as_aux_lemma => kernel_rfl) (by as_aux_lemma => kernel_rfl) (fun _ _ _ h => h) (by rfl) ?_ (HS.out _ HB.out) ?_
    rotate_left
    · (intro w hSw; (try dsimp only at hSw); go_simp; try with_reducible rfl)
    try simp only [Act.put, List.setIfInBounds_toArray, List.set_cons_zero, List.set_cons_succ]
    refine ph_take (i := 29) (v := ?_) NS rfl (by as_aux_lemma => kernel_rfl) (by as_aux_lemma => kernel_rfl) (fun _ _ _ h => h) (by rfl) ?_ (HS.out _ HB.out) ?_
    rotate_left
    · (intro w hSw; (try dsimp only at hSw); go_simp; try with_reducible rfl)
    try simp only [Act.put, List.setIfInBounds_toArray, List.set_cons_zero, List.set_cons_succ]
    refine wpAnyH_done (by as_aux_lemma => kernel_rfl) ?_ _
    go_wp2
    go_ret
    exact ⟨rfl, HB⟩
  obtain ⟨N, hN⟩ : ∃ N, k - 1 = N := ⟨_, rfl⟩
  have hNk : N < k := by omega
  have hs1 := HC.out N (by omega)
  have DX := DX.out hk0
  rw [hN, ← hyp_val] at DX
  have hwr : IntKind.i64.wrap ((k : Int) - 1) = (N : Int) := by rw [show (k : Int) - 1 = (N : Int) by omega]; exact IntWalk.i64_in _ (by omega)
  obtain ⟨v1, hv1⟩ : ∃ v, ((l.getD N 0).toNat : Int) = v := ⟨_, rfl⟩
  rw [hv1] at hs1 DX
  have DX := Lib.hid DX
  have hz : ((k : Int) == 0) = false := beq_false_of_ne (by omega)
  clear hN
  by_cases hkn2 : k < n
  · have hs2 := HC.out k hkn2
    have DY := DY.out hkn2
    rw [← hyp_val] at DY
    obtain ⟨v2, hv2⟩ : ∃ v, ((l.getD k 0).toNat : Int) = v := ⟨_, rfl⟩
    rw [hv2] at hs2 DY
    have DY := Lib.hid DY
    have HS : Hid (∀ W, Below w.heap.size w W → W.cell? ⟨b, off + N, none⟩ = some (.int .u8 v1) ∧ W.cell? ⟨b, off + k, none⟩ = some (.int .u8 v2)) := fun W hb => ⟨hs1 W hb, hs2 W hb⟩
    have hck : ¬ c = k := by omega
    have hkc : k ≤ c := by omega
    have hn2 : 0 < n - k := by omega
    have hz2 : (((n - k : Nat) : Int) == 0) = false := beq_false_of_ne (by omega)
    clear hs1 hs2 hv1 hv2 HC
    go_enter Try.func5, Try.ntmps5
    go_wp2_with (first
      | (go_at_call 6; (with_reducible refine (D6.out _ HB.out).mono ?_); rintro e V ⟨rfl, HB⟩)
      | (go_at_call 9; (with_reducible refine (D9.out _ HB.out).mono ?_); rintro e V ⟨rfl, HB⟩)
      | (go_at_call 15; (with_reducible refine (D15.out _ HB.out).mono ?_); rintro e V ⟨rfl, HB⟩))
    go_quiet (fail)
    go_wp2
    replace HB : Hid (Below w.heap.size w (V.drewN nq)) := below_drewN HB.out _
    generalize V.drewN nq = V at HB ⊢
    refine ph_open (fun W => W.cell? ⟨b, off + N, none⟩ = some (.int .u8 v1) ∧ W.cell? ⟨b, off + k, none⟩ = some (.int .u8 v2)) (by kernel_rfl) ?_ (by as_aux_lemma => kernel_rfl) (fun NS hHeld => ?_)
    · exact HS.out _ (below_drew HB.out)
    replace HB : Hid (Below w.heap.size w V.drew) := below_drew HB.out
    refine ph_take (i := 0) (v := ?_) NS rfl (by as_aux_lemma => kernel_rfl) (by as_aux_lemma => kernel_rfl) (fun _ _ _ h => h) (by rfl) ?_ (HS.out _ HB.out) ?_
    rotate_left
    · (intro w hSw; (try dsimp only at hSw); go_simp; try with_reducible rfl)
    try simp only [Act.put, List.setIfInBounds_toArray, List.set_cons_zero, List.set_cons_succ]
    refine ph_take (i := 1) (v := ?_) NS rfl (by as_aux_lemma => kernel_rfl) (by as_aux_lemma => kernel_rfl) (fun _ _ _ h => h) (by rfl) ?_ (HS.out _ HB.out) ?_
    rotate_left
    · (intro w hSw; (try dsimp only at hSw); go_simp; try with_reducible rfl)
    try simp only [Act.put, List.setIfInBounds_toArray, List.set_cons_zero, List.set_cons_succ]
    refine ph_take (i := 2) (v := ?_) NS rfl (by as_aux_lemma => kernel_rfl) (by as_aux_lemma => kernel_rfl) (fun _ _ _ h => h) (by rfl) ?_ (HS.out _ HB.out) ?_
    rotate_left
    · (intro w hSw; (try dsimp only at hSw); go_simp; try with_reducible rfl)
    try simp only [Act.put, List.setIfInBounds_toArray, List.set_cons_zero, List.set_cons_succ]
    refine ph_take (i := 3) (v := ?_) NS rfl (by as_aux_lemma => kernel_rfl) (by as_aux_lemma => kernel_rfl) (fun _ _ _ h => h) (by rfl) ?_ (HS.out _ HB.out) ?_
    rotate_left
    · (intro w hSw; (try dsimp only at hSw); go_simp; try with_reducible rfl)
    try simp only [Act.put, List.setIfInBounds_toArray, List.set_cons_zero, List.set_cons_succ]
    refine ph_take (i := 4) (v := ?_) NS rfl (by as_aux_lemma => kernel_rfl) (by as_aux_lemma => kernel_rfl) (fun _ _ _ h => h) (by rfl) ?_ (HS.out _ HB.out) ?_
    rotate_left
    · (intro w hSw; (try dsimp only at hSw); go_simp; try with_reducible rfl)
    try simp only [Act.put, List.setIfInBounds_toArray, List.set_cons_zero, List.set_cons_succ]
    refine ph_take (i := 6) (v := ?_) NS rfl (by as_aux_lemma => kernel_rfl) (by as_aux_lemma => kernel_rfl) (fun _ _ _ h => h) (by rfl) ?_ (HS.out _ HB.out) ?_
    rotate_left
    · (intro w hSw; (try dsimp only at hSw); go_simp; try with_reducible rfl)
    try simp only [Act.put, List.setIfInBounds_toArray, List.set_cons_zero, List.set_cons_succ]
    refine ph_take (i := 7) (v := ?_) NS rfl (by as_aux_lemma => kernel_rfl) (by as_aux_lemma => kernel_rfl) (fun _ _ _ h => h) (by rfl) ?_ (HS.out _ HB.out) ?_
    rotate_left
    · (intro w hSw; (try dsimp only at hSw); go_simp; try with_reducible rfl)
    try simp only [Act.put, List.setIfInBounds_toArray, List.set_cons_zero, List.set_cons_succ]
    refine ph_take (i := 8) (v := ?_) NS rfl (by as_aux_lemma => kernel_rfl) (by as_aux_lemma => kernel_rfl) (fun _ _ _ h => h) (by rfl) ?_ (HS.out _ HB.out) ?_
    rotate_left
    · (intro w hSw; (try dsimp only at hSw); go_simp; try with_reducible rfl)
    try simp only [Act.put, List.setIfInBounds_toArray, List.set_cons_zero, List.set_cons_succ]
    refine ph_take (i := 9) (v := ?_) NS rfl (by as_aux_lemma => kernel_rfl) (by as_aux_lemma => kernel_rfl) (fun _ _ _ h => h) (by rfl) ?_ (HS.out _ HB.out) ?_
    rotate_left
    · (intro w hSw; (try dsimp only at hSw); go_simp; try with_reducible rfl)
    try simp only [Act.put, List.setIfInBounds_toArray, List.set_cons_zero, List.set_cons_succ]
    refine ph_take (i := 10) (v := ?_) NS rfl (by as_aux_lemma => kernel_rfl) (by as_aux_lemma => kernel_rfl) (fun _ _ _ h => h) (by rfl) ?_ (HS.out _ HB.out) ?_
    rotate_left
    · (intro w hSw; (try dsimp only at hSw); go_simp; try with_reducible rfl)
    try simp only [Act.put, List.setIfInBounds_toArray, List.set_cons_zero, List.set_cons_succ]
    refine ph_take (i := 11) (v := ?_) NS rfl (by as_aux_lemma => kernel_rfl) (by as_aux_lemma => kernel_rfl) (fun _ _ _ h => h) (by rfl) ?_ (HS.out _ HB.out) ?_
    rotate_left
    · (intro w hSw; (try dsimp only at hSw); go_simp; try with_reducible rfl)
    try simp only [Act.put, List.setIfInBounds_toArray, List.set_cons_zero, List.set_cons_succ]
    refine ph_take (i := 12) (v := ?_) NS rfl (by as_aux_lemma => kernel_rfl) (by as_aux_lemma => kernel_rfl) (fun _ _ _ h => h) (by rfl) ?_ (HS.out _ HB.out) ?_
    rotate_left
    · (intro w hSw; (try dsimp only at hSw); go_simp; try with_reducible rfl)
    try simp only [Act.put, List.setIfInBounds_toArray, List.set_cons_zero, List.set_cons_succ]
    refine ph_step (i := 5) rfl (by as_aux_lemma => kernel_rfl) (by rfl) (fun KK hK => ?_)
    go_simp
    (go_at_call 9; (with_reducible refine (DX.out _ HB.out).mono ?_); rintro e V ⟨rfl, HB⟩)
    refine hK.out _ _ ?_ (fun hHeld => ?_)
    · exact HS.out _ HB.out
    clear hK KK
    try simp only [Act.put, List.setIfInBounds_toArray, List.set_cons_zero, List.set_cons_succ]
    refine ph_take (i := 13) (v := ?_) NS rfl (by as_aux_lemma => kernel_rfl) (by as_aux_lemma => kernel_rfl) (fun _ _ _ h => h) (by rfl) ?_ (HS.out _ HB.out) ?_
    rotate_left
    · (intro w hSw; (try dsimp only at hSw); go_simp; try with_reducible rfl)
    try simp only [Act.put, List.setIfInBounds_toArray, List.set_cons_zero, List.set_cons_succ]
    refine ph_take (i := 14) (v := ?_) NS rfl (by as_aux_lemma => kernel_rfl) (by as_aux_lemma => kernel_rfl) (fun _ _ _ h => h) (by rfl) ?_ (HS.out _ HB.out) ?_
    rotate_left
    · (intro w hSw; (try dsimp only at hSw); go_simp; try with_reducible rfl)
    try simp only [Act.put, List.setIfInBounds_toArray, List.set_cons_zero, List.set_cons_succ]
    refine ph_take (i := 15) (v := ?_) NS rfl (by as_aux_lemma => kernel_rfl) (by as_aux_lemma => kernel_rfl) (fun _ _ _ h => h) (by rfl) ?_ (HS.out _ HB.out) ?_
    rotate_left
    · (intro w hSw; (try dsimp only at hSw); go_simp; try with_reducible rfl)
    try simp only [Act.put, List.setIfInBounds_toArray, List.set_cons_zero, List.set_cons_succ]
    refine ph_take (i := 16) (v := ?_) NS rfl (by as_aux_lemma => kernel_rfl) (by as_aux_lemma => kernel_rfl) (fun _ _ _ h => h) (by rfl) ?_ (HS.out _ HB.out) ?_
    rotate_left
    · (intro w hSw; (try dsimp only at hSw); go_simp; try with_reducible rfl)
    try simp only [Act.put, List.setIfInBounds_toArray, List.set_cons_zero, List.set_cons_succ]
    refine ph_take (i := 17) (v := ?_) NS rfl (by as_aux_lemma => kernel_rfl) (by as_aux_lemma => kernel_rfl) (fun _ _ _ h => h) (by rfl) ?_ (HS.out _ HB.out) ?_
    rotate_left
    · (intro w hSw; (try dsimp only at hSw); go_simp; try with_reducible rfl)
    try simp only [Act.put, List.setIfInBounds_toArray, List.set_cons_zero, List.set_cons_succ]
    refine ph_take (i := 18) (v := ?_) NS rfl (by as_aux_lemma => kernel_rfl) (by as_aux_lemma => kernel_rfl) (fun _ _ _ h => h) (by rfl) ?_ (HS.out _ HB.out) ?_
    rotate_left
    · (intro w hSw; (try dsimp only at hSw); go_simp; try with_reducible rfl)
    try simp only [Act.put, List.setIfInBounds_toArray, List.set_cons_zero, List.set_cons_succ]
    refine ph_take (i := 19) (v := ?_) NS rfl (by as_aux_lemma => kernel_rfl) (by as_aux_lemma => kernel_rfl) (fun _ _ _ h => h) (by rfl) ?_ (HS.out _ HB.out) ?_
    rotate_left
    · (intro w hSw; (try dsimp only at hSw); go_simp; try with_reducible rfl)
    try simp only [Act.put, List.setIfInBounds_toArray, List.set_cons_zero, List.set_cons_succ]
    refine ph_take (i := 20) (v := ?_) NS rfl (by as_aux_lemma => kernel_rfl) (by as_aux_lemma => kernel_rfl) (fun _ _ _ h => h) (by rfl) ?_ (HS.out _ HB.out) ?_
    rotate_left
    · (intro w hSw; (try dsimp only at hSw); go_simp; try with_reducible rfl)
    try simp only [Act.put, List.setIfInBounds_toArray, List.set_cons_zero, List.set_cons_succ]
    refine ph_take (i := 22) (v := ?_) NS rfl (by as_aux_lemma => kernel_rfl) (by as_aux_lemma => kernel_rfl) (fun _ _ _ h => h) (by rfl) ?_ (HS.out _ HB.out) ?_
    rotate_left
    · (intro w hSw; (try dsimp only at hSw); go_simp; try with_reducible rfl)
    try simp only [Act.put, List.setIfInBounds_toArray, List.set_cons_zero, List.set_cons_succ]
    refine ph_take (i := 23) (v := ?_) NS rfl (by as_aux_lemma => kernel_rfl) (by as_aux_lemma => kernel_rfl) (fun _ _ _ h => h) (by rfl) ?_ (HS.out _ HB.out) ?_
    rotate_left
    · (intro w hSw; (try dsimp only at hSw); go_simp; try with_reducible rfl)
    try simp only [Act.put, List.setIfInBounds_toArray, List.set_cons_zero, List.set_cons_succ]
    refine ph_take (i := 24) (v := ?_) NS rfl (by as_aux_lemma => kernel_rfl) (by as_aux_lemma => kernel_rfl) (fun _ _ _ h => h) (by rfl) ?_ (HS.out _ HB.out) ?_
    rotate_left
    · (intro w hSw; (try dsimp only at hSw); go_simp; try with_reducible rfl)
    try simp only [Act.put, List.setIfInBounds_toArray, List.set_cons_zero, List.set_cons_succ]
    refine ph_take (i := 25) (v := ?_) NS rfl (by as_aux_lemma => kernel_rfl) (by as_aux_lemma => kernel_rfl) (fun _ _ _ h => h) (by rfl) ?_ (HS.out _ HB.out) ?_
    rotate_left
    · (intro w hSw; (try dsimp only at hSw); go_simp; try with_reducible rfl)
    try simp only [Act.put, List.setIfInBounds_toArray, List.set_cons_zero, List.set_cons_succ]
    refine ph_step (i := 21) rfl (by as_aux_lemma => kernel_rfl) (by rfl) (fun KK hK => ?_)
    go_simp
    (go_at_call 9; (with_reducible refine (DY.out _ HB.out).mono ?_); rintro e V ⟨rfl, HB⟩)
    refine hK.out _ _ ?_ (fun hHeld => ?_)
    · exact HS.out _ HB.out
    clear hK KK
    try simp only [Act.put, List.setIfInBounds_toArray, List.set_cons_zero, List.set_cons_succ]
    refine ph_take (i := 26) (v := ?_) NS rfl (by as_aux_lemma => kernel_rfl) (by as_aux_lemma => kernel_rfl) (fun _ _ _ h => h) (by rfl) ?_ (HS.out _ HB.out) ?_
    rotate_left
    · (intro w hSw; (try dsimp only at hSw); go_simp; try with_reducible rfl)
    try simp only [Act.put, List.setIfInBounds_toArray, List.set_cons_zero, List.set_cons_succ]
    refine ph_take (i := 27) (v := ?_) NS rfl (by as_aux_lemma => kernel_rfl) (by as_aux_lemma => kernel_rfl) (fun _ _ _ h => h) (by rfl) ?_ (HS.out _ HB.out) ?_
    rotate_left
    · (intro w hSw; (try dsimp only at hSw); go_simp; try with_reducible rfl)
    try simp only [Act.put, List.setIfInBounds_toArray, List.set_cons_zero, List.set_cons_succ]
    refine ph_take (i := 28) (v := ?_) NS rfl (by as_aux_lemma => kernel_rfl) (by as_aux_lemma => kernel_rfl) (fun _ _ _ h => h) (by rfl) ?_ (HS.out _ HB.out) ?_
    rotate_left
    · (intro w hSw; (try dsimp only at hSw); go_simp; try with_reducible rfl)
    try simp only [Act.put, List.setIfInBounds_toArray, List.set_cons_zero, List.set_cons_succ]
    refine ph_take (i := 29) (v := ?_) NS rfl (by as_aux_lemma => kernel_rfl) (by as_aux_lemma => kernel_rfl) (fun _ _ _ h => h) (by rfl) ?_ (HS.out _ HB.out) ?_
    rotate_left
    · (intro w hSw; (try dsimp only at hSw); go_simp; try with_reducible rfl)
    try simp only [Act.put, List.setIfInBounds_toArray, List.set_cons_zero, List.set_cons_succ]
    refine wpAnyH_done (by as_aux_lemma => kernel_rfl) ?_ _
    go_wp2
    go_ret
    exact ⟨rfl, HB⟩
  · obtain rfl : k = n := by omega
    have HS := Lib.hid hs1
    clear hs1 hv1 HC DY
    by_cases hck : c = k
    · subst hck
      go_enter Try.func5, Try.ntmps5
      go_wp2_with (first
        | (go_at_call 6; (with_reducible refine (D6.out _ HB.out).mono ?_); rintro e V ⟨rfl, HB⟩)
        | (go_at_call 9; (with_reducible refine (D9.out _ HB.out).mono ?_); rintro e V ⟨rfl, HB⟩)
        | (go_at_call 15; (with_reducible refine (D15.out _ HB.out).mono ?_); rintro e V ⟨rfl, HB⟩))
      go_quiet (fail)
      go_wp2
      replace HB : Hid (Below w.heap.size w (V.drewN nq)) := below_drewN HB.out _
      generalize V.drewN nq = V at HB ⊢
      refine ph_open (fun W => W.cell? ⟨b, off + N, none⟩ = some (.int .u8 v1)) (by kernel_rfl) ?_ (by as_aux_lemma => kernel_rfl) (fun NS hHeld => ?_)
      · exact HS.out _ (below_drew HB.out)
      replace HB : Hid (Below w.heap.size w V.drew) := below_drew HB.out
      refine ph_take (i := 0) (v := ?_) NS rfl (by as_aux_lemma => kernel_rfl) (by as_aux_lemma => kernel_rfl) (fun _ _ _ h => h) (by rfl) ?_ (HS.out _ HB.out) ?_
      rotate_left
      · (intro w hSw; (try dsimp only at hSw); go_simp; try with_reducible rfl)
      try simp only [Act.put, List.setIfInBounds_toArray, List.set_cons_zero, List.set_cons_succ]
      refine ph_take (i := 1) (v := ?_) NS rfl (by as_aux_lemma => kernel_rfl) (by as_aux_lemma => kernel_rfl) (fun _ _ _ h => h) (by rfl) ?_ (HS.out _ HB.out) ?_
      rotate_left
      · (intro w hSw; (try dsimp only at hSw); go_simp; try with_reducible rfl)
      try simp only [Act.put, List.setIfInBounds_toArray, List.set_cons_zero, List.set_cons_succ]
      refine ph_take (i := 2) (v := ?_) NS rfl (by as_aux_lemma => kernel_rfl) (by as_aux_lemma => kernel_rfl) (fun _ _ _ h => h) (by rfl) ?_ (HS.out _ HB.out) ?_
      rotate_left
      · (intro w hSw; (try dsimp only at hSw); go_simp; try with_reducible rfl)
      try simp only [Act.put, List.setIfInBounds_toArray, List.set_cons_zero, List.set_cons_succ]
      refine ph_take (i := 3) (v := ?_) NS rfl (by as_aux_lemma => kernel_rfl) (by as_aux_lemma => kernel_rfl) (fun _ _ _ h => h) (by rfl) ?_ (HS.out _ HB.out) ?_
      rotate_left
      · (intro w hSw; (try dsimp only at hSw); go_simp; try with_reducible rfl)
      try simp only [Act.put, List.setIfInBounds_toArray, List.set_cons_zero, List.set_cons_succ]
      refine ph_take (i := 4) (v := ?_) NS rfl (by as_aux_lemma => kernel_rfl) (by as_aux_lemma => kernel_rfl) (fun _ _ _ h => h) (by rfl) ?_ (HS.out _ HB.out) ?_
      rotate_left
      · (intro w hSw; (try dsimp only at hSw); go_simp; try with_reducible rfl)
      try simp only [Act.put, List.setIfInBounds_toArray, List.set_cons_zero, List.set_cons_succ]
      refine ph_take (i := 6) (v := ?_) NS rfl (by as_aux_lemma => kernel_rfl) (by as_aux_lemma => kernel_rfl) (fun _ _ _ h => h) (by rfl) ?_ (HS.out _ HB.out) ?_
      rotate_left
      · (intro w hSw; (try dsimp only at hSw); go_simp; try with_reducible rfl)
      try simp only [Act.put, List.setIfInBounds_toArray, List.set_cons_zero, List.set_cons_succ]
      refine ph_take (i := 7) (v := ?_) NS rfl (by as_aux_lemma => kernel_rfl) (by as_aux_lemma => kernel_rfl) (fun _ _ _ h => h) (by rfl) ?_ (HS.out _ HB.out) ?_
      rotate_left
      · (intro w hSw; (try dsimp only at hSw); go_simp; try with_reducible rfl)
      try simp only [Act.put, List.setIfInBounds_toArray, List.set_cons_zero, List.set_cons_succ]
      refine ph_take (i := 8) (v := ?_) NS rfl (by as_aux_lemma => kernel_rfl) (by as_aux_lemma => kernel_rfl) (fun _ _ _ h => h) (by rfl) ?_ (HS.out _ HB.out) ?_
      rotate_left
      · (intro w hSw; (try dsimp only at hSw); go_simp; try with_reducible rfl)
      try simp only [Act.put, List.setIfInBounds_toArray, List.set_cons_zero, List.set_cons_succ]
      refine ph_take (i := 9) (v := ?_) NS rfl (by as_aux_lemma => kernel_rfl) (by as_aux_lemma => kernel_rfl) (fun _ _ _ h => h) (by rfl) ?_ (HS.out _ HB.out) ?_
      rotate_left
      · (intro w hSw; (try dsimp only at hSw); go_simp; try with_reducible rfl)
      try simp only [Act.put, List.setIfInBounds_toArray, List.set_cons_zero, List.set_cons_succ]
      refine ph_take (i := 10) (v := ?_) NS rfl (by as_aux_lemma => kernel_rfl) (by as_aux_lemma => kernel_rfl) (fun _ _ _ h => h) (by rfl) ?_ (HS.out _ HB.out) ?_
      rotate_left
      · (intro w hSw; (try dsimp only at hSw); go_simp; try with_reducible rfl)
      try simp only [Act.put, List.setIfInBounds_toArray, List.set_cons_zero, List.set_cons_succ]
      refine ph_take (i := 11) (v := ?_) NS rfl (by as_aux_lemma => kernel_rfl) (by as_aux_lemma => kernel_rfl) (fun _ _ _ h => h) (by rfl) ?_ (HS.out _ HB.out) ?_
      rotate_left
      · (intro w hSw; (try dsimp only at hSw); go_simp; try with_reducible rfl)
      try simp only [Act.put, List.setIfInBounds_toArray, List.set_cons_zero, List.set_cons_succ]
      refine ph_take (i := 12) (v := ?_) NS rfl (by as_aux_lemma => kernel_rfl) (by as_aux_lemma => kernel_rfl) (fun _ _ _ h => h) (by rfl) ?_ (HS.out _ HB.out) ?_
      rotate_left
      · (intro w hSw; (try dsimp only at hSw); go_simp; try with_reducible rfl)
      try simp only [Act.put, List.setIfInBounds_toArray, List.set_cons_zero, List.set_cons_succ]
      refine ph_step (i := 5) rfl (by as_aux_lemma => kernel_rfl) (by rfl) (fun KK hK => ?_)
      go_simp
      (go_at_call 9; (with_reducible refine (DX.out _ HB.out).mono ?_); rintro e V ⟨rfl, HB⟩)
      refine hK.out _ _ ?_ (fun hHeld => ?_)
      · exact HS.out _ HB.out
      clear hK KK
      try simp only [Act.put, List.setIfInBounds_toArray, List.set_cons_zero, List.set_cons_succ]
      refine ph_take (i := 13) (v := ?_) NS rfl (by as_aux_lemma => kernel_rfl) (by as_aux_lemma => kernel_rfl) (fun _ _ _ h => h) (by rfl) ?_ (HS.out _ HB.out) ?_
      rotate_left
      · (intro w hSw; (try dsimp only at hSw); go_simp; try with_reducible rfl)
      try simp only [Act.put, List.setIfInBounds_toArray, List.set_cons_zero, List.set_cons_succ]
      refine ph_take (i := 14) (v := ?_) NS rfl (by as_aux_lemma => kernel_rfl) (by as_aux_lemma => kernel_rfl) (fun _ _ _ h => h) (by rfl) ?_ (HS.out _ HB.out) ?_
      rotate_left
      · (intro w hSw; (try dsimp only at hSw); go_simp; try with_reducible rfl)
      try simp only [Act.put, List.setIfInBounds_toArray, List.set_cons_zero, List.set_cons_succ]
      refine ph_take (i := 15) (v := ?_) NS rfl (by as_aux_lemma => kernel_rfl) (by as_aux_lemma => kernel_rfl) (fun _ _ _ h => h) (by rfl) ?_ (HS.out _ HB.out) ?_
      rotate_left
      · (intro w hSw; (try dsimp only at hSw); go_simp; try with_reducible rfl)
      try simp only [Act.put, List.setIfInBounds_toArray, List.set_cons_zero, List.set_cons_succ]
      refine ph_take (i := 16) (v := ?_) NS rfl (by as_aux_lemma => kernel_rfl) (by as_aux_lemma => kernel_rfl) (fun _ _ _ h => h) (by rfl) ?_ (HS.out _ HB.out) ?_
      rotate_left
      · (intro w hSw; (try dsimp only at hSw); go_simp; try with_reducible rfl)
      try simp only [Act.put, List.setIfInBounds_toArray, List.set_cons_zero, List.set_cons_succ]
      refine ph_take (i := 17) (v := ?_) NS rfl (by as_aux_lemma => kernel_rfl) (by as_aux_lemma => kernel_rfl) (fun _ _ _ h => h) (by rfl) ?_ (HS.out _ HB.out) ?_
      rotate_left
      · (intro w hSw; (try dsimp only at hSw); go_simp; try with_reducible rfl)
      try simp only [Act.put, List.setIfInBounds_toArray, List.set_cons_zero, List.set_cons_succ]
      refine ph_take (i := 18) (v := ?_) NS rfl (by as_aux_lemma => kernel_rfl) (by as_aux_lemma => kernel_rfl) (fun _ _ _ h => h) (by rfl) ?_ (HS.out _ HB.out) ?_
      rotate_left
      · (intro w hSw; (try dsimp only at hSw); go_simp; try with_reducible rfl)
      try simp only [Act.put, List.setIfInBounds_toArray, List.set_cons_zero, List.set_cons_succ]
      refine ph_take (i := 19) (v := ?_) NS rfl (by as_aux_lemma => kernel_rfl) (by as_aux_lemma => kernel_rfl) (fun _ _ _ h => h) (by rfl) ?_ (HS.out _ HB.out) ?_
      rotate_left
      · (intro w hSw; (try dsimp only at hSw); go_simp; try with_reducible rfl)
      try simp only [Act.put, List.setIfInBounds_toArray, List.set_cons_zero, List.set_cons_succ]
      refine ph_skip (i := 20) NS rfl (by as_aux_lemma => kernel_rfl) (by as_aux_lemma => kernel_rfl) (fun _ _ _ h => h) (by rfl) (HS.out _ HB.out) ?_
      try simp only [Act.put, List.setIfInBounds_toArray, List.set_cons_zero, List.set_cons_succ]
      refine ph_skip (i := 21) NS rfl (by as_aux_lemma => kernel_rfl) (by as_aux_lemma => kernel_rfl) (fun _ _ _ h => h) (by rfl) (HS.out _ HB.out) ?_
      try simp only [Act.put, List.setIfInBounds_toArray, List.set_cons_zero, List.set_cons_succ]
      refine ph_skip (i := 22) NS rfl (by as_aux_lemma => kernel_rfl) (by as_aux_lemma => kernel_rfl) (fun _ _ _ h => h) (by rfl) (HS.out _ HB.out) ?_
      try simp only [Act.put, List.setIfInBounds_toArray, List.set_cons_zero, List.set_cons_succ]
      refine ph_skip (i := 23) NS rfl (by as_aux_lemma => kernel_rfl) (by as_aux_lemma => kernel_rfl) (fun _ _ _ h => h) (by rfl) (HS.out _ HB.out) ?_
      try simp only [Act.put, List.setIfInBounds_toArray, List.set_cons_zero, List.set_cons_succ]
      refine ph_skip (i := 24) NS rfl (by as_aux_lemma => kernel_rfl) (by as_aux_lemma => kernel_rfl) (fun _ _ _ h => h) (by rfl) (HS.out _ HB.out) ?_
      try simp only [Act.put, List.setIfInBounds_toArray, List.set_cons_zero, List.set_cons_succ]
      refine ph_skip (i := 25) NS rfl (by as_aux_lemma => kernel_rfl) (by as_aux_lemma => kernel_rfl) (fun _ _ _ h => h) (by rfl) (HS.out _ HB.out) ?_
      try simp only [Act.put, List.setIfInBounds_toArray, List.set_cons_zero, List.set_cons_succ]
      refine ph_skip (i := 26) NS rfl (by as_aux_lemma => kernel_rfl) (by as_aux_lemma => kernel_rfl) (fun _ _ _ h => h) (by rfl) (HS.out _ HB.out) ?_
      try simp only [Act.put, List.setIfInBounds_toArray, List.set_cons_zero, List.set_cons_succ]
      refine ph_take (i := 27) (v := ?_) NS rfl (by as_aux_lemma => kernel_rfl) (by as_aux_lemma => kernel_rfl) (fun _ _ _ h => h) (by rfl) ?_ (HS.out _ HB.out) ?_
      rotate_left
      · (intro w hSw; (try dsimp only at hSw); go_simp; try with_reducible rfl)
      try simp only [Act.put, List.setIfInBounds_toArray, List.set_cons_zero, List.set_cons_succ]
      refine ph_take (i := 28) (v := ?_) NS rfl (by as_aux_lemma => kernel_rfl) (by as_aux_lemma => kernel_rfl) (fun _ _ _ h => h) (by rfl) ?_ (HS.out _ HB.out) ?_
      rotate_left
      · (intro w hSw; (try dsimp only at hSw); go_simp; try with_reducible rfl)
      try simp only [Act.put, List.setIfInBounds_toArray, List.set_cons_zero, List.set_cons_succ]
      refine ph_take (i := 29) (v := ?_) NS rfl (by as_aux_lemma => kernel_rfl) (by as_aux_lemma => kernel_rfl) (fun _ _ _ h => h) (by rfl) ?_ (HS.out _ HB.out) ?_
      rotate_left
      · (intro w hSw; (try dsimp only at hSw); go_simp; try with_reducible rfl)
      try simp only [Act.put, List.setIfInBounds_toArray, List.set_cons_zero, List.set_cons_succ]
      refine wpAnyH_done (by as_aux_lemma => kernel_rfl) ?_ _
      go_wp2
      go_ret
      exact ⟨rfl, HB⟩
    · skip
      go_enter Try.func5, Try.ntmps5
      go_wp2_with (first
        | (go_at_call 6; (with_reducible refine (D6.out _ HB.out).mono ?_); rintro e V ⟨rfl, HB⟩)
        | (go_at_call 9; (with_reducible refine (D9.out _ HB.out).mono ?_); rintro e V ⟨rfl, HB⟩)
        | (go_at_call 15; (with_reducible refine (D15.out _ HB.out).mono ?_); rintro e V ⟨rfl, HB⟩))
      go_quiet (fail)
      go_wp2
      replace HB : Hid (Below w.heap.size w (V.drewN nq)) := below_drewN HB.out _
      generalize V.drewN nq = V at HB ⊢
      refine ph_open (fun W => W.cell? ⟨b, off + N, none⟩ = some (.int .u8 v1)) (by kernel_rfl) ?_ (by as_aux_lemma => kernel_rfl) (fun NS hHeld => ?_)
      · exact HS.out _ (below_drew HB.out)
      replace HB : Hid (Below w.heap.size w V.drew) := below_drew HB.out
      refine ph_take (i := 0) (v := ?_) NS rfl (by as_aux_lemma => kernel_rfl) (by as_aux_lemma => kernel_rfl) (fun _ _ _ h => h) (by rfl) ?_ (HS.out _ HB.out) ?_
      rotate_left
      · (intro w hSw; (try dsimp only at hSw); go_simp; try with_reducible rfl)
      try simp only [Act.put, List.setIfInBounds_toArray, List.set_cons_zero, List.set_cons_succ]
      refine ph_take (i := 1) (v := ?_) NS rfl (by as_aux_lemma => kernel_rfl) (by as_aux_lemma => kernel_rfl) (fun _ _ _ h => h) (by rfl) ?_ (HS.out _ HB.out) ?_
      rotate_left
      · (intro w hSw; (try dsimp only at hSw); go_simp; try with_reducible rfl)
      try simp only [Act.put, List.setIfInBounds_toArray, List.set_cons_zero, List.set_cons_succ]
      refine ph_take (i := 2) (v := ?_) NS rfl (by as_aux_lemma => kernel_rfl) (by as_aux_lemma => kernel_rfl) (fun _ _ _ h => h) (by rfl) ?_ (HS.out _ HB.out) ?_
      rotate_left
      · (intro w hSw; (try dsimp only at hSw); go_simp; try with_reducible rfl)
      try simp only [Act.put, List.setIfInBounds_toArray, List.set_cons_zero, List.set_cons_succ]
      refine ph_take (i := 3) (v := ?_) NS rfl (by as_aux_lemma => kernel_rfl) (by as_aux_lemma => kernel_rfl) (fun _ _ _ h => h) (by rfl) ?_ (HS.out _ HB.out) ?_
      rotate_left
      · (intro w hSw; (try dsimp only at hSw); go_simp; try with_reducible rfl)
      try simp only [Act.put, List.setIfInBounds_toArray, List.set_cons_zero, List.set_cons_succ]
      refine ph_take (i := 4) (v := ?_) NS rfl (by as_aux_lemma => kernel_rfl) (by as_aux_lemma => kernel_rfl) (fun _ _ _ h => h) (by rfl) ?_ (HS.out _ HB.out) ?_
      rotate_left
      · (intro w hSw; (try dsimp only at hSw); go_simp; try with_reducible rfl)
      try simp only [Act.put, List.setIfInBounds_toArray, List.set_cons_zero, List.set_cons_succ]
      refine ph_take (i := 6) (v := ?_) NS rfl (by as_aux_lemma => kernel_rfl) (by as_aux_lemma => kernel_rfl) (fun _ _ _ h => h) (by rfl) ?_ (HS.out _ HB.out) ?_
      rotate_left
      · (intro w hSw; (try dsimp only at hSw); go_simp; try with_reducible rfl)
      try simp only [Act.put, List.setIfInBounds_toArray, List.set_cons_zero, List.set_cons_succ]
      refine ph_take (i := 7) (v := ?_) NS rfl (by as_aux_lemma => kernel_rfl) (by as_aux_lemma => kernel_rfl) (fun _ _ _ h => h) (by rfl) ?_ (HS.out _ HB.out) ?_
      rotate_left
      · (intro w hSw; (try dsimp only at hSw); go_simp; try with_reducible rfl)
      try simp only [Act.put, List.setIfInBounds_toArray, List.set_cons_zero, List.set_cons_succ]
      refine ph_take (i := 8) (v := ?_) NS rfl (by as_aux_lemma => kernel_rfl) (by as_aux_lemma => kernel_rfl) (fun _ _ _ h => h) (by rfl) ?_ (HS.out _ HB.out) ?_
      rotate_left
      · (intro w hSw; (try dsimp only at hSw); go_simp; try with_reducible rfl)
      try simp only [Act.put, List.setIfInBounds_toArray, List.set_cons_zero, List.set_cons_succ]
      refine ph_take (i := 9) (v := ?_) NS rfl (by as_aux_lemma => kernel_rfl) (by as_aux_lemma => kernel_rfl) (fun _ _ _ h => h) (by rfl) ?_ (HS.out _ HB.out) ?_
      rotate_left
      · (intro w hSw; (try dsimp only at hSw); go_simp; try with_reducible rfl)
      try simp only [Act.put, List.setIfInBounds_toArray, List.set_cons_zero, List.set_cons_succ]
      refine ph_take (i := 10) (v := ?_) NS rfl (by as_aux_lemma => kernel_rfl) (by as_aux_lemma => kernel_rfl) (fun _ _ _ h => h) (by rfl) ?_ (HS.out _ HB.out) ?_
      rotate_left
      · (intro w hSw; (try dsimp only at hSw); go_simp; try with_reducible rfl)
      try simp only [Act.put, List.setIfInBounds_toArray, List.set_cons_zero, List.set_cons_succ]
      refine ph_take (i := 11) (v := ?_) NS rfl (by as_aux_lemma => kernel_rfl) (by as_aux_lemma => kernel_rfl) (fun _ _ _ h => h) (by rfl) ?_ (HS.out _ HB.out) ?_
      rotate_left
      · (intro w hSw; (try dsimp only at hSw); go_simp; try with_reducible rfl)
      try simp only [Act.put, List.setIfInBounds_toArray, List.set_cons_zero, List.set_cons_succ]
      refine ph_take (i := 12) (v := ?_) NS rfl (by as_aux_lemma => kernel_rfl) (by as_aux_lemma => kernel_rfl) (fun _ _ _ h => h) (by rfl) ?_ (HS.out _ HB.out) ?_
      rotate_left
      · (intro w hSw; (try dsimp only at hSw); go_simp; try with_reducible rfl)
      try simp only [Act.put, List.setIfInBounds_toArray, List.set_cons_zero, List.set_cons_succ]
      refine ph_step (i := 5) rfl (by as_aux_lemma => kernel_rfl) (by rfl) (fun KK hK => ?_)
      go_simp
      (go_at_call 9; (with_reducible refine (DX.out _ HB.out).mono ?_); rintro e V ⟨rfl, HB⟩)
      refine hK.out _ _ ?_ (fun hHeld => ?_)
      · exact HS.out _ HB.out
      clear hK KK
      try simp only [Act.put, List.setIfInBounds_toArray, List.set_cons_zero, List.set_cons_succ]
      refine ph_take (i := 13) (v := ?_) NS rfl (by as_aux_lemma => kernel_rfl) (by as_aux_lemma => kernel_rfl) (fun _ _ _ h => h) (by rfl) ?_ (HS.out _ HB.out) ?_
      rotate_left
      · (intro w hSw; (try dsimp only at hSw); go_simp; try with_reducible rfl)
      try simp only [Act.put, List.setIfInBounds_toArray, List.set_cons_zero, List.set_cons_succ]
      refine ph_take (i := 14) (v := ?_) NS rfl (by as_aux_lemma => kernel_rfl) (by as_aux_lemma => kernel_rfl) (fun _ _ _ h => h) (by rfl) ?_ (HS.out _ HB.out) ?_
      rotate_left
      · (intro w hSw; (try dsimp only at hSw); go_simp; try with_reducible rfl)
      try simp only [Act.put, List.setIfInBounds_toArray, List.set_cons_zero, List.set_cons_succ]
      refine ph_take (i := 15) (v := ?_) NS rfl (by as_aux_lemma => kernel_rfl) (by as_aux_lemma => kernel_rfl) (fun _ _ _ h => h) (by rfl) ?_ (HS.out _ HB.out) ?_
      rotate_left
      · (intro w hSw; (try dsimp only at hSw); go_simp; try with_reducible rfl)
      try simp only [Act.put, List.setIfInBounds_toArray, List.set_cons_zero, List.set_cons_succ]
      refine ph_take (i := 16) (v := ?_) NS rfl (by as_aux_lemma => kernel_rfl) (by as_aux_lemma => kernel_rfl) (fun _ _ _ h => h) (by rfl) ?_ (HS.out _ HB.out) ?_
      rotate_left
      · (intro w hSw; (try dsimp only at hSw); go_simp; try with_reducible rfl)
      try simp only [Act.put, List.setIfInBounds_toArray, List.set_cons_zero, List.set_cons_succ]
      refine ph_take (i := 17) (v := ?_) NS rfl (by as_aux_lemma => kernel_rfl) (by as_aux_lemma => kernel_rfl) (fun _ _ _ h => h) (by rfl) ?_ (HS.out _ HB.out) ?_
      rotate_left
      · (intro w hSw; (try dsimp only at hSw); go_simp; try with_reducible rfl)
      try simp only [Act.put, List.setIfInBounds_toArray, List.set_cons_zero, List.set_cons_succ]
      refine ph_take (i := 18) (v := ?_) NS rfl (by as_aux_lemma => kernel_rfl) (by as_aux_lemma => kernel_rfl) (fun _ _ _ h => h) (by rfl) ?_ (HS.out _ HB.out) ?_
      rotate_left
      · (intro w hSw; (try dsimp only at hSw); go_simp; try with_reducible rfl)
      try simp only [Act.put, List.setIfInBounds_toArray, List.set_cons_zero, List.set_cons_succ]
      refine ph_take (i := 19) (v := ?_) NS rfl (by as_aux_lemma => kernel_rfl) (by as_aux_lemma => kernel_rfl) (fun _ _ _ h => h) (by rfl) ?_ (HS.out _ HB.out) ?_
      rotate_left
      · (intro w hSw; (try dsimp only at hSw); go_simp; try with_reducible rfl)
      try simp only [Act.put, List.setIfInBounds_toArray, List.set_cons_zero, List.set_cons_succ]
      refine ph_skip (i := 20) NS rfl (by as_aux_lemma => kernel_rfl) (by as_aux_lemma => kernel_rfl) (fun _ _ _ h => h) (by rfl) (HS.out _ HB.out) ?_
      try simp only [Act.put, List.setIfInBounds_toArray, List.set_cons_zero, List.set_cons_succ]
      refine ph_skip (i := 21) NS rfl (by as_aux_lemma => kernel_rfl) (by as_aux_lemma => kernel_rfl) (fun _ _ _ h => h) (by rfl) (HS.out _ HB.out) ?_
      try simp only [Act.put, List.setIfInBounds_toArray, List.set_cons_zero, List.set_cons_succ]
      refine ph_skip (i := 22) NS rfl (by as_aux_lemma => kernel_rfl) (by as_aux_lemma => kernel_rfl) (fun _ _ _ h => h) (by rfl) (HS.out _ HB.out) ?_
      try simp only [Act.put, List.setIfInBounds_toArray, List.set_cons_zero, List.set_cons_succ]
      refine ph_skip (i := 23) NS rfl (by as_aux_lemma => kernel_rfl) (by as_aux_lemma => kernel_rfl) (fun _ _ _ h => h) (by rfl) (HS.out _ HB.out) ?_
      try simp only [Act.put, List.setIfInBounds_toArray, List.set_cons_zero, List.set_cons_succ]
      refine ph_skip (i := 24) NS rfl (by as_aux_lemma => kernel_rfl) (by as_aux_lemma => kernel_rfl) (fun _ _ _ h => h) (by rfl) (HS.out _ HB.out) ?_
      try simp only [Act.put, List.setIfInBounds_toArray, List.set_cons_zero, List.set_cons_succ]
      refine ph_skip (i := 25) NS rfl (by as_aux_lemma => kernel_rfl) (by as_aux_lemma => kernel_rfl) (fun _ _ _ h => h) (by rfl) (HS.out _ HB.out) ?_
      try simp only [Act.put, List.setIfInBounds_toArray, List.set_cons_zero, List.set_cons_succ]
      refine ph_skip (i := 26) NS rfl (by as_aux_lemma => kernel_rfl) (by as_aux_lemma => kernel_rfl) (fun _ _ _ h => h) (by rfl) (HS.out _ HB.out) ?_
      try simp only [Act.put, List.setIfInBounds_toArray, List.set_cons_zero, List.set_cons_succ]
      refine ph_take (i := 27) (v := ?_) NS rfl (by as_aux_lemma => kernel_rfl) (by as_aux_lemma => kernel_rfl) (fun _ _ _ h => h) (by rfl) ?_ (HS.out _ HB.out) ?_
      rotate_left
      · (intro w hSw; (try dsimp only at hSw); go_simp; try with_reducible rfl)
      try simp only [Act.put, List.setIfInBounds_toArray, List.set_cons_zero, List.set_cons_succ]
      refine ph_take (i := 28) (v := ?_) NS rfl (by as_aux_lemma => kernel_rfl) (by as_aux_lemma => kernel_rfl) (fun _ _ _ h => h) (by rfl) ?_ (HS.out _ HB.out) ?_
      rotate_left
      · (intro w hSw; (try dsimp only at hSw); go_simp; try with_reducible rfl)
      try simp only [Act.put, List.setIfInBounds_toArray, List.set_cons_zero, List.set_cons_succ]
      refine ph_take (i := 29) (v := ?_) NS rfl (by as_aux_lemma => kernel_rfl) (by as_aux_lemma => kernel_rfl) (fun _ _ _ h => h) (by rfl) ?_ (HS.out _ HB.out) ?_
      rotate_left
      · (intro w hSw; (try dsimp only at hSw); go_simp; try with_reducible rfl)
      try simp only [Act.put, List.setIfInBounds_toArray, List.set_cons_zero, List.set_cons_succ]
      refine wpAnyH_done (by as_aux_lemma => kernel_rfl) ?_ _
      go_wp2
      go_ret
      exact ⟨rfl, HB⟩
end Go.Proofs.Ytohhkogjphgimaa
