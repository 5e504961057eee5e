/- LdhKinds walked. -/
import Derived.Test.YtohhkogjphgimaaRk
import Derived.Test.YtohhkogjphgimaaAw
import Derived.Test.YtohhkogjphgimaaPh
import Derived.Deep.RegionHeld3
namespace Go.Proofs.Ytohhkogjphgimaa
open Go.RowKit
attribute [local go_sem] Oper.semAt_some

set_option maxRecDepth 100000 in
set_option maxHeartbeats 8000000 in
theorem kinds3 (A : Option Addr) (n c : Nat) (l : List UInt8) (w : World) (h : Octs w A n l) (hc : n ≤ c) :
    Calls Try.prog 3 #[.slice A n c] w fun e w' => e = .returned (.bool true) ∧ Hid (Below w.heap.size w w') := by
  have HB : Hid (Below w.heap.size w w) := Below.refl _ _
  have D6 : Hid (∀ W, Below w.heap.size w W → Calls Try.prog 6 #[] W fun e w' => e = .returned (.bool true) ∧ Hid (Below w.heap.size w w')) := fun W hb => lift hb hb.size (awake6 W)
  by_cases hn : 300 < n
  · have hn' : (300 : Int) < (n : Int) := by omega
    clear h
    go_enter Try.func3, Try.ntmps3
    go_wp2_with (go_at_call 6; (with_reducible refine (D6.out _ HB.out).mono ?_); rintro e V ⟨rfl, HB⟩)
    go_ret
    exact ⟨rfl, HB⟩
  have hl := h.len
  have hn' : ¬ (300 : Int) < (n : Int) := by omega
  have HCV : Hid (∀ W, Below w.heap.size w W → (convert 22 9 (.slice A n c)).run Try.prog W = .ok (.string (bs l)) W) := fun W hb => conv22 c (h.below hb)
  have D8 : Hid (∀ W, Below w.heap.size w W → Calls Try.prog 8 #[.slice A n c] W fun e w' => e = .returned (.int .i64 (kindO l)) ∧ Hid (Below w.heap.size w w')) := fun W hb => lift hb hb.size (kind8 A n c l W (h.below hb) (by omega) hc)
  have D9 : Hid (∀ W, Below w.heap.size w W → Calls Try.prog 9 #[.slice A n c] W fun e w' => e = .returned (.bool (isL (l.map lowO))) ∧ Hid (Below w.heap.size w w')) := fun W hb => lift hb hb.size (is9 A n c l W (h.below hb) (by omega))
  have D10 : Hid (∀ W, Below w.heap.size w W → Calls Try.prog 10 #[.slice A n c] W fun e w' => ∃ A1 c1, e = .returned (.slice A1 n c1) ∧ Hid (∀ W2, Below w'.heap.size w' W2 → (convert 22 9 (.slice A1 n c1)).run Try.prog W2 = .ok (.string (bs (l.map lowO))) W2) ∧ Hid (Below w.heap.size w w')) := fun W hb =>
    (lower10 A n c l W (h.below hb) (by omega)).mono (by
      rintro e W' ⟨A1, c1, rfl, -, hB⟩
      exact ⟨A1, c1, rfl, fun W2 hb2 => conv22 c1 (hB.out.2.below hb2), hb.trans (hB.out.1.mono hb.size)⟩)
  have D11 : Hid (∀ X W, Below w.heap.size w W → Below X.heap.size X W → Calls Try.prog 11 #[.string (bs l)] W fun e w' => e = .returned (.string (bs (l.map lowO))) ∧ Hid (Below w.heap.size w w') ∧ Hid (Below X.heap.size X w')) := fun X W hb hx => (rlower11 l W (by omega)).mono fun _ _ ⟨a, b⟩ => ⟨a, hb.trans (b.out.mono hb.size), hx.trans (b.out.mono hx.size)⟩
  have D7 : Hid (∀ W, Below w.heap.size w W → Calls Try.prog 7 #[.string (bs l)] W fun e w' => e = .returned (.int .i64 (kindO l)) ∧ Hid (Below w.heap.size w w')) := fun W hb => lift hb hb.size (rkind7 l W (by omega))
  have E10 : Hid (∀ W, Below w.heap.size w W → Calls Try.prog 10 #[.slice A n c] W fun e w' => ∃ A1 c1, e = .returned (.slice A1 n c1) ∧ Hid (Calls Try.prog 8 #[.slice A1 n c1] w' fun e w2 => e = .returned (.int .i64 (kindO l)) ∧ Hid (Below w.heap.size w w2)) ∧ Hid (Below w.heap.size w w')) := fun W hb =>
    (lower10 A n c l W (h.below hb) (by omega)).mono (by
      rintro e W' ⟨A1, c1, rfl, hcc, hB⟩
      have hb2 := hb.trans (hB.out.1.mono hb.size)
      have k := kind8 A1 n c1 (l.map lowO) W' hB.out.2 (by omega) hcc
      rw [kind_low] at k
      exact ⟨A1, c1, rfl, lift hb2 hb2.size k, hb2⟩)
  have hK0 : decide (0 < kindO l) = isL (l.map lowO) := by rw [Bool.eq_iff_iff, decide_eq_true_eq]; exact kind_pos l
  obtain ⟨K, hK⟩ : ∃ K, kindO l = K := ⟨_, rfl⟩
  obtain ⟨r, hr⟩ : ∃ r, isL (l.map lowO) = r := ⟨_, rfl⟩
  obtain ⟨t, ht⟩ : ∃ t, bs l = t := ⟨_, rfl⟩
  obtain ⟨T, hT⟩ : ∃ T, bs (l.map lowO) = T := ⟨_, rfl⟩
  rw [hK] at D8 D7 E10 hK0
  rw [hr] at D9 hK0
  rw [ht] at D11 D7 HCV
  rw [hT] at D10 D11
  clear hK hr ht hT h hl
  go_enter Try.func3, Try.ntmps3
  go_wp2_with (first
    | (go_at_call 6; (with_reducible refine (D6.out _ HB.out).mono ?_); rintro e V ⟨rfl, HB⟩; have hcv := HCV.out V HB.out)
    | (go_at_call 7; (with_reducible refine (D7.out _ HB.out).mono ?_); rintro e V ⟨rfl, HB⟩; clear hcv))
  refine ph_open (fun _ => True) (by kernel_rfl) ?_ (by as_aux_lemma => kernel_rfl) (fun NS hHeld => ?_)
  · trivial
  have HB : Hid (Below w.heap.size w V.drew) := below_drew HB.out
  refine ph_take (i := 0) (v := ?_) NS rfl (by as_aux_lemma => kernel_rfl) (by as_aux_lemma => kernel_rfl) (fun _ _ _ h => h) (by rfl) ?_ True.intro ?_
  rotate_left
  · (intro w hSw; (try dsimp only at hSw); go_simp; try with_reducible rfl)
  try simp only [Act.put, List.setIfInBounds_toArray, List.set_cons_zero, List.set_cons_succ]
  refine ph_take (i := 2) (v := ?_) NS rfl (by as_aux_lemma => kernel_rfl) (by as_aux_lemma => kernel_rfl) (fun _ _ _ h => h) (by rfl) ?_ True.intro ?_
  rotate_left
  · (intro w hSw; (try dsimp only at hSw); go_simp; try with_reducible rfl)
  try simp only [Act.put, List.setIfInBounds_toArray, List.set_cons_zero, List.set_cons_succ]
  refine ph_step (i := 1) rfl (by as_aux_lemma => kernel_rfl) (by rfl) (fun KK hK => ?_)
  go_simp
  (go_at_call 8; (with_reducible refine (D8.out _ HB.out).mono ?_); rintro e V ⟨rfl, HB⟩)
  refine hK.out _ _ ?_ (fun hHeld => ?_)
  · trivial
  clear hK KK
  try simp only [Act.put, List.setIfInBounds_toArray, List.set_cons_zero, List.set_cons_succ]
  refine ph_take (i := 3) (v := ?_) NS rfl (by as_aux_lemma => kernel_rfl) (by as_aux_lemma => kernel_rfl) (fun _ _ _ h => h) (by rfl) ?_ True.intro ?_
  rotate_left
  · (intro w hSw; (try dsimp only at hSw); go_simp; try with_reducible rfl)
  try simp only [Act.put, List.setIfInBounds_toArray, List.set_cons_zero, List.set_cons_succ]
  refine ph_take (i := 4) (v := ?_) NS rfl (by as_aux_lemma => kernel_rfl) (by as_aux_lemma => kernel_rfl) (fun _ _ _ h => h) (by rfl) ?_ True.intro ?_
  rotate_left
  · (intro w hSw; (try dsimp only at hSw); go_simp; try with_reducible rfl)
  try simp only [Act.put, List.setIfInBounds_toArray, List.set_cons_zero, List.set_cons_succ]
  refine ph_take (i := 5) (v := ?_) NS rfl (by as_aux_lemma => kernel_rfl) (by as_aux_lemma => kernel_rfl) (fun _ _ _ h => h) (by rfl) ?_ True.intro ?_
  rotate_left
  · (intro w hSw; (try dsimp only at hSw); go_simp; try with_reducible rfl)
  try simp only [Act.put, List.setIfInBounds_toArray, List.set_cons_zero, List.set_cons_succ]
  refine ph_take (i := 7) (v := ?_) NS rfl (by as_aux_lemma => kernel_rfl) (by as_aux_lemma => kernel_rfl) (fun _ _ _ h => h) (by rfl) ?_ True.intro ?_
  rotate_left
  · (intro w hSw; (try dsimp only at hSw); go_simp; try with_reducible rfl)
  try simp only [Act.put, List.setIfInBounds_toArray, List.set_cons_zero, List.set_cons_succ]
  refine ph_take (i := 8) (v := ?_) NS rfl (by as_aux_lemma => kernel_rfl) (by as_aux_lemma => kernel_rfl) (fun _ _ _ h => h) (by rfl) ?_ True.intro ?_
  rotate_left
  · (intro w hSw; (try dsimp only at hSw); go_simp; try with_reducible rfl)
  try simp only [Act.put, List.setIfInBounds_toArray, List.set_cons_zero, List.set_cons_succ]
  refine ph_step (i := 6) rfl (by as_aux_lemma => kernel_rfl) (by rfl) (fun KK hK => ?_)
  go_simp
  (go_at_call 9; (with_reducible refine (D9.out _ HB.out).mono ?_); rintro e V ⟨rfl, HB⟩)
  refine hK.out _ _ ?_ (fun hHeld => ?_)
  · trivial
  clear hK KK
  try simp only [Act.put, List.setIfInBounds_toArray, List.set_cons_zero, List.set_cons_succ]
  refine ph_take (i := 9) (v := ?_) NS rfl (by as_aux_lemma => kernel_rfl) (by as_aux_lemma => kernel_rfl) (fun _ _ _ h => h) (by rfl) ?_ True.intro ?_
  rotate_left
  · (intro w hSw; (try dsimp only at hSw); go_simp; try with_reducible rfl)
  try simp only [Act.put, List.setIfInBounds_toArray, List.set_cons_zero, List.set_cons_succ]
  refine ph_take (i := 10) (v := ?_) NS rfl (by as_aux_lemma => kernel_rfl) (by as_aux_lemma => kernel_rfl) (fun _ _ _ h => h) (by rfl) ?_ True.intro ?_
  rotate_left
  · (intro w hSw; (try dsimp only at hSw); go_simp; try with_reducible rfl)
  try simp only [Act.put, List.setIfInBounds_toArray, List.set_cons_zero, List.set_cons_succ]
  refine ph_take (i := 11) (v := ?_) NS rfl (by as_aux_lemma => kernel_rfl) (by as_aux_lemma => kernel_rfl) (fun _ _ _ h => h) (by rfl) ?_ True.intro ?_
  rotate_left
  · (intro w hSw; (try dsimp only at hSw); go_simp; try with_reducible rfl)
  try simp only [Act.put, List.setIfInBounds_toArray, List.set_cons_zero, List.set_cons_succ]
  refine ph_take (i := 12) (v := ?_) NS rfl (by as_aux_lemma => kernel_rfl) (by as_aux_lemma => kernel_rfl) (fun _ _ _ h => h) (by rfl) ?_ True.intro ?_
  rotate_left
  · (intro w hSw; (try dsimp only at hSw); go_simp; try with_reducible rfl)
  try simp only [Act.put, List.setIfInBounds_toArray, List.set_cons_zero, List.set_cons_succ]
  refine ph_take (i := 15) (v := ?_) NS rfl (by as_aux_lemma => kernel_rfl) (by as_aux_lemma => kernel_rfl) (fun _ _ _ h => h) (by rfl) ?_ True.intro ?_
  rotate_left
  · (intro w hSw; (try dsimp only at hSw); go_simp; try with_reducible rfl)
  try simp only [Act.put, List.setIfInBounds_toArray, List.set_cons_zero, List.set_cons_succ]
  refine ph_step (i := 13) rfl (by as_aux_lemma => kernel_rfl) (by rfl) (fun KK hK => ?_)
  go_simp
  (go_at_call 10; (with_reducible refine (D10.out _ HB.out).mono ?_); rintro e V ⟨A1, c1, rfl, HC1, HB⟩)
  have HV : Hid (Below V.heap.size V V) := Below.refl _ _
  refine hK.out _ _ ?_ (fun hHeld => ?_)
  · trivial
  clear hK KK
  try simp only [Act.put, List.setIfInBounds_toArray, List.set_cons_zero, List.set_cons_succ]
  refine ph_two (i := 14) (j := 16) rfl rfl (by as_aux_lemma => kernel_rfl) (by rfl) (by rfl) (fun KK hK => ?_) (fun KK hK => ?_)
  refine step_conv _ _ _ _ rfl (HC1.out _ HV.out) ?_
  refine hK.out _ _ ?_ (fun hHeld => ?_)
  · trivial
  clear hK KK
  try simp only [Act.put, List.setIfInBounds_toArray, List.set_cons_zero, List.set_cons_succ]
  refine ph_step (i := 16) rfl (by as_aux_lemma => kernel_rfl) (by rfl) (fun KK hK => ?_)
  go_simp
  (go_at_call 11; (with_reducible refine (D11.out _ _ HB.out HV.out).mono ?_); rintro e V2 ⟨rfl, HB, HV⟩)
  refine hK.out _ _ ?_ (fun hHeld => ?_)
  · trivial
  clear hK KK
  try simp only [Act.put, List.setIfInBounds_toArray, List.set_cons_zero, List.set_cons_succ]
  rotate_left
  go_simp
  (go_at_call 11; (with_reducible refine (D11.out _ _ HB.out HV.out).mono ?_); rintro e V2 ⟨rfl, HB, HV⟩)
  refine hK.out _ _ ?_ (fun hHeld => ?_)
  · trivial
  clear hK KK
  try simp only [Act.put, List.setIfInBounds_toArray, List.set_cons_zero, List.set_cons_succ]
  refine ph_step (i := 14) rfl (by as_aux_lemma => kernel_rfl) (by rfl) (fun KK hK => ?_)
  refine step_conv _ _ _ _ rfl (HC1.out _ HV.out) ?_
  refine hK.out _ _ ?_ (fun hHeld => ?_)
  · trivial
  clear hK KK
  try simp only [Act.put, List.setIfInBounds_toArray, List.set_cons_zero, List.set_cons_succ]
  all_goals
    refine ph_take (i := 17) (v := ?_) NS rfl (by as_aux_lemma => kernel_rfl) (by as_aux_lemma => kernel_rfl) (fun _ _ _ h => h) (by rfl) ?_ True.intro ?_
    rotate_left
    · (intro w hSw; (try dsimp only at hSw); go_simp; try with_reducible rfl)
    try simp only [Act.put, List.setIfInBounds_toArray, List.set_cons_zero, List.set_cons_succ]
    refine ph_take (i := 18) (v := ?_) NS rfl (by as_aux_lemma => kernel_rfl) (by as_aux_lemma => kernel_rfl) (fun _ _ _ h => h) (by rfl) ?_ True.intro ?_
    rotate_left
    · (intro w hSw; (try dsimp only at hSw); go_simp; try with_reducible rfl)
    try simp only [Act.put, List.setIfInBounds_toArray, List.set_cons_zero, List.set_cons_succ]
    refine ph_take (i := 19) (v := ?_) NS rfl (by as_aux_lemma => kernel_rfl) (by as_aux_lemma => kernel_rfl) (fun _ _ _ h => h) (by rfl) ?_ True.intro ?_
    rotate_left
    · (intro w hSw; (try dsimp only at hSw); go_simp; try with_reducible rfl)
    try simp only [Act.put, List.setIfInBounds_toArray, List.set_cons_zero, List.set_cons_succ]
    refine ph_take (i := 20) (v := ?_) NS rfl (by as_aux_lemma => kernel_rfl) (by as_aux_lemma => kernel_rfl) (fun _ _ _ h => h) (by rfl) ?_ True.intro ?_
    rotate_left
    · (intro w hSw; (try dsimp only at hSw); go_simp; try with_reducible rfl)
    try simp only [Act.put, List.setIfInBounds_toArray, List.set_cons_zero, List.set_cons_succ]
    refine ph_take (i := 23) (v := ?_) NS rfl (by as_aux_lemma => kernel_rfl) (by as_aux_lemma => kernel_rfl) (fun _ _ _ h => h) (by rfl) ?_ True.intro ?_
    rotate_left
    · (intro w hSw; (try dsimp only at hSw); go_simp; try with_reducible rfl)
    try simp only [Act.put, List.setIfInBounds_toArray, List.set_cons_zero, List.set_cons_succ]
    refine ph_step (i := 21) rfl (by as_aux_lemma => kernel_rfl) (by rfl) (fun KK hK => ?_)
    go_simp
    (go_at_call 10; (with_reducible refine (E10.out _ HB.out).mono ?_); rintro e V ⟨A2, c2, rfl, E8, HB⟩)
    refine hK.out _ _ ?_ (fun hHeld => ?_)
    · trivial
    clear hK KK
    try simp only [Act.put, List.setIfInBounds_toArray, List.set_cons_zero, List.set_cons_succ]
    refine ph_step (i := 22) rfl (by as_aux_lemma => kernel_rfl) (by rfl) (fun KK hK => ?_)
    go_simp
    (go_at_call 8; (with_reducible refine (E8.out).mono ?_); rintro e V ⟨rfl, HB⟩)
    refine hK.out _ _ ?_ (fun hHeld => ?_)
    · trivial
    clear hK KK
    try simp only [Act.put, List.setIfInBounds_toArray, List.set_cons_zero, List.set_cons_succ]
    refine ph_take (i := 24) (v := ?_) NS rfl (by as_aux_lemma => kernel_rfl) (by as_aux_lemma => kernel_rfl) (fun _ _ _ h => h) (by rfl) ?_ True.intro ?_
    rotate_left
    · (intro w hSw; (try dsimp only at hSw); go_simp; try with_reducible rfl)
    try simp only [Act.put, List.setIfInBounds_toArray, List.set_cons_zero, List.set_cons_succ]
    refine ph_take (i := 25) (v := ?_) NS rfl (by as_aux_lemma => kernel_rfl) (by as_aux_lemma => kernel_rfl) (fun _ _ _ h => h) (by rfl) ?_ True.intro ?_
    rotate_left
    · (intro w hSw; (try dsimp only at hSw); go_simp; try with_reducible rfl)
    try simp only [Act.put, List.setIfInBounds_toArray, List.set_cons_zero, List.set_cons_succ]
    refine ph_take (i := 26) (v := ?_) NS rfl (by as_aux_lemma => kernel_rfl) (by as_aux_lemma => kernel_rfl) (fun _ _ _ h => h) (by rfl) ?_ True.intro ?_
    rotate_left
    · (intro w hSw; (try dsimp only at hSw); go_simp; try with_reducible rfl)
    try simp only [Act.put, List.setIfInBounds_toArray, List.set_cons_zero, List.set_cons_succ]
    refine ph_take (i := 27) (v := ?_) NS rfl (by as_aux_lemma => kernel_rfl) (by as_aux_lemma => kernel_rfl) (fun _ _ _ h => h) (by rfl) ?_ True.intro ?_
    rotate_left
    · (intro w hSw; (try dsimp only at hSw); go_simp; try with_reducible rfl)
    try simp only [Act.put, List.setIfInBounds_toArray, List.set_cons_zero, List.set_cons_succ]
    refine ph_take (i := 29) (v := ?_) NS rfl (by as_aux_lemma => kernel_rfl) (by as_aux_lemma => kernel_rfl) (fun _ _ _ h => h) (by rfl) ?_ True.intro ?_
    rotate_left
    · (intro w hSw; (try dsimp only at hSw); go_simp; try with_reducible rfl)
    try simp only [Act.put, List.setIfInBounds_toArray, List.set_cons_zero, List.set_cons_succ]
    refine ph_step (i := 28) rfl (by as_aux_lemma => kernel_rfl) (by rfl) (fun KK hK => ?_)
    refine step_conv _ _ _ _ rfl (HCV.out _ HB.out) ?_
    refine hK.out _ _ ?_ (fun hHeld => ?_)
    · trivial
    clear hK KK
    try simp only [Act.put, List.setIfInBounds_toArray, List.set_cons_zero, List.set_cons_succ]
    refine ph_take (i := 30) (v := ?_) NS rfl (by as_aux_lemma => kernel_rfl) (by as_aux_lemma => kernel_rfl) (fun _ _ _ h => h) (by rfl) ?_ True.intro ?_
    rotate_left
    · (intro w hSw; (try dsimp only at hSw); go_simp; try with_reducible rfl)
    try simp only [Act.put, List.setIfInBounds_toArray, List.set_cons_zero, List.set_cons_succ]
    refine ph_take (i := 31) (v := ?_) NS rfl (by as_aux_lemma => kernel_rfl) (by as_aux_lemma => kernel_rfl) (fun _ _ _ h => h) (by rfl) ?_ True.intro ?_
    rotate_left
    · (intro w hSw; (try dsimp only at hSw); go_simp; try with_reducible rfl)
    try simp only [Act.put, List.setIfInBounds_toArray, List.set_cons_zero, List.set_cons_succ]
    refine ph_take (i := 32) (v := ?_) NS rfl (by as_aux_lemma => kernel_rfl) (by as_aux_lemma => kernel_rfl) (fun _ _ _ h => h) (by rfl) ?_ True.intro ?_
    rotate_left
    · (intro w hSw; (try dsimp only at hSw); go_simp; try with_reducible rfl)
    try simp only [Act.put, List.setIfInBounds_toArray, List.set_cons_zero, List.set_cons_succ]
    refine wpAnyH_done (by as_aux_lemma => kernel_rfl) ?_ _
    go_wp2
    go_ret
    exact ⟨rfl, HB⟩
end Go.Proofs.Ytohhkogjphgimaa
