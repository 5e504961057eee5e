/- A table lies in a block of its own; what list, Len, place, Value and Has hand back. -/
import Derived.Test.YtfggoegofbghhaaBin
namespace Go.Proofs.Ytfggoegofbghhaa
open Go.RowKit Go.Sort

theorem side_zero {s t : Sp} : decide (sideOf s t = 0) = meets s t := by
  unfold sideOf meets
  by_cases h1 : s.b < t.a
  · rw [if_pos h1, decide_eq_false (by omega), decide_eq_false (show ¬ t.a ≤ s.b by omega), Bool.and_false]
  · rw [if_neg h1]
    by_cases h2 : t.b < s.a
    · rw [if_pos h2, decide_eq_false (by omega), decide_eq_false (show ¬ s.a ≤ t.b by omega), Bool.false_and]
    · rw [if_neg h2, decide_eq_true (show s.a ≤ t.b by omega), decide_eq_true (show t.a ≤ s.b by omega)]; rfl
theorem found_iff : ∀ {ls : List Sp} {x : Sp}, Rises ls → (∀ s ∈ ls, s.a ≤ s.b) → foundAt ls x = ls.any (meets · x)
  | [], x, _, _ => rfl
  | t :: ls, x, hr, hf => by
    by_cases h : t.b < x.a
    · have ih := found_iff (ls := ls) (x := x) (List.Pairwise.of_cons hr) (fun s hs => hf s (List.mem_cons_of_mem _ hs))
      have hp : placeOf (t :: ls) x = placeOf ls x + 1 := by unfold placeOf; rw [List.takeWhile_cons_of_pos (by simp [h])]; rfl
      have hm : meets t x = false := by unfold meets; rw [decide_eq_false (show ¬ x.a ≤ t.b by omega), Bool.and_false]
      rw [List.any_cons, hm, Bool.false_or, ← ih]
      unfold foundAt
      rw [hp, List.getElem?_cons_succ]
    · have hp : placeOf (t :: ls) x = 0 := by unfold placeOf; rw [List.takeWhile_cons_of_neg (by simp; omega)]; rfl
      have e : foundAt (t :: ls) x = meets t x := by unfold foundAt; rw [hp]; exact side_zero
      rw [e, List.any_cons]
      cases hm : meets t x
      · rw [Bool.false_or]
        symm
        rw [List.any_eq_false]
        intro u hu
        have h1 := (List.pairwise_cons.1 hr).1 u hu
        have h2 := hf t (List.mem_cons_self ..)
        unfold meets at hm ⊢
        rw [decide_eq_true (show x.a ≤ t.b by omega), Bool.and_true] at hm
        have := of_decide_eq_false hm
        simp
        omega
      · rfl
theorem found_some {ls : List Sp} {x : Sp} (h : foundAt ls x = true) : ∃ s, ls[placeOf ls x]? = some s ∧ meets s x = true := by
  unfold foundAt at h
  split at h
  · rename_i t ht
    exact ⟨t, ht, by rw [← side_zero]; exact h⟩
  · cases h
theorem place_le (ls : List Sp) (x : Sp) : placeOf ls x ≤ ls.length := by
  unfold placeOf
  exact (List.takeWhile_sublist _).length_le
theorem value_found {ls : List Sp} {c : Int} {s : Sp} (hr : Rises ls) (hs : ls[placeOf ls ⟨c, c, []⟩]? = some s) (hm : meets s ⟨c, c, []⟩ = true) : valueOf ls c = s.v := by
  unfold meets at hm
  simp at hm
  exact value_at hr (List.mem_of_getElem? hs) hm.1 hm.2
theorem value_none {ls : List Sp} {c : Int} (hr : Rises ls) (hf : ∀ s ∈ ls, s.a ≤ s.b) (h : foundAt ls ⟨c, c, []⟩ = false) : valueOf ls c = [] := by
  rw [found_iff hr hf, List.any_eq_false] at h
  refine value_gap fun s hs hc => h s hs ?_
  unfold meets
  rw [decide_eq_true (show s.a ≤ c from hc.1), decide_eq_true (show c ≤ s.b from hc.2)]; rfl

/-- The pointer p is a table whose slice is (A, c), with the spans ls; nil, if there is no table. -/
def TIn (w : World) (p A : Option Addr) (c : Nat) (ls : List Sp) : Prop :=
  (p = none ∧ ls = [] ∧ A = none ∧ c = 0) ∨ ∃ b, p = some ⟨b, 0, none⟩ ∧ b < w.heap.size ∧ w.cell? ⟨b, 0, none⟩ = some (.slice A ls.length c) ∧ SAt w A ls.length ls ∧ ls.length ≤ c ∧ (A = none → c = 0)
theorem TIn.below {w w' : World} {p A : Option Addr} {c : Nat} {ls : List Sp} (h : TIn w p A c ls) (hb : Below w.heap.size w w') : TIn w' p A c ls := by
  rcases h with h | ⟨b, rfl, hlt, hc, hS, hl⟩
  · exact .inl h
  · exact .inr ⟨b, rfl, Nat.lt_of_lt_of_le hlt hb.size, (hb.cell (p := ⟨b, 0, none⟩) hlt).trans hc, hS.below hb, hl⟩
theorem TIn.none (w : World) : TIn w .none .none 0 [] := .inl ⟨rfl, rfl, rfl, rfl⟩
theorem TIn.sat {w : World} {p A : Option Addr} {c : Nat} {ls : List Sp} (h : TIn w p A c ls) : SAt w A ls.length ls := by
  rcases h with ⟨_, rfl, _, _⟩ | ⟨b, rfl, hlt, hc, hS, hl⟩
  · exact SAt.nil w A
  · exact hS
theorem TIn.cap {w : World} {p A : Option Addr} {c : Nat} {ls : List Sp} (h : TIn w p A c ls) : ls.length ≤ c ∧ (A = .none → c = 0) := by
  rcases h with ⟨_, rfl, _, rfl⟩ | ⟨b, rfl, hlt, hc, hS, hl⟩
  · exact ⟨Nat.le_refl _, fun _ => rfl⟩
  · exact hl
set_option maxRecDepth 100000 in
set_option maxHeartbeats 1000000 in
theorem list31 (p A : Option Addr) (c : Nat) (ls : List Sp) (w : World) (hT : TIn w p A c ls) :
    Calls Try.prog 31 #[.pointer p] w fun e w' => e = .returned (.slice A ls.length c) ∧ Below w.heap.size w w' := by
  have HB := Lib.hid (Below.refl w.heap.size w)
  rcases hT with ⟨rfl, rfl, rfl, rfl⟩ | ⟨b, rfl, hlt, hc, hS, hl⟩
  · go_enter Try.func31, Try.ntmps31
    go_wp2
    go_ret
    exact ⟨rfl, HB.out⟩
  · clear hS hl
    go_enter Try.func31, Try.ntmps31
    go_wp2
    go_ret
    exact ⟨rfl, HB.out⟩
set_option maxRecDepth 100000 in
set_option maxHeartbeats 1000000 in
theorem len13 (p A : Option Addr) (c : Nat) (ls : List Sp) (w : World) (hT : TIn w p A c ls) :
    Calls Try.prog 13 #[.pointer p] w fun e w' => e = .returned (.int .i64 ls.length) ∧ Below w.heap.size w w' := by
  have c31 := list31 p A c ls w hT
  clear hT
  go_enter Try.func13, Try.ntmps13
  go_wp2_with (go_at_call 31; (with_reducible refine c31.mono ?_); rintro e w1 ⟨rfl, hb1⟩)
  go_ret
  exact ⟨rfl, hb1⟩
set_option maxRecDepth 100000 in
set_option maxHeartbeats 2000000 in
theorem place33 (p A : Option Addr) (c : Nat) (ls : List Sp) (x : Sp) (w : World) (hT : TIn w p A c ls) (hn : ls.length ≤ 100000) (hr : Rises ls) (hf : ∀ s ∈ ls, s.a ≤ s.b) :
    Calls Try.prog 33 #[.pointer p, spV x] w (BinPost ls x w) := by
  have mixed : Try.prog.follows .mixedOrders = true := by kernel_rfl
  unfold spV
  obtain ⟨U, hU⟩ : ∃ U, bs x.v = U := ⟨_, rfl⟩
  rw [hU]
  have hbw : Below w.heap.size w (w.alloc (.cells #[.int .i64 x.a, .int .i64 x.b, .string U] 41)) := (Below.refl _ _).alloc (Nat.le_refl _) _
  have hT1 := hT.below hbw
  have e0 : (w.alloc (.cells #[.int .i64 x.a, .int .i64 x.b, .string U] 41)).cell? ⟨w.heap.size, 0, none⟩ = some (.int .i64 x.a) := by simp
  have e1 : (w.alloc (.cells #[.int .i64 x.a, .int .i64 x.b, .string U] 41)).cell? ⟨w.heap.size, 1, none⟩ = some (.int .i64 x.b) := by simp
  have e2 : (w.alloc (.cells #[.int .i64 x.a, .int .i64 x.b, .string U] 41)).cell? ⟨w.heap.size, 2, none⟩ = some (.string U) := by simp
  have e0 := cell_regrown e0
  have e1 := cell_regrown e1
  have e2 := cell_regrown e2
  have HB := Lib.hid hbw
  clear hbw
  go_enter Try.func33, Try.ntmps33
  go_wp2
  obtain ⟨W, hW⟩ : ∃ W, (w.alloc (.cells #[.int .i64 x.a, .int .i64 x.b, .string U] 41)) = W := ⟨_, rfl⟩
  rw [hW] at e0 e1 e2 hT1 HB ⊢
  obtain ⟨l, hl⟩ : ∃ l, w.heap.size = l := ⟨_, rfl⟩
  rw [hl] at e0 e1 e2 ⊢
  have c31 := fun d os => list31 p A c ls (grow (redrawn W d) os) (hT1.below (below_regrown W d os))
  have c42 := fun d os => bin42 A ls.length c ls x (grow (redrawn W d) os) (hT1.below (below_regrown W d os)).sat hn hr hf
  unfold spV BinPost at c42
  rw [hU] at c42
  clear hW hT hT1 hr hf
  refine wp_region_quiet_below mixed (by kernel_rfl) ?_
  repeat (quiet_step (first | (go_at_call 31; exact Calls.regrown_of (c31 _ _)) | (go_at_call 42; exact Calls.regrown_of (c42 _ _))))
  refine wpQuiet_nil ?_
  intro _ hw'
  obtain ⟨⟨dq, osq⟩, hw''⟩ := hw'
  subst hw''
  go_wp2
  go_ret2
  exact ⟨rfl, HB.out.trans ((below_regrown W dq osq).mono HB.out.size)⟩
set_option maxRecDepth 100000 in
set_option maxHeartbeats 2000000 in
theorem value16 (p A : Option Addr) (c : Nat) (ls : List Sp) (z : Int) (w : World) (hT : TIn w p A c ls) (hn : ls.length ≤ 100000) (hr : Rises ls) (hf : ∀ s ∈ ls, s.a ≤ s.b) :
    Calls Try.prog 16 #[.pointer p, .int .i64 z] w fun e w' => e = .returned (.string (bs (valueOf ls z))) ∧ Below w.heap.size w w' := by
  have c33 := place33 p A c ls ⟨z, z, []⟩ w hT hn hr hf
  unfold spV BinPost at c33
  rw [bs_nil] at c33
  cases hfo : foundAt ls ⟨z, z, []⟩
  · have HV := Lib.hid (value_none hr hf hfo)
    rw [hfo] at c33
    clear hT hr hf hfo
    go_enter Try.func16, Try.ntmps16
    go_wp2_with (go_at_call 33; (with_reducible refine c33.mono ?_); rintro e w1 ⟨rfl, hb1⟩)
    go_ret
    exact ⟨by rw [HV.out, bs_nil]; rfl, hb1⟩
  · obtain ⟨s, hs, hm⟩ := found_some hfo
    have HV := Lib.hid (value_found hr hs hm)
    rw [hfo] at c33
    have hkl := (List.getElem?_eq_some_iff.1 hs).1
    rcases hT with ⟨-, rfl, -, -⟩ | ⟨b, rfl, hlt, hc, hS, hl⟩
    · cases hfo
    obtain ⟨b2, off, rfl, hb2, hcc⟩ := hS.2 (by omega)
    obtain ⟨-, -, h3⟩ := hcc _ s hs
    obtain ⟨K, hK⟩ : ∃ K, placeOf ls ⟨z, z, []⟩ = K := ⟨_, rfl⟩
    rw [hK] at c33 h3 hkl
    obtain ⟨T, hT⟩ : ∃ T, bs s.v = T := ⟨_, rfl⟩
    have HT := Lib.hid hT
    rw [hT] at h3
    clear hr hf hfo hs hm hS hl hcc hK hT
    go_enter Try.func16, Try.ntmps16
    go_wp2_with (go_at_call 33; (with_reducible refine c33.mono ?_); rintro e w1 ⟨rfl, hb1⟩; have d1 := (hb1.cell (p := ⟨b, 0, none⟩) hlt).trans hc; have d3 := (hb1.cell (p := ⟨b2, off + K * 3 + 2, none⟩) hb2).trans h3)
    go_ret
    exact ⟨by rw [HV.out, HT.out]; rfl, hb1⟩
end Go.Proofs.Ytfggoegofbghhaa
