/- What the program's New hands back. -/
import Derived.Test.YtdbnegllncjhkaaGreatDoorOvl
import Derived.Test.YtdbnegllncjhkaaGreatDoorTab
import Derived.Test.YtdbnegllncjhkaaGreatDoorInf
namespace Go.Proofs.YtdbnegllncjhkaaGreatDoor
open Go.RowKit Go.Sort Go.Shelf

theorem spvs_one {ls : List Sp} : ∀ u ∈ spvs ls, u.oneCell' = true := by
  intro u hu
  unfold spvs at hu
  rw [List.mem_flatMap] at hu
  obtain ⟨s, _, hs⟩ := hu
  simp [spv] at hs
  rcases hs with rfl | rfl | rfl <;> rfl
def ClPost (ls : List Sp) (w : World) (e : Ending) (w' : World) : Prop :=
  Below w.heap.size w w' ∧ ((e = .returned (.slice none 0 0) ∧ ls = []) ∨ ∃ g c, e = .returned (.slice (some ⟨g, 0, none⟩) ls.length c) ∧ w.heap.size ≤ g ∧ w'.ownsRow w.heap.size 59 3 (.slice (some ⟨g, 0, none⟩) ls.length c) ls.length (spvs ls))
theorem clone25 (A : Option Addr) (n c : Nat) (ls : List Sp) (w : World) (hS : SAt w A n ls) (hA : Flat A) (hn : n ≤ 100000) : Calls Tryz.prog 48 #[.slice A n c] w (ClPost ls w) := by
  have hl := hS.1
  rcases hA with rfl | ⟨b, off, rfl⟩
  · have h0 : n = 0 := by
      rcases Nat.eq_zero_or_pos n with h | h
      · exact h
      · obtain ⟨b, off, e, -⟩ := hS.2 h
        cases e
    subst h0
    refine (Tryz.slices_Clone_nil 0 c w).mono ?_
    rintro e w' ⟨rfl, rfl⟩
    exact ⟨Below.refl _ _, .inl ⟨rfl, List.eq_nil_of_length_eq_zero hl⟩⟩
  · obtain ⟨i0, hi, hz0, hz1, hz2⟩ := info_parts info41
    have hlen : n ≤ 200000 := by omega
    refine (Tryz.slices_Clone i0 _ 3 32 hi hz0 hz1 hz2 rfl (by decide) Tryz.sizeOf59 b off n c (spvs ls) w (by rw [spvs_length, hl]) (mx hlen) (my hlen) (fun j u hj => ?_) spvs_one).mono ?_
    · have := sat_cells hS j u hj
      rw [add_off] at this
      exact this
    · rintro e w' ⟨v, rfl, hown, hv, hb⟩
      rcases hown.2 with ⟨rfl, _⟩ | ⟨g, cap, cur, rfl, hg, _⟩
      · exact absurd rfl hv
      · subst hl
        exact ⟨hb, .inr ⟨g, cap, rfl, hg, hown⟩⟩
/-- The copy put in order: nothing of what was there before is turned. -/
def CsPost (ls : List Sp) (B : Nat) (v : Value) (w : World) (e : Ending) (w' : World) : Prop :=
  e = .returned (.tuple #[]) ∧ Below B w w' ∧ ∃ (ms : List Sp) (A : Option Addr) (c : Nat), ms.Perm ls ∧ Low ms ∧ v = .slice A ls.length c ∧ ls.length ≤ c ∧ (A = none → c = 0) ∧ SAt w' A ls.length ms
theorem sort_any {ls : List Sp} {B : Nat} {v : Value} {w w0 : World} (h : ClPost ls w0 (.returned v) w) (hB : B ≤ w0.heap.size) (hn : ls.length ≤ 100000) : Calls Tryz.prog 49 #[v, .func (.func 50) #[] #[]] w (CsPost ls B v w) := by
  rcases h.2 with ⟨e, rfl⟩ | ⟨g, c, e, hg, hown⟩
  · cases e
    refine (Tryz.slices_SortFunc_none none 0 _ w).mono ?_
    rintro e w' ⟨rfl, rfl⟩
    exact ⟨rfl, Below.refl _ _, [], none, 0, List.Perm.refl _, List.Pairwise.nil, rfl, Nat.le_refl _, fun _ => rfl, SAt.nil _ _⟩
  · cases e
    refine (sort26 hown hn).mono ?_
    rintro e w' ⟨rfl, ms, hp, hl, hS, hg', hb⟩
    have hc : ls.length ≤ c := by
      rcases hown.2 with ⟨h, _⟩ | ⟨g', cap, cur, h, _, _, hc, _⟩
      · cases h
      · cases h; exact hc
    exact ⟨rfl, hb B (Nat.le_trans hB hg), ms, _, c, hp, hl, rfl, hc, (fun h => by cases h), hS⟩

theorem clone_any (A : Option Addr) (n c : Nat) (ls : List Sp) (w : World) (hS : SAt w A n ls) (hA : Flat A) (hn : n ≤ 100000) : Calls Tryz.prog 48 #[.slice A n c] w fun e w' => ∃ A2 c2, e = .returned (.slice A2 n c2) ∧ Hid (ClPost ls w (.returned (.slice A2 n c2)) w') := by
  refine (clone25 A n c ls w hS hA hn).mono ?_
  intro e w' h
  have hl := hS.1
  subst hl
  have h' := h
  rcases h.2 with ⟨rfl, rfl⟩ | ⟨g, c, rfl, -⟩
  · exact ⟨none, 0, rfl, Lib.hid h'⟩
  · exact ⟨_, c, rfl, Lib.hid h'⟩
theorem sort_some {ls : List Sp} {n B : Nat} {A : Option Addr} {c : Nat} {w w0 : World} (h : ClPost ls w0 (.returned (.slice A n c)) w) (hl : ls.length = n) (hB : B ≤ w0.heap.size) (hn : n ≤ 100000) :
    Calls Tryz.prog 49 #[.slice A n c, .func (.func 50) #[] #[]] w fun e w' => e = .returned (.tuple #[]) ∧ Below B w w' ∧ ∃ ms : List Sp, Hid (ms.Perm ls ∧ Low ms ∧ n ≤ c ∧ (A = none → c = 0) ∧ SAt w' A n ms) := by
  refine (sort_any h hB (by omega)).mono ?_
  rintro e w' ⟨rfl, hb, ms, A', c', hp, hlw, hv, hc, hA, hS⟩
  injection hv with h1 h2 h3
  subst h1 h3
  exact ⟨rfl, hb, ms, Lib.hid ⟨hp, hlw, by omega, hA, by rw [h2]; exact hS⟩⟩
theorem flat_of_cl {ls : List Sp} {n c : Nat} {A : Option Addr} {w w' : World} (h : ClPost ls w (.returned (.slice A n c)) w') : Flat A := by
  rcases h.2 with ⟨e, -⟩ | ⟨g, c', e, -⟩
  · cases e; exact .inl rfl
  · cases e; exact .inr ⟨g, 0, rfl⟩
theorem fresh_of_cl {ls : List Sp} {n c : Nat} {A : Option Addr} {w w' : World} (h : ClPost ls w (.returned (.slice A n c)) w') : ∀ a, A = some a → w.heap.size ≤ a.block := by
  intro a ha
  rcases h.2 with ⟨e, -⟩ | ⟨g, c', e, hg, -⟩
  · cases e; cases ha
  · cases e; cases ha; exact hg
def Ahd2 (ls : List Sp) (w : World) (e : Ending) (w' : World) : Prop :=
  ∃ (k : Nat) (x : Int), e = .returned (.tuple #[.int .i64 k, .int .i64 x]) ∧ Below w.heap.size w w' ∧ k ≤ ls.length ∧ Hid ((∀ t ∈ ls.take k, check [] t = 0) ∧ ((x = 0 ∧ k = ls.length) ∨ ∃ s, ls[k]? = some s ∧ x = check [] s ∧ x ≠ 0))
theorem ahead_any (A : Option Addr) (n ca : Nat) (ls : List Sp) (w : World) (hV : SAt w A n ls) (hn : n ≤ 100000) : Calls Tryz.prog 47 #[.slice A n ca] w (Ahd2 ls w) := by
  refine (ahead24 A n ca ls w hV hn).mono ?_
  rintro e w' ⟨hb, ⟨rfl, hf⟩ | ⟨k, s, hs, rfl, hx, hf⟩⟩
  · exact ⟨ls.length, 0, rfl, hb, Nat.le_refl _, Lib.hid ⟨fun t ht => hf t (List.mem_of_mem_take ht), .inl ⟨rfl, rfl⟩⟩⟩
  · exact ⟨k, _, rfl, hb, Nat.le_of_lt (List.getElem?_eq_some_iff.1 hs).1, Lib.hid ⟨hf, .inr ⟨s, hs, rfl, hx⟩⟩⟩

def NwPost (ls : List Sp) (w : World) (e : Ending) (w' : World) : Prop :=
  Below w.heap.size w w' ∧ ((∃ r b A c, addAll [] ls = .ok r ∧ e = .returned (.tuple #[.pointer (some ⟨b, 0, none⟩), .int .i64 0]) ∧ TIn w' (some ⟨b, 0, none⟩) A c r ∧ Flat A ∧ (w.heap.size ≤ b ∧ ∀ a, A = some a → w.heap.size ≤ a.block)) ∨
    (∃ x, addAll [] ls = .error x ∧ x ≠ 0 ∧ e = .returned (.tuple #[.pointer none, .int .i64 x])))
theorem ovl_yes {A : Option Addr} {n ca : Nat} {ms : List Sp} {w : World} (hV : SAt w A n ms) (hn : n ≤ 100000) (h : Apart ms) : Calls Tryz.prog 52 #[.slice A n ca] w fun e w' => e = .returned (.bool false) ∧ Below w.heap.size w w' := by
  refine (overlap29 A n ca ms w hV hn).mono ?_
  rintro e w' ⟨hb, ⟨rfl, -⟩ | ⟨rfl, j, s, t, hs, ht, hle⟩⟩
  · exact ⟨rfl, hb⟩
  · exact absurd (h j s t hs ht) (by omega)
theorem ovl_no {A : Option Addr} {n ca : Nat} {ms : List Sp} {w : World} (hV : SAt w A n ms) (hn : n ≤ 100000) (h : ¬ Apart ms) : Calls Tryz.prog 52 #[.slice A n ca] w fun e w' => e = .returned (.bool true) ∧ Below w.heap.size w w' := by
  refine (overlap29 A n ca ms w hV hn).mono ?_
  rintro e w' ⟨hb, ⟨rfl, ha⟩ | ⟨rfl, -⟩⟩
  · exact absurd ha h
  · exact ⟨rfl, hb⟩
theorem not_apart {ms : List Sp} (h : ¬ Apart ms) : ∃ (j : Nat) (s t : Sp), ms[j]? = some s ∧ ms[j + 1]? = some t ∧ t.a ≤ s.b := by
  refine Classical.byContradiction fun hn => h fun j s t hs ht => ?_
  by_cases h1 : s.b < t.a
  · exact h1
  · exact absurd ⟨j, s, t, hs, ht, by omega⟩ hn
theorem take_all {ls : List Sp} {k : Nat} (h : k = ls.length) : ls.take k = ls := by subst h; exact List.take_length
set_option maxRecDepth 100000 in
set_option maxHeartbeats 2000000 in
theorem new9 (A : Option Addr) (n c : Nat) (ls : List Sp) (w : World) (hS : SAt w A n ls) (hA : Flat A) (hA0 : A = none → c = 0) (hc : n ≤ c) (hn : n ≤ 100000) : Calls Tryz.prog 25 #[.slice A n c] w (NwPost ls w) := by
  have c24 := ahead_any A n c ls w hS hn
  have c25 := fun (w1 : World) (k : Nat) (hb1 : Below w.heap.size w w1) (hk : k ≤ n) => clone_any A k c (ls.take k) w1 ((hS.below hb1).take hk) hA (by omega)
  have HL := Lib.hid hS.1
  have C25 := Lib.hid c25
  clear hS c25
  have HA := Lib.hid hA
  rcases hA with rfl | ⟨b, off, rfl⟩
  · obtain rfl : c = 0 := hA0 rfl
    obtain rfl : n = 0 := by omega
    clear hA0
    go_enter Tryz.func25, Tryz.ntmps25
    go_wp2_with (first
      | (go_at_call 47; (with_reducible refine c24.mono ?_); rintro e w1 ⟨k, x, rfl, hb1, hk, hh⟩; rw [HL.out] at hk; obtain rfl : k = 0 := Nat.le_zero.1 hk; have HH := Lib.hid hh; clear hh; have k25 := C25.out w1 0 hb1 hk)
      | (go_at_call 48; (with_reducible refine k25.mono ?_); rintro e w2 ⟨A2, c2, rfl, hcl⟩; have HCL := Lib.hid hcl; clear hcl; have k26 := sort_some (B := w.heap.size) HCL.out.out rfl hb1.size (Nat.le_trans hk hn))
      | (go_at_call 49; (with_reducible refine k26.mono ?_); rintro e w3 ⟨rfl, hb3, ms, hms⟩; have HMS := Lib.hid hms; clear hms))
    have hB3 : Below w.heap.size w w3 := hb1.trans ((HCL.out.out.1.mono hb1.size).trans hb3)
    by_cases hap : Apart ms
    · have k29 := ovl_yes (ca := c2) HMS.out.out.2.2.2.2 (Nat.le_trans hk hn) hap
      by_cases hx : x = 0
      · subst hx
        have HN : Hid (addAll [] ls = .ok ms ∧ ms.length = 0) := Lib.hid (by
          rcases HH.out.out.2 with ⟨-, hkl⟩ | ⟨s, -, -, h⟩
          · have e := take_all hkl
            have hf := HH.out.out.1
            have hp := HMS.out.out.1
            rw [e] at hf hp
            exact ⟨(new_ok hf hp HMS.out.out.2.1 hap).1, by rw [hp.length_eq, hkl]⟩
          · exact absurd rfl h)
        clear k26 k25 c24
        refine k29.mono ?_
        rintro e w4 ⟨rfl, hb4⟩
        go_wp2
        go_ret2
        have b5 : Below w4.heap.size w4 (w4.alloc (.cells #[.slice A2 0 c2] 85)) := (Below.refl _ _).alloc (Nat.le_refl _) _
        have hs5 := (HMS.out.out.2.2.2.2.below hb4).below b5
        refine ⟨hB3.trans ((hb4.trans (b5.mono hb4.size)).mono hB3.size), .inl ⟨ms, w4.heap.size, A2, c2, HN.out.1, rfl, .inr ⟨w4.heap.size, rfl, by simp, ?_, by rw [HN.out.2]; exact hs5, by rw [HN.out.2]; exact HMS.out.out.2.2.1, HMS.out.out.2.2.2.1⟩, flat_of_cl HCL.out.out, Nat.le_trans hB3.size hb4.size, fun a e => Nat.le_trans hb1.size (fresh_of_cl HCL.out.out a e)⟩⟩
        rw [HN.out.2]
        simp
      · have HN : Hid (addAll [] ls = .error x ∧ x ≠ 0) := Lib.hid (by
          rcases HH.out.out.2 with ⟨h, -⟩ | ⟨s, hs, rfl, h⟩
          · exact absurd h hx
          · exact ⟨new_err HH.out.out.1 HMS.out.out.1 HMS.out.out.2.1 hap hs h, h⟩)
        have hb0 : (x == 0) = false := beq_false_of_ne hx
        clear k26 k25 c24 hx
        refine k29.mono ?_
        rintro e w4 ⟨rfl, hb4⟩
        go_wp2
        go_ret2
        exact ⟨hB3.trans (hb4.mono hB3.size), .inr ⟨x, HN.out.1, HN.out.2, rfl⟩⟩
    · have k29 := ovl_no (ca := c2) HMS.out.out.2.2.2.2 (Nat.le_trans hk hn) hap
      have HN : Hid (addAll [] ls = .error 15) := Lib.hid (by
        obtain ⟨j, s, t, hs, ht, hle⟩ := not_apart hap
        have := new_twice (m := ls.drop 0) HH.out.out.1 HMS.out.out.1 HMS.out.out.2.1 hs ht hle
        rw [List.take_append_drop] at this
        exact this)
      clear k26 k25 c24
      refine k29.mono ?_
      rintro e w4 ⟨rfl, hb4⟩
      go_wp2
      go_ret2
      exact ⟨hB3.trans (hb4.mono hB3.size), .inr ⟨15, HN.out, by decide, rfl⟩⟩
  · clear hA0
    go_enter Tryz.func25, Tryz.ntmps25
    go_wp2_with (first
      | (go_at_call 47; (with_reducible refine c24.mono ?_); rintro e w1 ⟨k, x, rfl, hb1, hk, hh⟩; rw [HL.out] at hk; have HH := Lib.hid hh; clear hh; have hkc : k ≤ c := Nat.le_trans hk hc; have k25 := C25.out w1 k hb1 hk)
      | (go_at_call 48; (with_reducible refine k25.mono ?_); rintro e w2 ⟨A2, c2, rfl, hcl⟩; have HCL := Lib.hid hcl; clear hcl; have k26 := sort_some (B := w.heap.size) HCL.out.out (by rw [List.length_take, HL.out]; omega) hb1.size (Nat.le_trans hk hn))
      | (go_at_call 49; (with_reducible refine k26.mono ?_); rintro e w3 ⟨rfl, hb3, ms, hms⟩; have HMS := Lib.hid hms; clear hms))
    have hB3 : Below w.heap.size w w3 := hb1.trans ((HCL.out.out.1.mono hb1.size).trans hb3)
    by_cases hap : Apart ms
    · have k29 := ovl_yes (ca := c2) HMS.out.out.2.2.2.2 (Nat.le_trans hk hn) hap
      by_cases hx : x = 0
      · subst hx
        have HN : Hid (addAll [] ls = .ok ms ∧ ms.length = k) := Lib.hid (by
          rcases HH.out.out.2 with ⟨-, hkl⟩ | ⟨s, -, -, h⟩
          · have e := take_all hkl
            have hf := HH.out.out.1
            have hp := HMS.out.out.1
            rw [e] at hf hp
            exact ⟨(new_ok hf hp HMS.out.out.2.1 hap).1, by rw [hp.length_eq, hkl]⟩
          · exact absurd rfl h)
        clear k26 k25 c24
        refine k29.mono ?_
        rintro e w4 ⟨rfl, hb4⟩
        go_wp2
        go_ret2
        have b5 : Below w4.heap.size w4 (w4.alloc (.cells #[.slice A2 k c2] 85)) := (Below.refl _ _).alloc (Nat.le_refl _) _
        have hs5 := (HMS.out.out.2.2.2.2.below hb4).below b5
        refine ⟨hB3.trans ((hb4.trans (b5.mono hb4.size)).mono hB3.size), .inl ⟨ms, w4.heap.size, A2, c2, HN.out.1, rfl, .inr ⟨w4.heap.size, rfl, by simp, ?_, by rw [HN.out.2]; exact hs5, by rw [HN.out.2]; exact HMS.out.out.2.2.1, HMS.out.out.2.2.2.1⟩, flat_of_cl HCL.out.out, Nat.le_trans hB3.size hb4.size, fun a e => Nat.le_trans hb1.size (fresh_of_cl HCL.out.out a e)⟩⟩
        rw [HN.out.2]
        simp
      · have HN : Hid (addAll [] ls = .error x ∧ x ≠ 0) := Lib.hid (by
          rcases HH.out.out.2 with ⟨h, -⟩ | ⟨s, hs, rfl, h⟩
          · exact absurd h hx
          · exact ⟨new_err HH.out.out.1 HMS.out.out.1 HMS.out.out.2.1 hap hs h, h⟩)
        have hb0 : (x == 0) = false := beq_false_of_ne hx
        clear k26 k25 c24 hx
        refine k29.mono ?_
        rintro e w4 ⟨rfl, hb4⟩
        go_wp2
        go_ret2
        exact ⟨hB3.trans (hb4.mono hB3.size), .inr ⟨x, HN.out.1, HN.out.2, rfl⟩⟩
    · have k29 := ovl_no (ca := c2) HMS.out.out.2.2.2.2 (Nat.le_trans hk hn) hap
      have HN : Hid (addAll [] ls = .error 15) := Lib.hid (by
        obtain ⟨j, s, t, hs, ht, hle⟩ := not_apart hap
        have := new_twice (m := ls.drop k) HH.out.out.1 HMS.out.out.1 HMS.out.out.2.1 hs ht hle
        rw [List.take_append_drop] at this
        exact this)
      clear k26 k25 c24
      refine k29.mono ?_
      rintro e w4 ⟨rfl, hb4⟩
      go_wp2
      go_ret2
      exact ⟨hB3.trans (hb4.mono hB3.size), .inr ⟨15, HN.out, by decide, rfl⟩⟩
end Go.Proofs.YtdbnegllncjhkaaGreatDoor
