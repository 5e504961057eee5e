/- What the program's New hands back. -/
/- The program's Parse of property files, whole. -/
/- The library's contracts of maps.Keys, slices.Sorted, slices.Sort (at ints) at this program's own numbers (written by the library's laying tool). -/
/- The sources of the program's table of confusables, out of the map's keys: maps.Keys, slices.Sorted. -/
import Derived.Test.YtfakohoamgogoaaGreatDoorQt35
import Derived.Test.YtfakohoamgogoaaGreatDoorQt11
import Derived.Test.YtfakohoamgogoaaGreatDoorQt24
import Derived.Test.YtfakohoamgogoaaGreatDoorQt34
import Derived.Shelf.SlGeneric
import Derived.Shelf.SlIterI.Nil
import Derived.Shelf.SortM.Plain
import Derived.Shelf.SortM.SortNone
import Derived.Ground.GgzProg
import Derived.Ground.SlgmProg
import Derived.Test.YtfakohoamgogoaaGreatDoorProg
namespace Go.Proofs.YtfakohoamgogoaaGreatDoor.Pq
open Go.RowKit Go.Sort Go.Shelf

theorem spvs_one {ls : List Sp} : ∀ u ∈ spvs ls, u.oneCell' = true := by
  intro u hu
  unfold spvs at hu
  rw [List.mem_flatMap] at hu
  obtain ⟨s, _, hs⟩ := hu
  simp [spv] at hs
  rcases hs with rfl | rfl | rfl <;> rfl
def ClPost (ls : List Sp) (w : World) (e : Ending) (w' : World) : Prop :=
  Below w.heap.size w w' ∧ ((e = .returned (.slice none 0 0) ∧ ls = []) ∨ ∃ g c, e = .returned (.slice (some ⟨g, 0, none⟩) ls.length c) ∧ w.heap.size ≤ g ∧ w'.ownsRow w.heap.size 168 3 (.slice (some ⟨g, 0, none⟩) ls.length c) ls.length (spvs ls))
theorem clone25 (A : Option Addr) (n c : Nat) (ls : List Sp) (w : World) (hS : SAt w A n ls) (hA : Flat A) (hn : n ≤ 100000) : Calls Tryz.prog 131 #[.slice A n c] w (ClPost ls w) := by
  have hl := hS.1
  rcases hA with rfl | ⟨b, off, rfl⟩
  · have h0 : n = 0 := by
      rcases Nat.eq_zero_or_pos n with h | h
      · exact h
      · obtain ⟨b, off, e, -⟩ := hS.2 h
        cases e
    subst h0
    refine (Tryz.slices_Clone_nil 0 c w).mono ?_
    rintro e w' ⟨rfl, rfl⟩
    exact ⟨Below.refl _ _, .inl ⟨rfl, List.eq_nil_of_length_eq_zero hl⟩⟩
  · obtain ⟨i0, hi, hz0, hz1, hz2⟩ := info_parts info41
    have hlen : n ≤ 200000 := by omega
    refine (Tryz.slices_Clone i0 _ 3 32 hi hz0 hz1 hz2 rfl (by decide) Tryz.sizeOf168 b off n c (spvs ls) w (by rw [spvs_length, hl]) (mx hlen) (my hlen) (fun j u hj => ?_) spvs_one).mono ?_
    · have := sat_cells hS j u hj
      rw [add_off] at this
      exact this
    · rintro e w' ⟨v, rfl, hown, hv, hb⟩
      rcases hown.2 with ⟨rfl, _⟩ | ⟨g, cap, cur, rfl, hg, _⟩
      · exact absurd rfl hv
      · subst hl
        exact ⟨hb, .inr ⟨g, cap, rfl, hg, hown⟩⟩
/-- The copy put in order: nothing of what was there before is turned. -/
def CsPost (ls : List Sp) (B : Nat) (v : Value) (w : World) (e : Ending) (w' : World) : Prop :=
  e = .returned (.tuple #[]) ∧ Below B w w' ∧ ∃ (ms : List Sp) (A : Option Addr) (c : Nat), ms.Perm ls ∧ Low ms ∧ v = .slice A ls.length c ∧ ls.length ≤ c ∧ (A = none → c = 0) ∧ SAt w' A ls.length ms
theorem sort_any {ls : List Sp} {B : Nat} {v : Value} {w w0 : World} (h : ClPost ls w0 (.returned v) w) (hB : B ≤ w0.heap.size) (hn : ls.length ≤ 100000) : Calls Tryz.prog 132 #[v, .func (.func 133) #[] #[]] w (CsPost ls B v w) := by
  rcases h.2 with ⟨e, rfl⟩ | ⟨g, c, e, hg, hown⟩
  · cases e
    refine (Tryz.slices_SortFunc_none none 0 _ w).mono ?_
    rintro e w' ⟨rfl, rfl⟩
    exact ⟨rfl, Below.refl _ _, [], none, 0, List.Perm.refl _, List.Pairwise.nil, rfl, Nat.le_refl _, fun _ => rfl, SAt.nil _ _⟩
  · cases e
    refine (sort26 hown hn).mono ?_
    rintro e w' ⟨rfl, ms, hp, hl, hS, hg', hb⟩
    have hc : ls.length ≤ c := by
      rcases hown.2 with ⟨h, _⟩ | ⟨g', cap, cur, h, _, _, hc, _⟩
      · cases h
      · cases h; exact hc
    exact ⟨rfl, hb B (Nat.le_trans hB hg), ms, _, c, hp, hl, rfl, hc, (fun h => by cases h), hS⟩

theorem clone_any (A : Option Addr) (n c : Nat) (ls : List Sp) (w : World) (hS : SAt w A n ls) (hA : Flat A) (hn : n ≤ 100000) : Calls Tryz.prog 131 #[.slice A n c] w fun e w' => ∃ A2 c2, e = .returned (.slice A2 n c2) ∧ Hid (ClPost ls w (.returned (.slice A2 n c2)) w') := by
  refine (clone25 A n c ls w hS hA hn).mono ?_
  intro e w' h
  have hl := hS.1
  subst hl
  have h' := h
  rcases h.2 with ⟨rfl, rfl⟩ | ⟨g, c, rfl, -⟩
  · exact ⟨none, 0, rfl, Lib.hid h'⟩
  · exact ⟨_, c, rfl, Lib.hid h'⟩
theorem sort_some {ls : List Sp} {n B : Nat} {A : Option Addr} {c : Nat} {w w0 : World} (h : ClPost ls w0 (.returned (.slice A n c)) w) (hl : ls.length = n) (hB : B ≤ w0.heap.size) (hn : n ≤ 100000) :
    Calls Tryz.prog 132 #[.slice A n c, .func (.func 133) #[] #[]] w fun e w' => e = .returned (.tuple #[]) ∧ Below B w w' ∧ ∃ ms : List Sp, Hid (ms.Perm ls ∧ Low ms ∧ n ≤ c ∧ (A = none → c = 0) ∧ SAt w' A n ms) := by
  refine (sort_any h hB (by omega)).mono ?_
  rintro e w' ⟨rfl, hb, ms, A', c', hp, hlw, hv, hc, hA, hS⟩
  injection hv with h1 h2 h3
  subst h1 h3
  exact ⟨rfl, hb, ms, Lib.hid ⟨hp, hlw, by omega, hA, by rw [h2]; exact hS⟩⟩
theorem flat_of_cl {ls : List Sp} {n c : Nat} {A : Option Addr} {w w' : World} (h : ClPost ls w (.returned (.slice A n c)) w') : Flat A := by
  rcases h.2 with ⟨e, -⟩ | ⟨g, c', e, -⟩
  · cases e; exact .inl rfl
  · cases e; exact .inr ⟨g, 0, rfl⟩
theorem fresh_of_cl {ls : List Sp} {n c : Nat} {A : Option Addr} {w w' : World} (h : ClPost ls w (.returned (.slice A n c)) w') : ∀ a, A = some a → w.heap.size ≤ a.block := by
  intro a ha
  rcases h.2 with ⟨e, -⟩ | ⟨g, c', e, hg, -⟩
  · cases e; cases ha
  · cases e; cases ha; exact hg
def Ahd2 (ls : List Sp) (w : World) (e : Ending) (w' : World) : Prop :=
  ∃ (k : Nat) (x : Int), e = .returned (.tuple #[.int .i64 k, .int .i64 x]) ∧ Below w.heap.size w w' ∧ k ≤ ls.length ∧ Hid ((∀ t ∈ ls.take k, check [] t = 0) ∧ ((x = 0 ∧ k = ls.length) ∨ ∃ s, ls[k]? = some s ∧ x = check [] s ∧ x ≠ 0))
theorem ahead_any (A : Option Addr) (n ca : Nat) (ls : List Sp) (w : World) (hV : SAt w A n ls) (hn : n ≤ 100000) : Calls Tryz.prog 130 #[.slice A n ca] w (Ahd2 ls w) := by
  refine (ahead24 A n ca ls w hV hn).mono ?_
  rintro e w' ⟨hb, ⟨rfl, hf⟩ | ⟨k, s, hs, rfl, hx, hf⟩⟩
  · exact ⟨ls.length, 0, rfl, hb, Nat.le_refl _, Lib.hid ⟨fun t ht => hf t (List.mem_of_mem_take ht), .inl ⟨rfl, rfl⟩⟩⟩
  · exact ⟨k, _, rfl, hb, Nat.le_of_lt (List.getElem?_eq_some_iff.1 hs).1, Lib.hid ⟨hf, .inr ⟨s, hs, rfl, hx⟩⟩⟩

def NwPost (ls : List Sp) (w : World) (e : Ending) (w' : World) : Prop :=
  Below w.heap.size w w' ∧ ((∃ r b A c, addAll [] ls = .ok r ∧ e = .returned (.tuple #[.pointer (some ⟨b, 0, none⟩), .int .i64 0]) ∧ TIn w' (some ⟨b, 0, none⟩) A c r ∧ Flat A ∧ (w.heap.size ≤ b ∧ ∀ a, A = some a → w.heap.size ≤ a.block)) ∨
    (∃ x, addAll [] ls = .error x ∧ x ≠ 0 ∧ e = .returned (.tuple #[.pointer none, .int .i64 x])))
theorem ovl_yes {A : Option Addr} {n ca : Nat} {ms : List Sp} {w : World} (hV : SAt w A n ms) (hn : n ≤ 100000) (h : Apart ms) : Calls Tryz.prog 134 #[.slice A n ca] w fun e w' => e = .returned (.bool false) ∧ Below w.heap.size w w' := by
  refine (overlap29 A n ca ms w hV hn).mono ?_
  rintro e w' ⟨hb, ⟨rfl, -⟩ | ⟨rfl, j, s, t, hs, ht, hle⟩⟩
  · exact ⟨rfl, hb⟩
  · exact absurd (h j s t hs ht) (by omega)
theorem ovl_no {A : Option Addr} {n ca : Nat} {ms : List Sp} {w : World} (hV : SAt w A n ms) (hn : n ≤ 100000) (h : ¬ Apart ms) : Calls Tryz.prog 134 #[.slice A n ca] w fun e w' => e = .returned (.bool true) ∧ Below w.heap.size w w' := by
  refine (overlap29 A n ca ms w hV hn).mono ?_
  rintro e w' ⟨hb, ⟨rfl, ha⟩ | ⟨rfl, -⟩⟩
  · exact absurd ha h
  · exact ⟨rfl, hb⟩
theorem not_apart {ms : List Sp} (h : ¬ Apart ms) : ∃ (j : Nat) (s t : Sp), ms[j]? = some s ∧ ms[j + 1]? = some t ∧ t.a ≤ s.b := by
  refine Classical.byContradiction fun hn => h fun j s t hs ht => ?_
  by_cases h1 : s.b < t.a
  · exact h1
  · exact absurd ⟨j, s, t, hs, ht, by omega⟩ hn
theorem take_all {ls : List Sp} {k : Nat} (h : k = ls.length) : ls.take k = ls := by subst h; exact List.take_length
set_option maxRecDepth 100000 in
set_option maxHeartbeats 2000000 in
theorem new9 (A : Option Addr) (n c : Nat) (ls : List Sp) (w : World) (hS : SAt w A n ls) (hA : Flat A) (hA0 : A = none → c = 0) (hc : n ≤ c) (hn : n ≤ 100000) : Calls Tryz.prog 99 #[.slice A n c] w (NwPost ls w) := by
  have c24 := ahead_any A n c ls w hS hn
  have c25 := fun (w1 : World) (k : Nat) (hb1 : Below w.heap.size w w1) (hk : k ≤ n) => clone_any A k c (ls.take k) w1 ((hS.below hb1).take hk) hA (by omega)
  have HL := Lib.hid hS.1
  have C25 := Lib.hid c25
  clear hS c25
  have HA := Lib.hid hA
  rcases hA with rfl | ⟨b, off, rfl⟩
  · obtain rfl : c = 0 := hA0 rfl
    obtain rfl : n = 0 := by omega
    clear hA0
    go_enter Tryz.func99, Tryz.ntmps99
    go_wp2_with (first
      | (go_at_call 130; (with_reducible refine c24.mono ?_); rintro e w1 ⟨k, x, rfl, hb1, hk, hh⟩; rw [HL.out] at hk; obtain rfl : k = 0 := Nat.le_zero.1 hk; have HH := Lib.hid hh; clear hh; have k25 := C25.out w1 0 hb1 hk)
      | (go_at_call 131; (with_reducible refine k25.mono ?_); rintro e w2 ⟨A2, c2, rfl, hcl⟩; have HCL := Lib.hid hcl; clear hcl; have k26 := sort_some (B := w.heap.size) HCL.out.out rfl hb1.size (Nat.le_trans hk hn))
      | (go_at_call 132; (with_reducible refine k26.mono ?_); rintro e w3 ⟨rfl, hb3, ms, hms⟩; have HMS := Lib.hid hms; clear hms))
    have hB3 : Below w.heap.size w w3 := hb1.trans ((HCL.out.out.1.mono hb1.size).trans hb3)
    by_cases hap : Apart ms
    · have k29 := ovl_yes (ca := c2) HMS.out.out.2.2.2.2 (Nat.le_trans hk hn) hap
      by_cases hx : x = 0
      · subst hx
        have HN : Hid (addAll [] ls = .ok ms ∧ ms.length = 0) := Lib.hid (by
          rcases HH.out.out.2 with ⟨-, hkl⟩ | ⟨s, -, -, h⟩
          · have e := take_all hkl
            have hf := HH.out.out.1
            have hp := HMS.out.out.1
            rw [e] at hf hp
            exact ⟨(new_ok hf hp HMS.out.out.2.1 hap).1, by rw [hp.length_eq, hkl]⟩
          · exact absurd rfl h)
        clear k26 k25 c24
        refine k29.mono ?_
        rintro e w4 ⟨rfl, hb4⟩
        go_wp2
        go_ret2
        have b5 : Below w4.heap.size w4 (w4.alloc (.cells #[.slice A2 0 c2] 227)) := (Below.refl _ _).alloc (Nat.le_refl _) _
        have hs5 := (HMS.out.out.2.2.2.2.below hb4).below b5
        refine ⟨hB3.trans ((hb4.trans (b5.mono hb4.size)).mono hB3.size), .inl ⟨ms, w4.heap.size, A2, c2, HN.out.1, rfl, .inr ⟨w4.heap.size, rfl, by simp, ?_, by rw [HN.out.2]; exact hs5, by rw [HN.out.2]; exact HMS.out.out.2.2.1, HMS.out.out.2.2.2.1⟩, flat_of_cl HCL.out.out, Nat.le_trans hB3.size hb4.size, fun a e => Nat.le_trans hb1.size (fresh_of_cl HCL.out.out a e)⟩⟩
        rw [HN.out.2]
        simp
      · have HN : Hid (addAll [] ls = .error x ∧ x ≠ 0) := Lib.hid (by
          rcases HH.out.out.2 with ⟨h, -⟩ | ⟨s, hs, rfl, h⟩
          · exact absurd h hx
          · exact ⟨new_err HH.out.out.1 HMS.out.out.1 HMS.out.out.2.1 hap hs h, h⟩)
        have hb0 : (x == 0) = false := beq_false_of_ne hx
        clear k26 k25 c24 hx
        refine k29.mono ?_
        rintro e w4 ⟨rfl, hb4⟩
        go_wp2
        go_ret2
        exact ⟨hB3.trans (hb4.mono hB3.size), .inr ⟨x, HN.out.1, HN.out.2, rfl⟩⟩
    · have k29 := ovl_no (ca := c2) HMS.out.out.2.2.2.2 (Nat.le_trans hk hn) hap
      have HN : Hid (addAll [] ls = .error 15) := Lib.hid (by
        obtain ⟨j, s, t, hs, ht, hle⟩ := not_apart hap
        have := new_twice (m := ls.drop 0) HH.out.out.1 HMS.out.out.1 HMS.out.out.2.1 hs ht hle
        rw [List.take_append_drop] at this
        exact this)
      clear k26 k25 c24
      refine k29.mono ?_
      rintro e w4 ⟨rfl, hb4⟩
      go_wp2
      go_ret2
      exact ⟨hB3.trans (hb4.mono hB3.size), .inr ⟨15, HN.out, by decide, rfl⟩⟩
  · clear hA0
    go_enter Tryz.func99, Tryz.ntmps99
    go_wp2_with (first
      | (go_at_call 130; (with_reducible refine c24.mono ?_); rintro e w1 ⟨k, x, rfl, hb1, hk, hh⟩; rw [HL.out] at hk; have HH := Lib.hid hh; clear hh; have hkc : k ≤ c := Nat.le_trans hk hc; have k25 := C25.out w1 k hb1 hk)
      | (go_at_call 131; (with_reducible refine k25.mono ?_); rintro e w2 ⟨A2, c2, rfl, hcl⟩; have HCL := Lib.hid hcl; clear hcl; have k26 := sort_some (B := w.heap.size) HCL.out.out (by rw [List.length_take, HL.out]; omega) hb1.size (Nat.le_trans hk hn))
      | (go_at_call 132; (with_reducible refine k26.mono ?_); rintro e w3 ⟨rfl, hb3, ms, hms⟩; have HMS := Lib.hid hms; clear hms))
    have hB3 : Below w.heap.size w w3 := hb1.trans ((HCL.out.out.1.mono hb1.size).trans hb3)
    by_cases hap : Apart ms
    · have k29 := ovl_yes (ca := c2) HMS.out.out.2.2.2.2 (Nat.le_trans hk hn) hap
      by_cases hx : x = 0
      · subst hx
        have HN : Hid (addAll [] ls = .ok ms ∧ ms.length = k) := Lib.hid (by
          rcases HH.out.out.2 with ⟨-, hkl⟩ | ⟨s, -, -, h⟩
          · have e := take_all hkl
            have hf := HH.out.out.1
            have hp := HMS.out.out.1
            rw [e] at hf hp
            exact ⟨(new_ok hf hp HMS.out.out.2.1 hap).1, by rw [hp.length_eq, hkl]⟩
          · exact absurd rfl h)
        clear k26 k25 c24
        refine k29.mono ?_
        rintro e w4 ⟨rfl, hb4⟩
        go_wp2
        go_ret2
        have b5 : Below w4.heap.size w4 (w4.alloc (.cells #[.slice A2 k c2] 227)) := (Below.refl _ _).alloc (Nat.le_refl _) _
        have hs5 := (HMS.out.out.2.2.2.2.below hb4).below b5
        refine ⟨hB3.trans ((hb4.trans (b5.mono hb4.size)).mono hB3.size), .inl ⟨ms, w4.heap.size, A2, c2, HN.out.1, rfl, .inr ⟨w4.heap.size, rfl, by simp, ?_, by rw [HN.out.2]; exact hs5, by rw [HN.out.2]; exact HMS.out.out.2.2.1, HMS.out.out.2.2.2.1⟩, flat_of_cl HCL.out.out, Nat.le_trans hB3.size hb4.size, fun a e => Nat.le_trans hb1.size (fresh_of_cl HCL.out.out a e)⟩⟩
        rw [HN.out.2]
        simp
      · have HN : Hid (addAll [] ls = .error x ∧ x ≠ 0) := Lib.hid (by
          rcases HH.out.out.2 with ⟨h, -⟩ | ⟨s, hs, rfl, h⟩
          · exact absurd h hx
          · exact ⟨new_err HH.out.out.1 HMS.out.out.1 HMS.out.out.2.1 hap hs h, h⟩)
        have hb0 : (x == 0) = false := beq_false_of_ne hx
        clear k26 k25 c24 hx
        refine k29.mono ?_
        rintro e w4 ⟨rfl, hb4⟩
        go_wp2
        go_ret2
        exact ⟨hB3.trans (hb4.mono hB3.size), .inr ⟨x, HN.out.1, HN.out.2, rfl⟩⟩
    · have k29 := ovl_no (ca := c2) HMS.out.out.2.2.2.2 (Nat.le_trans hk hn) hap
      have HN : Hid (addAll [] ls = .error 15) := Lib.hid (by
        obtain ⟨j, s, t, hs, ht, hle⟩ := not_apart hap
        have := new_twice (m := ls.drop k) HH.out.out.1 HMS.out.out.1 HMS.out.out.2.1 hs ht hle
        rw [List.take_append_drop] at this
        exact this)
      clear k26 k25 c24
      refine k29.mono ?_
      rintro e w4 ⟨rfl, hb4⟩
      go_wp2
      go_ret2
      exact ⟨hB3.trans (hb4.mono hB3.size), .inr ⟨15, HN.out, by decide, rfl⟩⟩
end Go.Proofs.YtfakohoamgogoaaGreatDoor.Pq

namespace Go.Proofs.YtfakohoamgogoaaGreatDoor.Pq
open Go.RowKit Go.Shelf

theorem new_fine : NewOk := fun A n c ls W hS hF h0 hc hn r hr => (new9 A n c ls W hS hF h0 hc hn).mono (by
  rintro e w' ⟨hb, ⟨r', b, A', c', h1, rfl, hT, -, hfr⟩ | ⟨x, h1, -, -⟩⟩
  · rw [hr] at h1
    injection h1 with h1
    subst h1
    exact ⟨b, rfl, Lib.hid ⟨hb, A', c', hT, hfr⟩⟩
  · rw [hr] at h1
    cases h1)
theorem pparse9 (A : Option Addr) (n c : Nat) (l : List UInt8) (V : Option Addr) (nv cv : Nat) (vs : List (List UInt8)) (w : World) (hO : Octs w A n l) (hn : n ≤ 4000) (hV : Vals w V nv (strs vs)) (hnv : nv ≤ 1000) (hM : ML w) : Calls Tryz.prog 64 #[.slice A n c, .slice V nv cv] w (PrPost vs l w) :=
  pparse_of new_fine A n c l V nv cv vs w hO hn hV hnv hM
end Go.Proofs.YtfakohoamgogoaaGreatDoor.Pq

namespace Go.Proofs
open Go.Shelf
def Tryz.keysA_ren : Go.Shelf.Ren := ⟨fun | 7 => 102 | 10 => 139 | n => n, fun | 23 => 175 | 26 => 3 | 3 => 25 | 28 => 181 | 0 => 0 | 27 => 180 | 33 => 100 | 4 => 4 | n => n, fun | n => n⟩
theorem Tryz.keysA : Go.Proofs.SlLaysZI.n7 Tryz.prog Tryz.keysA_ren := {
  mixed := by kernel_rfl
  f7 := ⟨Tryz.f102.name, by decide, Tryz.func102.trans (congrArg some (by kernel_rfl))⟩
  f10 := ⟨Tryz.f139.name, by decide, Tryz.func139.trans (congrArg some (by kernel_rfl))⟩
  t0 := Tryz.underlying0
  a0 := Tryz.isAgg0
  z0 := Tryz.sizeOf0
  v0 := Tryz.zeroValue0
  t4 := Tryz.underlying4
  a4 := Tryz.isAgg4
  z4 := Tryz.sizeOf4
  v4 := Tryz.zeroValue4
  t23 := Tryz.underlying175
  a23 := Tryz.isAgg175
  z23 := Tryz.sizeOf175
  v23 := Tryz.zeroValue175
  t26 := Tryz.underlying3
  a26 := Tryz.isAgg3
  z26 := Tryz.sizeOf3
  v26 := Tryz.zeroValue3
  t27 := Tryz.underlying180
  a27 := Tryz.isAgg180
  z27 := Tryz.sizeOf180
  v27 := Tryz.zeroValue180
  t28 := Tryz.underlying181
  a28 := Tryz.isAgg181
  z28 := Tryz.sizeOf181
  v28 := Tryz.zeroValue181
  t33 := Tryz.underlying100
  a33 := Tryz.isAgg100
  z33 := Tryz.sizeOf100
  v33 := Tryz.zeroValue100 }
def Tryz.sortedA_ren : Go.Shelf.Ren := ⟨fun | 6 => 101 | 8 => 137 | 9 => 138 | 11 => 175 | 13 => 165 | 12 => 176 | 23 => 197 | 24 => 198 | 14 => 211 | 15 => 212 | 16 => 213 | 17 => 214 | 18 => 215 | 19 => 216 | 20 => 217 | 21 => 218 | 22 => 219 | 25 => 244 | 26 => 234 | 27 => 235 | 28 => 245 | 29 => 246 | 30 => 91 | 31 => 257 | n => n, fun | 26 => 3 | 28 => 181 | 24 => 25 | 0 => 0 | 3 => 3 | 37 => 194 | 48 => 275 | 50 => 219 | 4 => 4 | 40 => 269 | 39 => 268 | 45 => 98 | 5 => 5 | 9 => 9 | 51 => 294 | 55 => 199 | 57 => 310 | 58 => 311 | 33 => 100 | n => n, fun | n => n⟩
theorem Tryz.sortedA : Go.Proofs.SlLaysZI.n6 Tryz.prog Tryz.sortedA_ren := {
  mixed := by kernel_rfl
  f6 := ⟨Tryz.f101.name, by decide, Tryz.func101.trans (congrArg some (by kernel_rfl))⟩
  f8 := ⟨Tryz.f137.name, by decide, Tryz.func137.trans (congrArg some (by kernel_rfl))⟩
  f11 := ⟨Tryz.f175.name, by decide, Tryz.func175.trans (congrArg some (by kernel_rfl))⟩
  t0 := Tryz.underlying0
  a0 := Tryz.isAgg0
  z0 := Tryz.sizeOf0
  v0 := Tryz.zeroValue0
  t24 := Tryz.underlying25
  a24 := Tryz.isAgg25
  z24 := Tryz.sizeOf25
  v24 := Tryz.zeroValue25
  t26 := Tryz.underlying3
  a26 := Tryz.isAgg3
  z26 := Tryz.sizeOf3
  v26 := Tryz.zeroValue3
  t28 := Tryz.underlying181
  a28 := Tryz.isAgg181
  z28 := Tryz.sizeOf181
  v28 := Tryz.zeroValue181
  i26 := by kernel_rfl }
def Tryz.sortA_ren : Go.Shelf.Ren := ⟨fun | 5 => 138 | 8 => 165 | 7 => 176 | 19 => 197 | 20 => 198 | 10 => 211 | 11 => 212 | 12 => 213 | 13 => 214 | 14 => 215 | 15 => 216 | 16 => 217 | 17 => 218 | 18 => 219 | 30 => 244 | 31 => 234 | 32 => 235 | 33 => 245 | 34 => 246 | 35 => 91 | 40 => 257 | n => n, fun | 23 => 25 | 25 => 3 | 3 => 3 | 32 => 194 | 22 => 25 | 0 => 0 | 44 => 275 | 46 => 219 | 4 => 4 | 36 => 269 | 35 => 268 | 41 => 98 | 5 => 5 | 9 => 9 | 53 => 294 | 57 => 199 | 63 => 310 | 64 => 311 | n => n, fun | n => n⟩
theorem Tryz.sortA : Go.Proofs.SlLaysM.n5 Tryz.prog Tryz.sortA_ren := {
  mixed := by kernel_rfl
  f5 := ⟨Tryz.f138.name, by decide, Tryz.func138.trans (congrArg some (by kernel_rfl))⟩
  f7 := ⟨Tryz.f176.name, by decide, Tryz.func176.trans (congrArg some (by kernel_rfl))⟩
  f8 := Tryz.func165.trans (congrArg some (by kernel_rfl))
  f10 := ⟨Tryz.f211.name, by decide, Tryz.func211.trans (congrArg some (by kernel_rfl))⟩
  f11 := ⟨Tryz.f212.name, by decide, Tryz.func212.trans (congrArg some (by kernel_rfl))⟩
  f12 := ⟨Tryz.f213.name, by decide, Tryz.func213.trans (congrArg some (by kernel_rfl))⟩
  f13 := ⟨Tryz.f214.name, by decide, Tryz.func214.trans (congrArg some (by kernel_rfl))⟩
  f14 := ⟨Tryz.f215.name, by decide, Tryz.func215.trans (congrArg some (by kernel_rfl))⟩
  f15 := ⟨Tryz.f216.name, by decide, Tryz.func216.trans (congrArg some (by kernel_rfl))⟩
  f16 := ⟨Tryz.f217.name, by decide, Tryz.func217.trans (congrArg some (by kernel_rfl))⟩
  f17 := ⟨Tryz.f218.name, by decide, Tryz.func218.trans (congrArg some (by kernel_rfl))⟩
  f18 := ⟨Tryz.f219.name, by decide, Tryz.func219.trans (congrArg some (by kernel_rfl))⟩
  f19 := Tryz.func197.trans (congrArg some (by kernel_rfl))
  f20 := Tryz.func198.trans (congrArg some (by kernel_rfl))
  f30 := ⟨Tryz.f244.name, by decide, Tryz.func244.trans (congrArg some (by kernel_rfl))⟩
  f31 := Tryz.func234.trans (congrArg some (by kernel_rfl))
  f32 := Tryz.func235.trans (congrArg some (by kernel_rfl))
  f33 := ⟨Tryz.f245.name, by decide, Tryz.func245.trans (congrArg some (by kernel_rfl))⟩
  f34 := ⟨Tryz.f246.name, by decide, Tryz.func246.trans (congrArg some (by kernel_rfl))⟩
  f35 := ⟨Tryz.f91.name, by decide, Tryz.func91.trans (congrArg some (by kernel_rfl))⟩
  f40 := ⟨Tryz.f257.name, by decide, Tryz.func257.trans (congrArg some (by kernel_rfl))⟩
  t0 := Tryz.underlying0
  a0 := Tryz.isAgg0
  z0 := Tryz.sizeOf0
  v0 := Tryz.zeroValue0
  t3 := Tryz.underlying3
  a3 := Tryz.isAgg3
  z3 := Tryz.sizeOf3
  v3 := Tryz.zeroValue3
  t4 := Tryz.underlying4
  a4 := Tryz.isAgg4
  z4 := Tryz.sizeOf4
  v4 := Tryz.zeroValue4
  t5 := Tryz.underlying5
  a5 := Tryz.isAgg5
  z5 := Tryz.sizeOf5
  v5 := Tryz.zeroValue5
  t9 := Tryz.underlying9
  a9 := Tryz.isAgg9
  z9 := Tryz.sizeOf9
  v9 := Tryz.zeroValue9
  t22 := Tryz.underlying25
  a22 := Tryz.isAgg25
  z22 := Tryz.sizeOf25
  v22 := Tryz.zeroValue25
  t23 := Tryz.underlying25
  a23 := Tryz.isAgg25
  z23 := Tryz.sizeOf25
  v23 := Tryz.zeroValue25
  t25 := Tryz.underlying3
  a25 := Tryz.isAgg3
  z25 := Tryz.sizeOf3
  v25 := Tryz.zeroValue3
  t32 := Tryz.underlying194
  a32 := Tryz.isAgg194
  z32 := Tryz.sizeOf194
  v32 := Tryz.zeroValue194
  t35 := Tryz.underlying268
  a35 := Tryz.isAgg268
  z35 := Tryz.sizeOf268
  v35 := Tryz.zeroValue268
  t36 := Tryz.underlying269
  a36 := Tryz.isAgg269
  z36 := Tryz.sizeOf269
  v36 := Tryz.zeroValue269
  t41 := Tryz.underlying98
  a41 := Tryz.isAgg98
  z41 := Tryz.sizeOf98
  v41 := Tryz.zeroValue98
  t44 := Tryz.underlying275
  a44 := Tryz.isAgg275
  z44 := Tryz.sizeOf275
  v44 := Tryz.zeroValue275
  t46 := Tryz.underlying219
  a46 := Tryz.isAgg219
  z46 := Tryz.sizeOf219
  v46 := Tryz.zeroValue219
  t53 := Tryz.underlying294
  a53 := Tryz.isAgg294
  z53 := Tryz.sizeOf294
  v53 := Tryz.zeroValue294
  t57 := Tryz.underlying199
  a57 := Tryz.isAgg199
  z57 := Tryz.sizeOf199
  v57 := Tryz.zeroValue199
  t63 := Tryz.underlying310
  a63 := Tryz.isAgg310
  z63 := Tryz.sizeOf310
  v63 := Tryz.zeroValue310
  t64 := Tryz.underlying311
  a64 := Tryz.isAgg311
  z64 := Tryz.sizeOf311
  v64 := Tryz.zeroValue311 }
end Go.Proofs

namespace Go.Proofs.YtfakohoamgogoaaGreatDoor.Cf
open Go.RowKit Go.Shelf

theorem sorts35 (m : Nat) : AnyZI.SortsIn Tryz.prog Tryz.sortedA_ren Fence.wide m :=
  ⟨fun blk off cap ss W hH hblk hsz => callsIn_wide.2 (AnyM.slices_Sort_int Tryz.sortA blk off cap ss W hH hblk hsz),
   fun p cap W => callsIn_wide.2 (AnyM.slices_Sort_int_none Tryz.sortA p cap W)⟩
theorem keys19 (mb : Option Nat) (W : World) : Calls Tryz.prog 102 #[.map mb] W fun e w' => e = .returned (.func (.func 139) #[] #[.pointer (some ⟨W.heap.size, 0, none⟩)]) ∧ w' = W.alloc (.cells #[.map mb] 175) :=
  (callsIn_wide (n := 5)).1 (AnyZI.keys_in Tryz.keysA Fence.wide 5 trivial rfl mb W)
/-- The keys that come are just the sources. -/
theorem keys_are {w : World} {mb n : Nat} {D : DataW Value} {ps : List Pp} (ho : w.ownsMap Tryz.prog 3 tokE mb n D) (hh : ∀ c : Int, Maps.has D (.int .i64 c) = hasS ps c) (hr : Rise ps) : (ps.map Pp.c).Perm (intKeys D) := by
  obtain ⟨es, hD, hpw, -⟩ := ho.entries k3
  obtain ⟨es', hD', hko⟩ := ho.keysOf
  obtain rfl : es = es' := by rw [hD] at hD'; simpa using hD'
  subst hD
  refine perm_intKeys hpw (fun p hp => by obtain ⟨v, hv⟩ := hko p hp; obtain ⟨x, -, hx, -⟩ := Maps.keyOf_i64 Tryz.underlying3 hv; exact ⟨x, hx⟩) (rise_nodup hr) (fun x => ?_)
  rw [hh x, has_iff, List.mem_map]
theorem sort_rise {ps : List Pp} {ss : List Int} (hr : Rise ps) (hp : ss.Perm (ps.map Pp.c)) : ss.mergeSort (fun x y => decide (x ≤ y)) = ps.map Pp.c := by
  have h1 := mergeSort_of_perm_i hp
  have tr : ∀ a b c : Int, leI a b = true → leI b c = true → leI a c = true := fun a b c h1 h2 => by simp only [leI, decide_eq_true_eq] at *; exact Int.le_trans h1 h2
  have tot : ∀ a b : Int, (leI a b || leI b a) = true := fun a b => by simp only [leI, Bool.or_eq_true, decide_eq_true_eq]; exact Int.le_total a b
  refine h1.trans (List.Perm.eq_of_pairwise (le := fun a b => leI a b = true) (fun a b _ _ h1 h2 => ?_) (List.pairwise_mergeSort tr tot _) ?_ (List.mergeSort_perm _ _))
  · simp only [leI, decide_eq_true_eq] at h1 h2
    exact Int.le_antisymm h1 h2
  · rw [List.pairwise_map]
    exact hr.imp (fun h => by simp only [leI, decide_eq_true_eq]; omega)
/-- What slices.Sorted hands back, of the map's keys. -/
def SkPost (ps : List Pp) (W : World) (e : Ending) (w' : World) : Prop :=
  ∃ A k, e = .returned (.slice A ps.length k) ∧ Hid (Below W.heap.size W w' ∧ Vals w' A ps.length (nums .i64 (ps.map Pp.c)) ∧ ∀ a, A = some a → W.heap.size ≤ a.block)
theorem sorted18 (Bm mb n : Nat) (D : DataW Value) (ps : List Pp) (W : World) (hB : W.cell? ⟨Bm, 0, none⟩ = some (.map (some mb))) (ho : W.ownsMap Tryz.prog 3 tokE mb n D) (hh : ∀ c : Int, Maps.has D (.int .i64 c) = hasS ps c) (hr : Rise ps) (hn : n ≤ 1000000) :
    Calls Tryz.prog 101 #[.func (.func 139) #[] #[.pointer (some ⟨Bm, 0, none⟩)]] W (SkPost ps W) := by
  have hsz := ho.size_le
  have hseq : SeqGives Fence.wide 3 Tryz.prog 139 #[.pointer (some ⟨Bm, 0, none⟩)] encZ (fun ss => ss.Perm (intKeys D)) (Maps.size D) W :=
    AnyZI.keys_gives (ρ := Tryz.keysA_ren) { Tryz.keysA with } Fence.wide 3 trivial rfl (by omega) Bm mb n D W (World.block_lt_of_cell? W _ hB) hB ho
  have cS := AnyZI.sorted_in Tryz.sortedA Fence.wide 6 trivial trivial trivial trivial rfl (by omega) (sorts35 _) (enters_of Tryz.func138 (by kernel_rfl) rfl) 139 #[.pointer (some ⟨Bm, 0, none⟩)] trivial (enters_of Tryz.func139 (by kernel_rfl) rfl) _ _ (by unfold maxLen; omega) (by omega) W hseq
  refine ((callsIn_wide (n := 6)).1 cS).mono ?_
  rintro e w' ⟨v, ss, rfl, hS, hrow, -, hb⟩
  have hp := hS.trans (keys_are ho hh hr).symm
  have hl : ss.length = ps.length := by have := hp.length_eq; rwa [List.length_map] at this
  rw [sort_rise hr hp, hl] at hrow
  obtain ⟨A, k, rfl, -, hv, -⟩ := own_vals hrow
  exact ⟨A, k, rfl, Lib.hid ⟨hb, hv, fun a e => (hrow.lt a.block (by rw [e]; rfl)).1⟩⟩
end Go.Proofs.YtfakohoamgogoaaGreatDoor.Cf
