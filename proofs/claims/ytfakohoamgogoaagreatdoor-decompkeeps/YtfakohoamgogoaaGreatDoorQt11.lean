/- What slices.BinarySearchFunc hands back for spans and side; the program's place. -/
/- A table lies in a block of its own; what list, Len, place, Value and Has hand back. -/
/- What the program's Has hands back. -/
/- The program's table of confusables: prototypes in a map, and the sources in their order; what Len hands back. -/
/- A pair of numbers as a map's key. -/
/- The program's data in memory; what its small methods hand back. -/
import Derived.Test.YtfakohoamgogoaaGreatDoorQt10
import Derived.Lib.QuietBelow
import Derived.BigQuiet
import Derived.Test.YtfakohoamgogoaaGreatDoorQt05
import Derived.Laws.AppendOwnNone
import Derived.Test.YtfakohoamgogoaaGreatDoorProg
import Derived.Lib.Hide
import Derived.WalkKit
import Derived.Maps.OwnIn
import Derived.Maps.Views
import Derived.Shelf.Abstract
import Derived.DeepKeys4
import Derived.Maps.OwnSet
import Derived.Test.YtfakohoamgogoaaGreatDoorQt09
import Derived.Test.YtfakohoamgogoaaGreatDoorQt01
namespace Go.Proofs.YtfakohoamgogoaaGreatDoor.Pq
open Go.RowKit Go.Sort

/-- Where x stands among spans that rise: how many lie wholly ahead of it; and whether the next one has a code point of x. -/
def placeOf (ls : List Sp) (x : Sp) : Nat := (ls.takeWhile fun t => decide (t.b < x.a)).length
def foundAt (ls : List Sp) (x : Sp) : Bool := match ls[placeOf ls x]? with | some t => decide (sideOf t x = 0) | none => false
theorem side_neg {s t : Sp} : sideOf s t < 0 ↔ s.b < t.a := by unfold sideOf; split; · simp [*]
                                                               · split <;> simp [*]
theorem place_at {ls : List Sp} {x : Sp} {k : Nat} (hk : k ≤ ls.length) (h1 : ∀ j s, j < k → ls[j]? = some s → s.b < x.a) (h2 : ∀ j s, k ≤ j → ls[j]? = some s → x.a ≤ s.b) : placeOf ls x = k := by
  unfold placeOf
  induction ls generalizing k with
  | nil => simp at hk; simp [hk]
  | cons t ls ih =>
    cases k with
    | zero =>
      have := h2 0 t (Nat.le_refl _) rfl
      rw [List.takeWhile_cons_of_neg (by simp; omega)]
      rfl
    | succ k =>
      have := h1 0 t (by omega) rfl
      rw [List.takeWhile_cons_of_pos (by simp [this]), List.length_cons, ih (k := k) (by simpa using hk) (fun j s hj hs => h1 (j + 1) s (by omega) (by simpa using hs)) (fun j s hj hs => h2 (j + 1) s (by omega) (by simpa using hs))]
theorem rises_b {ls : List Sp} (hr : Rises ls) (hf : ∀ s ∈ ls, s.a ≤ s.b) {i j : Nat} {s t : Sp} (hij : i ≤ j) (hs : ls[i]? = some s) (ht : ls[j]? = some t) : s.b ≤ t.b := by
  rcases Nat.lt_or_eq_of_le hij with h | h
  · have hi := (List.getElem?_eq_some_iff.1 hs)
    have hj := (List.getElem?_eq_some_iff.1 ht)
    have := List.pairwise_iff_getElem.1 hr i j hi.1 hj.1 h
    rw [hi.2, hj.2] at this
    have := hf t (List.mem_of_getElem? ht)
    omega
  · subst h
    rw [hs] at ht
    injection ht with ht
    rw [ht]
    exact Int.le_refl _

theorem below_grow' (w : World) (q : Nat) (os : Array Obj) : Below w.heap.size w (grow (w.drewN q) os) :=
  ⟨rfl, rfl, rfl, by simp [grow, World.drewN], fun k hk => by rw [heap_grow_old _ _ (by exact hk)]; rfl⟩
theorem side43b (s t : Sp) (w : World) : Calls Tryz.prog 260 #[spV s, spV t] w fun e w' => e = .returned (.int .i64 (sideOf s t)) ∧ Below w.heap.size w w' :=
  (side43 s t w).mono fun _ _ ⟨he, q, os, hw⟩ => ⟨he, by rw [hw]; exact below_grow' w q os⟩
def BinRel (ls : List Sp) (x : Sp) (W : World) (s9 s10 : Value) (wr : World) : Prop :=
  Below W.heap.size W wr ∧ ∃ lo hi : Nat, s9 = .int .i64 lo ∧ s10 = .int .i64 hi ∧ lo ≤ hi ∧ hi ≤ ls.length ∧ (∀ j s, j < lo → ls[j]? = some s → s.b < x.a) ∧ (∀ j s, hi ≤ j → ls[j]? = some s → x.a ≤ s.b)
def BinPost (ls : List Sp) (x : Sp) (w : World) (e : Ending) (w' : World) : Prop :=
  e = .returned (.tuple #[.int .i64 (placeOf ls x), .bool (foundAt ls x)]) ∧ Below w.heap.size w w'
set_option maxRecDepth 100000 in
set_option maxHeartbeats 4000000 in
theorem bin42 (A : Option Addr) (n ca : Nat) (ls : List Sp) (x : Sp) (w : World) (hV : SAt w A n ls) (hn : n ≤ 100000) (hr : Rises ls) (hf : ∀ s ∈ ls, s.a ≤ s.b) :
    Calls Tryz.prog 258 #[.slice A n ca, spV x, .func (.func 260) #[] #[]] w (BinPost ls x w) := by
  have HV := Lib.hid hV
  have HL := Lib.hid hV.1
  have HR := Lib.hid hr
  have HF := Lib.hid hf
  clear hV hr hf
  have mixed : Tryz.prog.follows .mixedOrders = true := by kernel_rfl
  have HX : Hid (spV x = .agg #[.int .i64 x.a, .int .i64 x.b, .string (bs x.v)]) := Lib.hid rfl
  unfold spV
  obtain ⟨U, hU⟩ : ∃ U, bs x.v = U := ⟨_, rfl⟩
  rw [hU] at HX ⊢
  have HU0 := Lib.hid hU
  clear hU
  have HB := Lib.hid (show Below w.heap.size w (w.alloc (.cells #[.int .i64 x.a, .int .i64 x.b, .string U] 168)) from (Below.refl _ _).alloc (Nat.le_refl _) _)
  have hb0 : (w.alloc (.cells #[.int .i64 x.a, .int .i64 x.b, .string U] 168)).cell? ⟨w.heap.size, 0, none⟩ = some (.int .i64 x.a) := by simp
  have hb1 : (w.alloc (.cells #[.int .i64 x.a, .int .i64 x.b, .string U] 168)).cell? ⟨w.heap.size, 1, none⟩ = some (.int .i64 x.b) := by simp
  have hb2 : (w.alloc (.cells #[.int .i64 x.a, .int .i64 x.b, .string U] 168)).cell? ⟨w.heap.size, 2, none⟩ = some (.string U) := by simp
  have hbl : w.heap.size < (w.alloc (.cells #[.int .i64 x.a, .int .i64 x.b, .string U] 168)).heap.size := by simp
  go_enter Tryz.func258, Tryz.ntmps258
  go_wp2
  obtain ⟨W, hW⟩ : ∃ W, (w.alloc (.cells #[.int .i64 x.a, .int .i64 x.b, .string U] 168)) = W := ⟨_, rfl⟩
  rw [hW] at hb0 hb1 hb2 hbl HB ⊢
  obtain ⟨l, hl⟩ : ∃ l, w.heap.size = l := ⟨_, rfl⟩
  rw [hl] at hb0 hb1 hb2 hbl ⊢
  clear hW
  go_loopw [9, 10] (fun s9 s10 wr => BinRel ls x W s9 s10 wr) (fun s9 s10 _ => (intOf s10).toNat - (intOf s9).toNat)
  case atStart => exact ⟨Below.refl _ _, 0, n, rfl, rfl, Nat.zero_le _, by rw [HL.out]; exact Nat.le_refl _, fun j s hj => absurd hj (by omega), fun j s hj hs => by have := (List.getElem?_eq_some_iff.1 hs).1; rw [HL.out] at this; omega⟩
  case round =>
    obtain ⟨hbel, lo, hi, rfl, rfl, hlh, hin, i1, i2⟩ := hrel
    have I1 := Lib.hid i1
    have I2 := Lib.hid i2
    rw [HL.out] at hin
    clear i1 i2
    have e0 := cell_regrown ((hbel.cell (p := ⟨l, 0, none⟩) hbl).trans hb0)
    have e1 := cell_regrown ((hbel.cell (p := ⟨l, 1, none⟩) hbl).trans hb1)
    have e2 := cell_regrown ((hbel.cell (p := ⟨l, 2, none⟩) hbl).trans hb2)
    by_cases hlt : lo < hi
    · obtain ⟨b, off, rfl, hblt, hc⟩ := ((HV.out.below HB.out).below hbel).2 (by omega)
      obtain ⟨m, hm⟩ : ∃ m, (lo + hi) / 2 = m := ⟨_, rfl⟩
      have hmI : ((lo : Int) + (hi : Int)) / 2 = (m : Int) := by omega
      have hml : lo ≤ m := by omega
      have hmh : m < hi := by omega
      have hmn : m < n := by omega
      have HMI := Lib.hid hmI
      clear hm hmI
      obtain ⟨s, hs⟩ := getSp (ls := ls) (k := m) (by rw [HL.out]; omega)
      obtain ⟨h1, h2, h3⟩ := hc _ s hs
      have HS := Lib.hid hs
      have c43 := fun W' => side43b s x W'
      unfold spV at c43
      rw [HU0.out] at c43
      obtain ⟨T, hT⟩ : ∃ T, bs s.v = T := ⟨_, rfl⟩
      rw [hT] at h3 c43
      obtain ⟨X, hX⟩ : ∃ X, sideOf s x = X := ⟨_, rfl⟩
      rw [hX] at c43
      have HXX := Lib.hid hX
      have k1 := cell_regrown h1
      have k2 := cell_regrown h2
      have k3 := cell_regrown h3
      have HBE := Lib.hid hbel
      clear hc hs hT hX h1 h2 h3
      clear hbel
      by_cases hx : X < 0
      · go_wp2
        rw [HMI.out]
        refine wp_region_quiet_below mixed (by kernel_rfl) ?_
        repeat (quiet_step (first | (go_at_call 260; exact Calls.regrown_of (c43 _))))
        refine wpQuiet_nil ?_
        intro _ hw'
        obtain ⟨⟨dq, osq⟩, hw''⟩ := hw'
        subst hw''
        go_wp2
        go_roundw
        case measure => simp [intOf]; omega
        case rel =>
          have hb := below_regrown wr dq osq
          refine ⟨HBE.out.trans (hb.mono HBE.out.size), m + 1, hi, by go_num, rfl, by omega, by rw [HL.out]; omega, fun j t hj ht => ?_, I2.out⟩
          have := side_neg.1 (by rw [HXX.out]; exact hx)
          have := rises_b HR.out HF.out (by omega) ht HS.out
          omega
      · go_wp2
        rw [HMI.out]
        refine wp_region_quiet_below mixed (by kernel_rfl) ?_
        repeat (quiet_step (first | (go_at_call 260; exact Calls.regrown_of (c43 _))))
        refine wpQuiet_nil ?_
        intro _ hw'
        obtain ⟨⟨dq, osq⟩, hw''⟩ := hw'
        subst hw''
        go_wp2
        go_roundw
        case measure => simp [intOf]; omega
        case rel =>
          have hb := below_regrown wr dq osq
          refine ⟨HBE.out.trans (hb.mono HBE.out.size), lo, m, rfl, by go_num, by omega, by rw [HL.out]; omega, I1.out, fun j t hj ht => ?_⟩
          have := mt side_neg.2 (by rw [HXX.out]; omega)
          have := rises_b HR.out HF.out (by omega) HS.out ht
          omega
    · obtain rfl : hi = lo := by omega
      have HP := Lib.hid (place_at (x := x) (by rw [HL.out]; exact hin) I1.out I2.out)
      by_cases hn2 : hi < n
      · obtain ⟨b, off, rfl, hblt, hc⟩ := ((HV.out.below HB.out).below hbel).2 (by omega)
        obtain ⟨s, hs⟩ := getSp (ls := ls) (k := hi) (by rw [HL.out]; omega)
        obtain ⟨h1, h2, h3⟩ := hc _ s hs
        have c43 := fun W' => side43b s x W'
        unfold spV at c43
        rw [HU0.out] at c43
        obtain ⟨T, hT⟩ : ∃ T, bs s.v = T := ⟨_, rfl⟩
        rw [hT] at h3 c43
        have HFo : Hid (foundAt ls x = decide (sideOf s x = 0)) := Lib.hid (by unfold foundAt; rw [HP.out, hs])
        obtain ⟨X, hX⟩ : ∃ X, sideOf s x = X := ⟨_, rfl⟩
        rw [hX] at c43 HFo
        have k1 := cell_regrown h1
        have k2 := cell_regrown h2
        have k3 := cell_regrown h3
        have HBE := Lib.hid hbel
        clear hc hs hT hX h1 h2 h3 hbel
        by_cases hx : X = 0
        · subst hx
          go_wp2
          refine wp_region_quiet_below mixed (by kernel_rfl) ?_
          repeat (quiet_step (first | (go_at_call 260; exact Calls.regrown_of (c43 _))))
          refine wpQuiet_nil ?_
          intro _ hw'
          obtain ⟨⟨dq, osq⟩, hw''⟩ := hw'
          subst hw''
          go_wp2
          go_ret2
          exact ⟨by rw [HP.out, HFo.out]; rfl, HB.out.trans ((HBE.out.trans ((below_regrown wr dq osq).mono HBE.out.size)).mono HB.out.size)⟩
        · have hx0 : (X == 0) = false := beq_false_of_ne hx
          have hxd : decide (X = 0) = false := by simp [hx]
          have HXD := Lib.hid hxd
          clear hx hxd
          go_wp2
          refine wp_region_quiet_below mixed (by kernel_rfl) ?_
          repeat (quiet_step (first | (go_at_call 260; exact Calls.regrown_of (c43 _))))
          refine wpQuiet_nil ?_
          intro _ hw'
          obtain ⟨⟨dq, osq⟩, hw''⟩ := hw'
          subst hw''
          go_wp2
          go_ret2
          exact ⟨by rw [HP.out, HFo.out, HXD.out]; rfl, HB.out.trans ((HBE.out.trans ((below_regrown wr dq osq).mono HBE.out.size)).mono HB.out.size)⟩
      · have HFo : Hid (foundAt ls x = false) := Lib.hid (by unfold foundAt; rw [HP.out, List.getElem?_eq_none (by rw [HL.out]; omega)])
        have HBE := Lib.hid hbel
        clear hbel
        have hd : decide ((hi : Int) < (n : Int)) = false := by simp; omega
        clear e0 e1 e2
        go_wp2
        go_quiet (fail)
        go_wp2
        go_ret2
        exact ⟨by rw [HP.out, HFo.out]; rfl, HB.out.trans ((below_drewN HBE.out _).mono HB.out.size)⟩
end Go.Proofs.YtfakohoamgogoaaGreatDoor.Pq

namespace Go.Proofs.YtfakohoamgogoaaGreatDoor.Pq
open Go.RowKit Go.Sort

theorem side_zero {s t : Sp} : decide (sideOf s t = 0) = meets s t := by
  unfold sideOf meets
  by_cases h1 : s.b < t.a
  · rw [if_pos h1, decide_eq_false (by omega), decide_eq_false (show ¬ t.a ≤ s.b by omega), Bool.and_false]
  · rw [if_neg h1]
    by_cases h2 : t.b < s.a
    · rw [if_pos h2, decide_eq_false (by omega), decide_eq_false (show ¬ s.a ≤ t.b by omega), Bool.false_and]
    · rw [if_neg h2, decide_eq_true (show s.a ≤ t.b by omega), decide_eq_true (show t.a ≤ s.b by omega)]; rfl
theorem found_iff : ∀ {ls : List Sp} {x : Sp}, Rises ls → (∀ s ∈ ls, s.a ≤ s.b) → foundAt ls x = ls.any (meets · x)
  | [], x, _, _ => rfl
  | t :: ls, x, hr, hf => by
    by_cases h : t.b < x.a
    · have ih := found_iff (ls := ls) (x := x) (List.Pairwise.of_cons hr) (fun s hs => hf s (List.mem_cons_of_mem _ hs))
      have hp : placeOf (t :: ls) x = placeOf ls x + 1 := by unfold placeOf; rw [List.takeWhile_cons_of_pos (by simp [h])]; rfl
      have hm : meets t x = false := by unfold meets; rw [decide_eq_false (show ¬ x.a ≤ t.b by omega), Bool.and_false]
      rw [List.any_cons, hm, Bool.false_or, ← ih]
      unfold foundAt
      rw [hp, List.getElem?_cons_succ]
    · have hp : placeOf (t :: ls) x = 0 := by unfold placeOf; rw [List.takeWhile_cons_of_neg (by simp; omega)]; rfl
      have e : foundAt (t :: ls) x = meets t x := by unfold foundAt; rw [hp]; exact side_zero
      rw [e, List.any_cons]
      cases hm : meets t x
      · rw [Bool.false_or]
        symm
        rw [List.any_eq_false]
        intro u hu
        have h1 := (List.pairwise_cons.1 hr).1 u hu
        have h2 := hf t (List.mem_cons_self ..)
        unfold meets at hm ⊢
        rw [decide_eq_true (show x.a ≤ t.b by omega), Bool.and_true] at hm
        have := of_decide_eq_false hm
        simp
        omega
      · rfl
theorem found_some {ls : List Sp} {x : Sp} (h : foundAt ls x = true) : ∃ s, ls[placeOf ls x]? = some s ∧ meets s x = true := by
  unfold foundAt at h
  split at h
  · rename_i t ht
    exact ⟨t, ht, by rw [← side_zero]; exact h⟩
  · cases h
theorem value_found {ls : List Sp} {c : Int} {s : Sp} (hr : Rises ls) (hs : ls[placeOf ls ⟨c, c, []⟩]? = some s) (hm : meets s ⟨c, c, []⟩ = true) : valueOf ls c = s.v := by
  unfold meets at hm
  simp at hm
  exact value_at hr (List.mem_of_getElem? hs) hm.1 hm.2
theorem value_none {ls : List Sp} {c : Int} (hr : Rises ls) (hf : ∀ s ∈ ls, s.a ≤ s.b) (h : foundAt ls ⟨c, c, []⟩ = false) : valueOf ls c = [] := by
  rw [found_iff hr hf, List.any_eq_false] at h
  refine value_gap fun s hs hc => h s hs ?_
  unfold meets
  rw [decide_eq_true (show s.a ≤ c from hc.1), decide_eq_true (show c ≤ s.b from hc.2)]; rfl

/-- The pointer p is a table whose slice is (A, c), with the spans ls; nil, if there is no table. -/
def TIn (w : World) (p A : Option Addr) (c : Nat) (ls : List Sp) : Prop :=
  (p = none ∧ ls = [] ∧ A = none ∧ c = 0) ∨ ∃ b, p = some ⟨b, 0, none⟩ ∧ b < w.heap.size ∧ w.cell? ⟨b, 0, none⟩ = some (.slice A ls.length c) ∧ SAt w A ls.length ls ∧ ls.length ≤ c ∧ (A = none → c = 0)
theorem TIn.below {w w' : World} {p A : Option Addr} {c : Nat} {ls : List Sp} (h : TIn w p A c ls) (hb : Below w.heap.size w w') : TIn w' p A c ls := by
  rcases h with h | ⟨b, rfl, hlt, hc, hS, hl⟩
  · exact .inl h
  · exact .inr ⟨b, rfl, Nat.lt_of_lt_of_le hlt hb.size, (hb.cell (p := ⟨b, 0, none⟩) hlt).trans hc, hS.below hb, hl⟩
theorem TIn.sat {w : World} {p A : Option Addr} {c : Nat} {ls : List Sp} (h : TIn w p A c ls) : SAt w A ls.length ls := by
  rcases h with ⟨_, rfl, _, _⟩ | ⟨b, rfl, hlt, hc, hS, hl⟩
  · exact SAt.nil w A
  · exact hS
set_option maxRecDepth 100000 in
set_option maxHeartbeats 1000000 in
theorem list31 (p A : Option Addr) (c : Nat) (ls : List Sp) (w : World) (hT : TIn w p A c ls) :
    Calls Tryz.prog 259 #[.pointer p] w fun e w' => e = .returned (.slice A ls.length c) ∧ Below w.heap.size w w' := by
  have HB := Lib.hid (Below.refl w.heap.size w)
  rcases hT with ⟨rfl, rfl, rfl, rfl⟩ | ⟨b, rfl, hlt, hc, hS, hl⟩
  · go_enter Tryz.func259, Tryz.ntmps259
    go_wp2
    go_ret
    exact ⟨rfl, HB.out⟩
  · clear hS hl
    go_enter Tryz.func259, Tryz.ntmps259
    go_wp2
    go_ret
    exact ⟨rfl, HB.out⟩
set_option maxRecDepth 100000 in
set_option maxHeartbeats 2000000 in
theorem place33 (p A : Option Addr) (c : Nat) (ls : List Sp) (x : Sp) (w : World) (hT : TIn w p A c ls) (hn : ls.length ≤ 100000) (hr : Rises ls) (hf : ∀ s ∈ ls, s.a ≤ s.b) :
    Calls Tryz.prog 247 #[.pointer p, spV x] w (BinPost ls x w) := by
  have mixed : Tryz.prog.follows .mixedOrders = true := by kernel_rfl
  unfold spV
  obtain ⟨U, hU⟩ : ∃ U, bs x.v = U := ⟨_, rfl⟩
  rw [hU]
  have hbw : Below w.heap.size w (w.alloc (.cells #[.int .i64 x.a, .int .i64 x.b, .string U] 168)) := (Below.refl _ _).alloc (Nat.le_refl _) _
  have hT1 := hT.below hbw
  have e0 : (w.alloc (.cells #[.int .i64 x.a, .int .i64 x.b, .string U] 168)).cell? ⟨w.heap.size, 0, none⟩ = some (.int .i64 x.a) := by simp
  have e1 : (w.alloc (.cells #[.int .i64 x.a, .int .i64 x.b, .string U] 168)).cell? ⟨w.heap.size, 1, none⟩ = some (.int .i64 x.b) := by simp
  have e2 : (w.alloc (.cells #[.int .i64 x.a, .int .i64 x.b, .string U] 168)).cell? ⟨w.heap.size, 2, none⟩ = some (.string U) := by simp
  have e0 := cell_regrown e0
  have e1 := cell_regrown e1
  have e2 := cell_regrown e2
  have HB := Lib.hid hbw
  clear hbw
  go_enter Tryz.func247, Tryz.ntmps247
  go_wp2
  obtain ⟨W, hW⟩ : ∃ W, (w.alloc (.cells #[.int .i64 x.a, .int .i64 x.b, .string U] 168)) = W := ⟨_, rfl⟩
  rw [hW] at e0 e1 e2 hT1 HB ⊢
  obtain ⟨l, hl⟩ : ∃ l, w.heap.size = l := ⟨_, rfl⟩
  rw [hl] at e0 e1 e2 ⊢
  have c31 := fun d os => list31 p A c ls (grow (redrawn W d) os) (hT1.below (below_regrown W d os))
  have c42 := fun d os => bin42 A ls.length c ls x (grow (redrawn W d) os) (hT1.below (below_regrown W d os)).sat hn hr hf
  unfold spV BinPost at c42
  rw [hU] at c42
  clear hW hT hT1 hr hf
  refine wp_region_quiet_below mixed (by kernel_rfl) ?_
  repeat (quiet_step (first | (go_at_call 259; exact Calls.regrown_of (c31 _ _)) | (go_at_call 258; exact Calls.regrown_of (c42 _ _))))
  refine wpQuiet_nil ?_
  intro _ hw'
  obtain ⟨⟨dq, osq⟩, hw''⟩ := hw'
  subst hw''
  go_wp2
  go_ret2
  exact ⟨rfl, HB.out.trans ((below_regrown W dq osq).mono HB.out.size)⟩
set_option maxRecDepth 100000 in
set_option maxHeartbeats 2000000 in
theorem value16 (p A : Option Addr) (c : Nat) (ls : List Sp) (z : Int) (w : World) (hT : TIn w p A c ls) (hn : ls.length ≤ 100000) (hr : Rises ls) (hf : ∀ s ∈ ls, s.a ≤ s.b) :
    Calls Tryz.prog 220 #[.pointer p, .int .i64 z] w fun e w' => e = .returned (.string (bs (valueOf ls z))) ∧ Below w.heap.size w w' := by
  have c33 := place33 p A c ls ⟨z, z, []⟩ w hT hn hr hf
  unfold spV BinPost at c33
  rw [bs_nil] at c33
  cases hfo : foundAt ls ⟨z, z, []⟩
  · have HV := Lib.hid (value_none hr hf hfo)
    rw [hfo] at c33
    clear hT hr hf hfo
    go_enter Tryz.func220, Tryz.ntmps220
    go_wp2_with (go_at_call 247; (with_reducible refine c33.mono ?_); rintro e w1 ⟨rfl, hb1⟩)
    go_ret
    exact ⟨by rw [HV.out, bs_nil]; rfl, hb1⟩
  · obtain ⟨s, hs, hm⟩ := found_some hfo
    have HV := Lib.hid (value_found hr hs hm)
    rw [hfo] at c33
    have hkl := (List.getElem?_eq_some_iff.1 hs).1
    rcases hT with ⟨-, rfl, -, -⟩ | ⟨b, rfl, hlt, hc, hS, hl⟩
    · cases hfo
    obtain ⟨b2, off, rfl, hb2, hcc⟩ := hS.2 (by omega)
    obtain ⟨-, -, h3⟩ := hcc _ s hs
    obtain ⟨K, hK⟩ : ∃ K, placeOf ls ⟨z, z, []⟩ = K := ⟨_, rfl⟩
    rw [hK] at c33 h3 hkl
    obtain ⟨T, hT⟩ : ∃ T, bs s.v = T := ⟨_, rfl⟩
    have HT := Lib.hid hT
    rw [hT] at h3
    clear hr hf hfo hs hm hS hl hcc hK hT
    go_enter Tryz.func220, Tryz.ntmps220
    go_wp2_with (go_at_call 247; (with_reducible refine c33.mono ?_); rintro e w1 ⟨rfl, hb1⟩; have d1 := (hb1.cell (p := ⟨b, 0, none⟩) hlt).trans hc; have d3 := (hb1.cell (p := ⟨b2, off + K * 3 + 2, none⟩) hb2).trans h3)
    go_ret
    exact ⟨by rw [HV.out, HT.out]; rfl, hb1⟩
end Go.Proofs.YtfakohoamgogoaaGreatDoor.Pq

namespace Go.Proofs.YtfakohoamgogoaaGreatDoor.Pq
open Go.RowKit Go.Sort

def hasOf (ls : List Sp) (z : Int) (v : List UInt8) : Bool := decide (v ≠ []) && decide (valueOf ls z = v)
theorem bs_eq (l m : List UInt8) : ((bs l).toList == (bs m).toList) = decide (l = m) := by rw [bs_toList, bs_toList]; by_cases h : l = m <;> simp [h]
end Go.Proofs.YtfakohoamgogoaaGreatDoor.Pq

namespace Go.Proofs.YtfakohoamgogoaaGreatDoor.Cf
open Go.RowKit Go.Shelf
attribute [local go_sem] Oper.semAt_some

/-- A prototype's slice in the map, as it stands. -/
def tokE (v : Value) : Option (DataW Value × List MemPlace) := some (.held v, [])
theorem tokE_inv {v : Value} {d : DataW Value} {q : List MemPlace} (h : tokE v = some (d, q)) : d = .held v := by
  unfold tokE at h
  injection h with h
  injection h with h1 h2
  exact h1.symm
theorem k3 : Maps.Keyed Tryz.prog (3) := Maps.int_keyed Tryz.underlying3
theorem zero33 (w : World) : (zeroValue 25).run Tryz.prog w = .ok (.slice none 0 0) w := by kernel_rfl
theorem key3 {c : Int} (h : (Lit.int .i64 c).wf = true) : keyOf Tryz.prog (3) (.int .i64 c) = some (.int .i64 c) := Maps.keyOf_int_mk Tryz.underlying3 h
theorem look_tok {w : World} {ops : Array Oper} {rest : List Oper} {o : Oper} {a : Act} {Q : Exit → Act → World → Prop} (hg : o.guard = none) (m x : Operand) (hop : o.op = Op.lookup 175 m x true)
    (b n : Nat) (D : DataW Value) (hm : a.eval m = .map (some b)) (hown : w.ownsMap Tryz.prog (3) tokE b n D) (c : Int) (hx : a.eval x = .int .i64 c) (hc : (Lit.int .i64 c).wf = true) (v : Value) (f : Bool)
    (hat : D.atKey (.int .i64 c) (.held (.slice none 0 0)) = .held v) (hf : Maps.has D (.int .i64 c) = f) (hK : wpList Tryz.prog ops Q rest (a.put o.dst (.tuple #[v, .bool f])) w) : wpList Tryz.prog ops Q (o :: rest) a w :=
  wpList_lookup_own_ok w hg m x 175 hop 3 25 k3 Tryz.underlying175 tokE (zero33 _) (.held (.slice none 0 0)) [] rfl b n D hm hown _ _ hx (key3 hc) (fun v' ps hv => by
    have e := tokE_inv hv
    rw [hat] at e
    injection e with e
    rw [← e, hf]
    exact hK)
theorem look_tok_in {F : Fence} {nF : Nat} {w : World} {ops : Array Oper} {rest : List Oper} {o : Oper} {a : Act} {Q : Exit → Act → World → Prop} (hg : o.guard = none) (m x : Operand) (hop : o.op = Op.lookup 175 m x true)
    (b n : Nat) (D : DataW Value) (hm : a.eval m = .map (some b)) (hown : w.ownsMap Tryz.prog (3) tokE b n D) (c : Int) (hx : a.eval x = .int .i64 c) (hc : (Lit.int .i64 c).wf = true) (v : Value) (f : Bool)
    (hat : D.atKey (.int .i64 c) (.held (.slice none 0 0)) = .held v) (hf : Maps.has D (.int .i64 c) = f) (hK : wpListIn F nF Tryz.prog ops Q rest (a.put o.dst (.tuple #[v, .bool f])) w) : wpListIn F nF Tryz.prog ops Q (o :: rest) a w :=
  wpListIn_lookup_own_ok w hg m x 175 hop 3 25 k3 Tryz.underlying175 tokE (zero33 _) (.held (.slice none 0 0)) [] rfl b n D hm hown _ _ hx (key3 hc) (fun v' ps hv => by
    have e := tokE_inv hv
    rw [hat] at e
    injection e with e
    rw [← e, hf]
    exact hK)

/-- The map reads as these pairs; the prototypes lie from block lo on. -/
def MapIs (lo : Nat) (D : DataW Value) (ps : List Pp) (W : World) : Prop :=
  (∀ c : Int, Maps.has D (.int .i64 c) = hasS ps c) ∧ ∀ r ∈ ps, ∃ A k, D.atKey (.int .i64 r.c) (.held (.slice none 0 0)) = .held (.slice A r.p.length k) ∧ Vals W A r.p.length (nums .i64 r.p) ∧ ∀ a, A = some a → lo ≤ a.block
def Small (r : Pp) : Prop := r.p.length ≤ 1000 ∧ (Lit.int .i64 r.c).wf = true
def CTab (w : World) (b mb n : Nat) (A : Option Addr) (k : Nat) (D : DataW Value) (ps : List Pp) : Prop :=
  (w.cell? ⟨b, 0, none⟩ = some (.map (some mb)) ∧ w.cell? ⟨b, 1, none⟩ = some (.slice A ps.length k)) ∧ (Vals w A ps.length (nums .i64 (ps.map Pp.c)) ∧ (w.ownsMap Tryz.prog (3) tokE mb n D ∧ MapIs 0 D ps w)) ∧ (Rise ps ∧ ∀ r ∈ ps, Small r)
/-- The table at p reads as these pairs; the sources' slice. -/
def CTx (w : World) (p : Option Addr) (A : Option Addr) (k : Nat) (ps : List Pp) : Prop :=
  ((p = none ∧ A = none) ∧ (k = 0 ∧ ps = [])) ∨ ∃ b mb n D, p = some ⟨b, 0, none⟩ ∧ CTab w b mb n A k D ps
def CT (w : World) (p : Option Addr) (ps : List Pp) : Prop := ∃ A k, CTx w p A k ps
/-- All that stood there stands there. -/
def Stays (w w' : World) : Prop := w.heap.size ≤ w'.heap.size ∧ ∀ k, k < w.heap.size → w'.heap[k]? = w.heap[k]?
theorem Stays.of_below {w w' : World} (h : Below w.heap.size w w') : Stays w w' := ⟨h.size, fun k hk => h.block k hk⟩
theorem Stays.cell {w w' : World} (h : Stays w w') {a : Addr} {v : Value} (hc : w.cell? a = some v) : w'.cell? a = some v := (World.cell?_of_block (h.2 _ (World.block_lt_of_cell? w a hc))).trans hc
theorem Stays.vals {w w' : World} (h : Stays w w') {A : Option Addr} {n : Nat} {vs : List Value} (hv : Vals w A n vs) : Vals w' A n vs := by
  refine ⟨hv.1, fun hn => ?_⟩
  obtain ⟨b, off, rfl, hlt, hc⟩ := hv.2 hn
  exact ⟨b, off, rfl, Nat.lt_of_lt_of_le hlt h.1, fun j v hj => h.cell (hc j v hj)⟩
theorem Stays.owns {w w' : World} (h : Stays w w') {mb n : Nat} {D : DataW Value} (ho : w.ownsMap Tryz.prog (3) tokE mb n D) : w'.ownsMap Tryz.prog (3) tokE mb n D := by
  have hlt := ho.lt
  obtain ⟨es, clock, hb, F, hs, hD⟩ := ho
  exact ⟨es, clock, (h.2 mb hlt).trans hb, F, hs, hD⟩
theorem MapIs.stays {w w' : World} {lo : Nat} {D : DataW Value} {ps : List Pp} (h : MapIs lo D ps w) (hs : Stays w w') : MapIs lo D ps w' :=
  ⟨h.1, fun r hr => by obtain ⟨A, k, h1, h2, h3⟩ := h.2 r hr; exact ⟨A, k, h1, hs.vals h2, h3⟩⟩
theorem CTx.stays {w w' : World} {p A : Option Addr} {k : Nat} {ps : List Pp} (h : CTx w p A k ps) (hs : Stays w w') : CTx w' p A k ps := by
  rcases h with h | ⟨b, mb, n, D, rfl, ⟨h1, h2⟩, ⟨h3, h4, h5⟩, h6⟩
  · exact .inl h
  · exact .inr ⟨b, mb, n, D, rfl, ⟨hs.cell h1, hs.cell h2⟩, ⟨hs.vals h3, hs.owns h4, h5.stays hs⟩, h6⟩
theorem CT.below {w w' : World} {p : Option Addr} {ps : List Pp} (h : CT w p ps) (hb : Below w.heap.size w w') : CT w' p ps := by
  obtain ⟨A, k, h⟩ := h
  exact ⟨A, k, h.stays (.of_below hb)⟩
end Go.Proofs.YtfakohoamgogoaaGreatDoor.Cf

namespace Go.Proofs.YtfakohoamgogoaaGreatDoor
open Go.RowKit

/-- A pair as a key. -/
theorem pairWide : (match Tryz.prog.underlying 193 with | some (.array _ _) | some (.struct _) => true | _ => false) = true := by kernel_rfl
theorem pairRow : (193 : TypeId) < Tryz.prog.types.size := of_decide_eq_true (by kernel_rfl)
theorem pairLaid : laidOutB Tryz.prog = true := by kernel_rfl
theorem pairDeep : Tryz.prog.keyTypeAt 2 193 = true := by kernel_rfl
set_option maxRecDepth 100000 in
theorem pairLaw : WideMaps.KeyLaw Tryz.prog 193 := deep_law_laid pairLaid (m := 2) (by omega) pairRow pairDeep pairWide
set_option maxRecDepth 100000 in
theorem pairK : Maps.Keyed Tryz.prog 193 := Maps.Keyed.of_law pairLaw
def pairV (x y : Int) : Value := .agg #[.int .i64 x, .int .i64 y]
set_option maxRecDepth 100000 in
theorem pair_lits (x y : Int) (hx : (Lit.int .i64 x).wf = true) (hy : (Lit.int .i64 y).wf = true) (n : Nat) : Tryz.prog.keyLits (n + 2) 193 (pairV x y).cells.toList = some [.int .i64 x, .int .i64 y] := by
  have c3 : Tryz.prog.cellsOf 3 = 1 := by kernel_rfl
  have hc : Tryz.prog.cellsOf 193 = 2 := by kernel_rfl
  simp [Program.keyLits, Tryz.underlying193, Tryz.underlying3, hc, c3, pairV, Value.cells, hx, hy]
theorem pair_of (P : Program) (fs : Array Field) (v : Value) (n : Nat) (ls : List Lit) (hu : P.underlying 193 = some (.struct fs)) (hk : P.keyType 193 = true) (hf : v.formed P 193 = true) (hl : ∀ n, P.keyLits (n + 2) 193 v.cells.toList = some ls) (hs : P.types.size = n + 1) : keyOf P 193 v = some (.string (keyBytes ls)) := by
  unfold keyOf
  rw [hu, hs]
  simp only [hk, hf, Bool.and_true, if_true, hl n, Option.map_some]
set_option maxRecDepth 100000 in
theorem pair_some (x y : Int) (hx : (Lit.int .i64 x).wf = true) (hy : (Lit.int .i64 y).wf = true) : ∃ l, keyOf Tryz.prog 193 (pairV x y) = some l := by
  have hk : Tryz.prog.keyType 193 = true := by kernel_rfl
  have hc : Tryz.prog.cellsOf 193 = 2 := by kernel_rfl
  have hf : (pairV x y).formed Tryz.prog 193 = true := by simp [pairV, Value.formed, Tryz.underlying193, hc]
  have h : (193 : Nat) < Tryz.prog.types.size := pairRow
  exact ⟨_, pair_of Tryz.prog _ (pairV x y) _ _ Tryz.underlying193 hk hf (pair_lits x y hx hy) (Nat.succ_pred_eq_of_pos (Nat.lt_of_le_of_lt (Nat.zero_le _) h)).symm⟩
noncomputable def kP (x y : Int) : Lit := (keyOf Tryz.prog 193 (pairV x y)).getD (.bool false)
theorem kP_is {x y : Int} (hx : (Lit.int .i64 x).wf = true) (hy : (Lit.int .i64 y).wf = true) : keyOf Tryz.prog 193 (pairV x y) = some (kP x y) := by
  obtain ⟨l, h⟩ := pair_some x y hx hy
  unfold kP
  rw [h]; rfl
set_option maxRecDepth 100000 in
theorem kP_key {x y : Int} (hx : (Lit.int .i64 x).wf = true) (hy : (Lit.int .i64 y).wf = true) : WideAt.IsKeyLit (kP x y) := pairK.key (kP_is hx hy)
set_option maxRecDepth 100000 in
theorem kP_inj {x y a b : Int} (hx : (Lit.int .i64 x).wf = true) (hy : (Lit.int .i64 y).wf = true) (ha : (Lit.int .i64 a).wf = true) (hb : (Lit.int .i64 b).wf = true) (h : kP x y = kP a b) : x = a ∧ y = b := by
  have e := pairK.inj (kP_is hx hy) (h ▸ kP_is ha hb)
  unfold pairV at e
  injection e with e
  simpa using e
end Go.Proofs.YtfakohoamgogoaaGreatDoor

namespace Go.Proofs.YtfakohoamgogoaaGreatDoor
open Go.RowKit Go.Shelf Go.Sort
attribute [local go_sem] Oper.semAt_some

/-- What the files say, as it stands at block b. -/
structure PF (w : World) (b : Nat) (ps : List Uc.Pr) (sp : Nat → List Pq.Sp) (cf : List Cf.Pp) : Prop where
  uni : ∃ p A c ls, w.cell? ⟨b, 0, none⟩ = some (.pointer p) ∧ Uc.TIn w p A c ls ∧ Uc.Ist w ls ps
  prs : ∀ i, i < 5 → ∃ p A c, w.cell? ⟨b, 1 + i, none⟩ = some (.pointer p) ∧ Pq.TIn w p A c (sp i)
  cnf : ∃ p, w.cell? ⟨b, 6, none⟩ = some (.pointer p) ∧ Cf.CT w p cf
theorem PF.below {w w' : World} {b : Nat} {ps : List Uc.Pr} {sp : Nat → List Pq.Sp} {cf : List Cf.Pp} (h : PF w b ps sp cf) (hb : Below w.heap.size w w') : PF w' b ps sp cf := by
  have cc : ∀ {k : Nat} {v : Value}, w.cell? ⟨b, k, none⟩ = some v → w'.cell? ⟨b, k, none⟩ = some v := fun {k v} hc => (hb.cell (p := ⟨b, k, none⟩) (World.block_lt_of_cell? w _ hc)).trans hc
  refine ⟨?_, fun i hi => ?_, ?_⟩
  · obtain ⟨p, A, c, ls, h1, h2, h3⟩ := h.uni; exact ⟨p, A, c, ls, cc h1, h2.below hb, h3.below hb⟩
  · obtain ⟨p, A, c, h1, h2⟩ := h.prs i hi; exact ⟨p, A, c, cc h1, h2.below hb⟩
  · obtain ⟨p, h1, h2⟩ := h.cnf; exact ⟨p, cc h1, h2.below hb⟩
/-- What pairs make, as a map tells it. -/
def MkIs (D : DataW Value) (ms : List (Int × Int × Int)) : Prop := ∀ x y : Int, (Lit.int .i64 x).wf = true → (Lit.int .i64 y).wf = true → D.atKey (kP x y) (.lit (.int .i64 0)) = .lit (.int .i64 ((findM ms x y).getD 0)) ∧ Maps.has D (kP x y) = (findM ms x y).isSome
theorem findM_snoc (c x y a b : Int) : ∀ ms : List (Int × Int × Int), findM (ms ++ [(c, x, y)]) a b = if (findM ms a b).isSome = true then findM ms a b else if x = a ∧ y = b then some c else none
  | [] => by simp [findM]
  | m :: ms => by
    have ih := findM_snoc c x y a b ms
    rw [List.cons_append, findM, findM]
    by_cases h : m.2.1 = a ∧ m.2.2 = b
    · rw [if_pos h, if_pos h]; rfl
    · rw [if_neg h, if_neg h]; exact ih
theorem mkIs_nil : MkIs (.map []) [] := fun _ _ _ _ => ⟨rfl, rfl⟩
set_option maxRecDepth 100000 in
theorem mkIs_put {D : DataW Value} {ms : List (Int × Int × Int)} {c x y : Int} (hD : Maps.IsMap D) (hx : (Lit.int .i64 x).wf = true) (hy : (Lit.int .i64 y).wf = true) (h : MkIs D ms) (hn : findM ms x y = none) : MkIs (D.put (kP x y) (.lit (.int .i64 c))) (ms ++ [(c, x, y)]) := by
  intro a b ha hb
  rw [findM_snoc]
  by_cases e : x = a ∧ y = b
  · obtain ⟨rfl, rfl⟩ := e
    rw [hn, if_neg (by simp), if_pos ⟨rfl, rfl⟩, Maps.atKey_put_same hD (kP_key hx hy), Maps.has_put_same hD (kP_key hx hy)]
    exact ⟨rfl, rfl⟩
  · have hne : kP a b ≠ kP x y := fun h => e (by have := kP_inj ha hb hx hy h; exact ⟨this.1.symm, this.2.symm⟩)
    rw [Maps.atKey_put_other hne, Maps.has_put_other hne]
    obtain ⟨h1, h2⟩ := h a b ha hb
    rw [h1, h2]
    cases findM ms a b with
    | some v => exact ⟨rfl, rfl⟩
    | none => rw [if_neg (by simp), if_neg e]; exact ⟨rfl, rfl⟩
/-- All of the data. -/
def PM (w : World) (b : Nat) (ms : List (Int × Int × Int)) : Prop := ∃ m n D, w.cell? ⟨b, 7, none⟩ = some (.map (some m)) ∧ w.ownsMap Tryz.prog 193 (plainElem (H := Value) Tryz.prog 3) m n D ∧ MkIs D ms
theorem PM.below {w w' : World} {b : Nat} {ms : List (Int × Int × Int)} (h : PM w b ms) (hb : Below w.heap.size w w') : PM w' b ms := by
  obtain ⟨m, n, D, h1, h2, h3⟩ := h
  have hl := h2.lt
  obtain ⟨es, clock, h4, F⟩ := h2
  exact ⟨m, n, D, (hb.cell (p := ⟨b, 7, none⟩) (World.block_lt_of_cell? w _ h1)).trans h1, ⟨es, clock, (hb.block m hl).trans h4, F⟩, h3⟩
theorem Z3 (w : World) : (zeroValue 3).run Tryz.prog w = .ok (.int .i64 0) w := by kernel_rfl
/-! The small methods. -/
theorem own37 (b : Nat) (w : World) : Calls Tryz.prog 39 #[.pointer (some ⟨b, 0, none⟩)] w fun e w' => e = .returned (.pointer (some ⟨b, 0, none⟩)) ∧ w = w' := by
  go_enter Tryz.func39, Tryz.ntmps39
  go_wp2
  go_ret
  exact ⟨rfl, rfl⟩
theorem uni15 (b : Nat) (p : Option Addr) (w : World) (h : w.cell? ⟨b, 0, none⟩ = some (.pointer p)) : Calls Tryz.prog 24 #[.pointer (some ⟨b, 0, none⟩)] w fun e w' => e = .returned (.pointer p) ∧ w = w' := by
  have c37 := own37 b w
  go_enter Tryz.func24, Tryz.ntmps24
  go_wp2_with (go_at_call 39; (with_reducible refine c37.mono ?_); rintro e w1 ⟨rfl, rfl⟩)
  go_ret
  exact ⟨rfl, rfl⟩
set_option maxRecDepth 100000 in
set_option maxHeartbeats 2000000 in
theorem has41 (p A : Option Addr) (c : Nat) (ls : List Pq.Sp) (z : Int) (v : List UInt8) (w : World) (hT : Pq.TIn w p A c ls) (hn : ls.length ≤ 100000) (hr : Pq.Rises ls) (hf : ∀ s ∈ ls, s.a ≤ s.b) :
    Calls Tryz.prog 177 #[.pointer p, .int .i64 z, .string (bs v)] w fun e w' => e = .returned (.bool (Pq.hasOf ls z v)) ∧ Below w.heap.size w w' := by
  have c16 := Pq.value16 p A c ls z w hT hn hr hf
  have HB := Lib.hid (Below.refl w.heap.size w)
  by_cases hv : v = []
  · have HR : Hid (Pq.hasOf ls z v = false) := Lib.hid (by unfold Pq.hasOf; rw [decide_eq_false (by simp [hv]), Bool.false_and])
    subst hv
    rw [bs_nil]
    clear hT hr hf
    go_enter Tryz.func177, Tryz.ntmps177
    go_wp2
    go_ret
    exact ⟨by rw [HR.out]; rfl, HB.out⟩
  · have hemp := bs_some hv
    have heq := Pq.bs_eq (Pq.valueOf ls z) v
    have HR : Hid (Pq.hasOf ls z v = decide (Pq.valueOf ls z = v)) := Lib.hid (by unfold Pq.hasOf; rw [decide_eq_true hv, Bool.true_and])
    obtain ⟨T, hT2⟩ : ∃ T, bs v = T := ⟨_, rfl⟩
    obtain ⟨V, hV2⟩ : ∃ V, bs (Pq.valueOf ls z) = V := ⟨_, rfl⟩
    rw [hT2] at hemp heq ⊢
    rw [hV2] at heq c16
    obtain ⟨f, hfe⟩ : ∃ f, decide (Pq.valueOf ls z = v) = f := ⟨_, rfl⟩
    rw [hfe] at heq HR
    clear hT hr hf hv hT2 hV2 hfe
    go_enter Tryz.func177, Tryz.ntmps177
    go_wp2_with (go_at_call 220; (with_reducible refine c16.mono ?_); rintro e w1 ⟨rfl, hb1⟩)
    go_ret
    exact ⟨by rw [HR.out, ← heq]; rfl, hb1⟩
def exclV : List UInt8 := [70, 117, 108, 108, 95, 67, 111, 109, 112, 111, 115, 105, 116, 105, 111, 110, 95, 69, 120, 99, 108, 117, 115, 105, 111, 110]
def ignV : List UInt8 := [68, 101, 102, 97, 117, 108, 116, 95, 73, 103, 110, 111, 114, 97, 98, 108, 101, 95, 67, 111, 100, 101, 95, 80, 111, 105, 110, 116]
theorem exc17_at (b : Nat) (p A : Option Addr) (c : Nat) (ls : List Pq.Sp) (z : Int) (w : World) (h : w.cell? ⟨b, 1, none⟩ = some (.pointer p)) (hT : Pq.TIn w p A c ls) (hn : ls.length ≤ 100000) (hr : Pq.Rises ls) (hf : ∀ s ∈ ls, s.a ≤ s.b) :
    Calls Tryz.prog 142 #[.pointer (some ⟨b, 0, none⟩), .int .i64 z] w fun e w' => e = .returned (.bool (Pq.hasOf ls z exclV)) ∧ Below w.heap.size w w' := by
  have c37 := own37 b w
  have c41 : Calls Tryz.prog 177 #[.pointer p, .int .i64 z, .string ⟨#[70, 117, 108, 108, 95, 67, 111, 109, 112, 111, 115, 105, 116, 105, 111, 110, 95, 69, 120, 99, 108, 117, 115, 105, 111, 110]⟩] w fun e w' => e = .returned (.bool (Pq.hasOf ls z exclV)) ∧ Below w.heap.size w w' := has41 p A c ls z exclV w hT hn hr hf
  obtain ⟨f, hfe⟩ : ∃ f, Pq.hasOf ls z exclV = f := ⟨_, rfl⟩
  rw [hfe] at c41 ⊢
  clear hT hr hf hfe
  go_enter Tryz.func142, Tryz.ntmps142
  go_wp2_with (first
    | (go_at_call 39; (with_reducible refine c37.mono ?_); rintro e w1 ⟨rfl, rfl⟩)
    | (go_at_call 177; (with_reducible refine c41.mono ?_); rintro e w1 ⟨rfl, hb1⟩))
  go_ret
  exact ⟨rfl, hb1⟩
end Go.Proofs.YtfakohoamgogoaaGreatDoor
