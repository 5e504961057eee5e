/- What slices.BinarySearchFunc hands back for spans and side; the program's place. -/
import Derived.Test.YtfggoegofbghhaaChk
import Derived.Lib.QuietBelow
import Derived.BigQuiet
namespace Go.Proofs.Ytfggoegofbghhaa
open Go.RowKit Go.Sort

/-- Where x stands among spans that rise: how many lie wholly ahead of it; and whether the next one has a code point of x. -/
def placeOf (ls : List Sp) (x : Sp) : Nat := (ls.takeWhile fun t => decide (t.b < x.a)).length
def foundAt (ls : List Sp) (x : Sp) : Bool := match ls[placeOf ls x]? with | some t => decide (sideOf t x = 0) | none => false
theorem side_neg {s t : Sp} : sideOf s t < 0 ↔ s.b < t.a := by unfold sideOf; split; · simp [*]
                                                               · split <;> simp [*]
theorem place_at {ls : List Sp} {x : Sp} {k : Nat} (hk : k ≤ ls.length) (h1 : ∀ j s, j < k → ls[j]? = some s → s.b < x.a) (h2 : ∀ j s, k ≤ j → ls[j]? = some s → x.a ≤ s.b) : placeOf ls x = k := by
  unfold placeOf
  induction ls generalizing k with
  | nil => simp at hk; simp [hk]
  | cons t ls ih =>
    cases k with
    | zero =>
      have := h2 0 t (Nat.le_refl _) rfl
      rw [List.takeWhile_cons_of_neg (by simp; omega)]
      rfl
    | succ k =>
      have := h1 0 t (by omega) rfl
      rw [List.takeWhile_cons_of_pos (by simp [this]), List.length_cons, ih (k := k) (by simpa using hk) (fun j s hj hs => h1 (j + 1) s (by omega) (by simpa using hs)) (fun j s hj hs => h2 (j + 1) s (by omega) (by simpa using hs))]
theorem rises_b {ls : List Sp} (hr : Rises ls) (hf : ∀ s ∈ ls, s.a ≤ s.b) {i j : Nat} {s t : Sp} (hij : i ≤ j) (hs : ls[i]? = some s) (ht : ls[j]? = some t) : s.b ≤ t.b := by
  rcases Nat.lt_or_eq_of_le hij with h | h
  · have hi := (List.getElem?_eq_some_iff.1 hs)
    have hj := (List.getElem?_eq_some_iff.1 ht)
    have := List.pairwise_iff_getElem.1 hr i j hi.1 hj.1 h
    rw [hi.2, hj.2] at this
    have := hf t (List.mem_of_getElem? ht)
    omega
  · subst h
    rw [hs] at ht
    injection ht with ht
    rw [ht]
    exact Int.le_refl _

theorem below_grow' (w : World) (q : Nat) (os : Array Obj) : Below w.heap.size w (grow (w.drewN q) os) :=
  ⟨rfl, rfl, rfl, by simp [grow, World.drewN], fun k hk => by rw [heap_grow_old _ _ (by exact hk)]; rfl⟩
theorem side43b (s t : Sp) (w : World) : Calls Try.prog 43 #[spV s, spV t] w fun e w' => e = .returned (.int .i64 (sideOf s t)) ∧ Below w.heap.size w w' :=
  (side43 s t w).mono fun _ _ ⟨he, q, os, hw⟩ => ⟨he, by rw [hw]; exact below_grow' w q os⟩
def BinRel (ls : List Sp) (x : Sp) (W : World) (s9 s10 : Value) (wr : World) : Prop :=
  Below W.heap.size W wr ∧ ∃ lo hi : Nat, s9 = .int .i64 lo ∧ s10 = .int .i64 hi ∧ lo ≤ hi ∧ hi ≤ ls.length ∧ (∀ j s, j < lo → ls[j]? = some s → s.b < x.a) ∧ (∀ j s, hi ≤ j → ls[j]? = some s → x.a ≤ s.b)
def BinPost (ls : List Sp) (x : Sp) (w : World) (e : Ending) (w' : World) : Prop :=
  e = .returned (.tuple #[.int .i64 (placeOf ls x), .bool (foundAt ls x)]) ∧ Below w.heap.size w w'
set_option maxRecDepth 100000 in
set_option maxHeartbeats 4000000 in
theorem bin42 (A : Option Addr) (n ca : Nat) (ls : List Sp) (x : Sp) (w : World) (hV : SAt w A n ls) (hn : n ≤ 100000) (hr : Rises ls) (hf : ∀ s ∈ ls, s.a ≤ s.b) :
    Calls Try.prog 42 #[.slice A n ca, spV x, .func (.func 43) #[] #[]] w (BinPost ls x w) := by
  have HV := Lib.hid hV
  have HL := Lib.hid hV.1
  have HR := Lib.hid hr
  have HF := Lib.hid hf
  clear hV hr hf
  have mixed : Try.prog.follows .mixedOrders = true := by kernel_rfl
  have HX : Hid (spV x = .agg #[.int .i64 x.a, .int .i64 x.b, .string (bs x.v)]) := Lib.hid rfl
  unfold spV
  obtain ⟨U, hU⟩ : ∃ U, bs x.v = U := ⟨_, rfl⟩
  rw [hU] at HX ⊢
  have HU0 := Lib.hid hU
  clear hU
  have HB := Lib.hid (show Below w.heap.size w (w.alloc (.cells #[.int .i64 x.a, .int .i64 x.b, .string U] 41)) from (Below.refl _ _).alloc (Nat.le_refl _) _)
  have hb0 : (w.alloc (.cells #[.int .i64 x.a, .int .i64 x.b, .string U] 41)).cell? ⟨w.heap.size, 0, none⟩ = some (.int .i64 x.a) := by simp
  have hb1 : (w.alloc (.cells #[.int .i64 x.a, .int .i64 x.b, .string U] 41)).cell? ⟨w.heap.size, 1, none⟩ = some (.int .i64 x.b) := by simp
  have hb2 : (w.alloc (.cells #[.int .i64 x.a, .int .i64 x.b, .string U] 41)).cell? ⟨w.heap.size, 2, none⟩ = some (.string U) := by simp
  have hbl : w.heap.size < (w.alloc (.cells #[.int .i64 x.a, .int .i64 x.b, .string U] 41)).heap.size := by simp
  go_enter Try.func42, Try.ntmps42
  go_wp2
  obtain ⟨W, hW⟩ : ∃ W, (w.alloc (.cells #[.int .i64 x.a, .int .i64 x.b, .string U] 41)) = W := ⟨_, rfl⟩
  rw [hW] at hb0 hb1 hb2 hbl HB ⊢
  obtain ⟨l, hl⟩ : ∃ l, w.heap.size = l := ⟨_, rfl⟩
  rw [hl] at hb0 hb1 hb2 hbl ⊢
  clear hW
  go_loopw [9, 10] (fun s9 s10 wr => BinRel ls x W s9 s10 wr) (fun s9 s10 _ => (intOf s10).toNat - (intOf s9).toNat)
  case atStart => exact ⟨Below.refl _ _, 0, n, rfl, rfl, Nat.zero_le _, by rw [HL.out]; exact Nat.le_refl _, fun j s hj => absurd hj (by omega), fun j s hj hs => by have := (List.getElem?_eq_some_iff.1 hs).1; rw [HL.out] at this; omega⟩
  case round =>
    obtain ⟨hbel, lo, hi, rfl, rfl, hlh, hin, i1, i2⟩ := hrel
    have I1 := Lib.hid i1
    have I2 := Lib.hid i2
    rw [HL.out] at hin
    clear i1 i2
    have e0 := cell_regrown ((hbel.cell (p := ⟨l, 0, none⟩) hbl).trans hb0)
    have e1 := cell_regrown ((hbel.cell (p := ⟨l, 1, none⟩) hbl).trans hb1)
    have e2 := cell_regrown ((hbel.cell (p := ⟨l, 2, none⟩) hbl).trans hb2)
    by_cases hlt : lo < hi
    · obtain ⟨b, off, rfl, hblt, hc⟩ := ((HV.out.below HB.out).below hbel).2 (by omega)
      obtain ⟨m, hm⟩ : ∃ m, (lo + hi) / 2 = m := ⟨_, rfl⟩
      have hmI : ((lo : Int) + (hi : Int)) / 2 = (m : Int) := by omega
      have hml : lo ≤ m := by omega
      have hmh : m < hi := by omega
      have hmn : m < n := by omega
      have HMI := Lib.hid hmI
      clear hm hmI
      obtain ⟨s, hs⟩ := getSp (ls := ls) (k := m) (by rw [HL.out]; omega)
      obtain ⟨h1, h2, h3⟩ := hc _ s hs
      have HS := Lib.hid hs
      have c43 := fun W' => side43b s x W'
      unfold spV at c43
      rw [HU0.out] at c43
      obtain ⟨T, hT⟩ : ∃ T, bs s.v = T := ⟨_, rfl⟩
      rw [hT] at h3 c43
      obtain ⟨X, hX⟩ : ∃ X, sideOf s x = X := ⟨_, rfl⟩
      rw [hX] at c43
      have HXX := Lib.hid hX
      have k1 := cell_regrown h1
      have k2 := cell_regrown h2
      have k3 := cell_regrown h3
      have HBE := Lib.hid hbel
      clear hc hs hT hX h1 h2 h3
      clear hbel
      by_cases hx : X < 0
      · go_wp2
        rw [HMI.out]
        refine wp_region_quiet_below mixed (by kernel_rfl) ?_
        repeat (quiet_step (first | (go_at_call 43; exact Calls.regrown_of (c43 _))))
        refine wpQuiet_nil ?_
        intro _ hw'
        obtain ⟨⟨dq, osq⟩, hw''⟩ := hw'
        subst hw''
        go_wp2
        go_roundw
        case measure => simp [intOf]; omega
        case rel =>
          have hb := below_regrown wr dq osq
          refine ⟨HBE.out.trans (hb.mono HBE.out.size), m + 1, hi, by go_num, rfl, by omega, by rw [HL.out]; omega, fun j t hj ht => ?_, I2.out⟩
          have := side_neg.1 (by rw [HXX.out]; exact hx)
          have := rises_b HR.out HF.out (by omega) ht HS.out
          omega
      · go_wp2
        rw [HMI.out]
        refine wp_region_quiet_below mixed (by kernel_rfl) ?_
        repeat (quiet_step (first | (go_at_call 43; exact Calls.regrown_of (c43 _))))
        refine wpQuiet_nil ?_
        intro _ hw'
        obtain ⟨⟨dq, osq⟩, hw''⟩ := hw'
        subst hw''
        go_wp2
        go_roundw
        case measure => simp [intOf]; omega
        case rel =>
          have hb := below_regrown wr dq osq
          refine ⟨HBE.out.trans (hb.mono HBE.out.size), lo, m, rfl, by go_num, by omega, by rw [HL.out]; omega, I1.out, fun j t hj ht => ?_⟩
          have := mt side_neg.2 (by rw [HXX.out]; omega)
          have := rises_b HR.out HF.out (by omega) HS.out ht
          omega
    · obtain rfl : hi = lo := by omega
      have HP := Lib.hid (place_at (x := x) (by rw [HL.out]; exact hin) I1.out I2.out)
      by_cases hn2 : hi < n
      · obtain ⟨b, off, rfl, hblt, hc⟩ := ((HV.out.below HB.out).below hbel).2 (by omega)
        obtain ⟨s, hs⟩ := getSp (ls := ls) (k := hi) (by rw [HL.out]; omega)
        obtain ⟨h1, h2, h3⟩ := hc _ s hs
        have c43 := fun W' => side43b s x W'
        unfold spV at c43
        rw [HU0.out] at c43
        obtain ⟨T, hT⟩ : ∃ T, bs s.v = T := ⟨_, rfl⟩
        rw [hT] at h3 c43
        have HFo : Hid (foundAt ls x = decide (sideOf s x = 0)) := Lib.hid (by unfold foundAt; rw [HP.out, hs])
        obtain ⟨X, hX⟩ : ∃ X, sideOf s x = X := ⟨_, rfl⟩
        rw [hX] at c43 HFo
        have k1 := cell_regrown h1
        have k2 := cell_regrown h2
        have k3 := cell_regrown h3
        have HBE := Lib.hid hbel
        clear hc hs hT hX h1 h2 h3 hbel
        by_cases hx : X = 0
        · subst hx
          go_wp2
          refine wp_region_quiet_below mixed (by kernel_rfl) ?_
          repeat (quiet_step (first | (go_at_call 43; exact Calls.regrown_of (c43 _))))
          refine wpQuiet_nil ?_
          intro _ hw'
          obtain ⟨⟨dq, osq⟩, hw''⟩ := hw'
          subst hw''
          go_wp2
          go_ret2
          exact ⟨by rw [HP.out, HFo.out]; rfl, HB.out.trans ((HBE.out.trans ((below_regrown wr dq osq).mono HBE.out.size)).mono HB.out.size)⟩
        · have hx0 : (X == 0) = false := beq_false_of_ne hx
          have hxd : decide (X = 0) = false := by simp [hx]
          have HXD := Lib.hid hxd
          clear hx hxd
          go_wp2
          refine wp_region_quiet_below mixed (by kernel_rfl) ?_
          repeat (quiet_step (first | (go_at_call 43; exact Calls.regrown_of (c43 _))))
          refine wpQuiet_nil ?_
          intro _ hw'
          obtain ⟨⟨dq, osq⟩, hw''⟩ := hw'
          subst hw''
          go_wp2
          go_ret2
          exact ⟨by rw [HP.out, HFo.out, HXD.out]; rfl, HB.out.trans ((HBE.out.trans ((below_regrown wr dq osq).mono HBE.out.size)).mono HB.out.size)⟩
      · have HFo : Hid (foundAt ls x = false) := Lib.hid (by unfold foundAt; rw [HP.out, List.getElem?_eq_none (by rw [HL.out]; omega)])
        have HBE := Lib.hid hbel
        clear hbel
        have hd : decide ((hi : Int) < (n : Int)) = false := by simp; omega
        clear e0 e1 e2
        go_wp2
        go_quiet (fail)
        go_wp2
        go_ret2
        exact ⟨by rw [HP.out, HFo.out]; rfl, HB.out.trans ((below_drewN HBE.out _).mono HB.out.size)⟩
end Go.Proofs.Ytfggoegofbghhaa
