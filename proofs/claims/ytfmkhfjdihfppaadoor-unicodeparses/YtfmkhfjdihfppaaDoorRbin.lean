/- The program's side; what slices.BinarySearchFunc hands back for rows and a code point. -/
import Derived.Test.YtfmkhfjdihfppaaDoorAt
namespace Go.Proofs.YtfmkhfjdihfppaaDoor
open Go.RowKit

def sideOf (s : Rw) (c : Int) : Int := if s.b < c then -1 else if c < s.a then 1 else 0
set_option maxRecDepth 100000 in
set_option maxHeartbeats 1000000 in
theorem side44 (s : Rw) (c : Int) (w : World) : Calls Tryd.prog 44 #[rwV s, .int .i64 c] w fun e w' => e = .returned (.int .i64 (sideOf s c)) ∧ Below w.heap.size w w' := by
  obtain ⟨xa, xb, xg, xc, xd, xp, xm, xk⟩ := s
  unfold rwV
  have HW : ∀ T U, Below w.heap.size w (w.alloc (.cells #[.int .i64 xa, .int .i64 xb, .string T, .int .i64 xc, .string U, .slice xp xm xk] 36)) := fun T U => (Below.refl _ _).alloc (Nat.le_refl _) _
  have HW := Lib.hid HW
  obtain ⟨T, hT⟩ : ∃ T, bs xg = T := ⟨_, rfl⟩
  obtain ⟨U, hU⟩ : ∃ U, bs xd = U := ⟨_, rfl⟩
  simp only [hT, hU]
  clear hT hU
  by_cases h1 : xb < c
  · have HR : Hid (sideOf ⟨xa, xb, xg, xc, xd, xp, xm, xk⟩ c = -1) := Lib.hid (by unfold sideOf; rw [if_pos h1])
    go_enter Tryd.func44, Tryd.ntmps44
    go_wp2
    go_ret
    exact ⟨by rw [HR.out]; rfl, HW.out _ _⟩
  · by_cases h2 : c < xa
    · have HR : Hid (sideOf ⟨xa, xb, xg, xc, xd, xp, xm, xk⟩ c = 1) := Lib.hid (by unfold sideOf; rw [if_neg h1, if_pos h2])
      go_enter Tryd.func44, Tryd.ntmps44
      go_wp2
      go_ret
      exact ⟨by rw [HR.out]; rfl, HW.out _ _⟩
    · have HR : Hid (sideOf ⟨xa, xb, xg, xc, xd, xp, xm, xk⟩ c = 0) := Lib.hid (by unfold sideOf; rw [if_neg h1, if_neg h2])
      go_enter Tryd.func44, Tryd.ntmps44
      go_wp2
      go_ret
      exact ⟨by rw [HR.out]; rfl, HW.out _ _⟩

/-- Rows that rise: none is empty, each is above those ahead. -/
def Rises (ls : List Rw) : Prop := ls.Pairwise (fun s t => s.b < t.a) ∧ ∀ s ∈ ls, s.a ≤ s.b
/-- How many rows lie wholly ahead of c; and whether the next one has it. -/
def placeOf (ls : List Rw) (c : Int) : Nat := (ls.takeWhile fun t => decide (t.b < c)).length
def foundAt (ls : List Rw) (c : Int) : Bool := match ls[placeOf ls c]? with | some t => decide (sideOf t c = 0) | none => false
theorem side_neg {s : Rw} {c : Int} : sideOf s c < 0 ↔ s.b < c := by
  unfold sideOf
  split
  · simp [*]
  · split <;> simp [*]
theorem side_zero {s : Rw} {c : Int} : sideOf s c = 0 ↔ s.a ≤ c ∧ c ≤ s.b := by
  unfold sideOf
  split
  · omega
  · split <;> omega
theorem place_at {ls : List Rw} {c : Int} {k : Nat} (hk : k ≤ ls.length) (h1 : ∀ j s, j < k → ls[j]? = some s → s.b < c) (h2 : ∀ j s, k ≤ j → ls[j]? = some s → c ≤ s.b) : placeOf ls c = k := by
  unfold placeOf
  induction ls generalizing k with
  | nil => simp at hk; simp [hk]
  | cons t ls ih =>
    cases k with
    | zero =>
      have := h2 0 t (Nat.le_refl _) rfl
      rw [List.takeWhile_cons_of_neg (by simp; omega)]
      rfl
    | succ k =>
      have := h1 0 t (by omega) rfl
      rw [List.takeWhile_cons_of_pos (by simp [this]), List.length_cons, ih (k := k) (by simpa using hk) (fun j s hj hs => h1 (j + 1) s (by omega) (by simpa using hs)) (fun j s hj hs => h2 (j + 1) s (by omega) (by simpa using hs))]
theorem rises_b {ls : List Rw} (hr : Rises ls) {i j : Nat} {s t : Rw} (hij : i ≤ j) (hs : ls[i]? = some s) (ht : ls[j]? = some t) : s.b ≤ t.b := by
  rcases Nat.lt_or_eq_of_le hij with h | h
  · have hi := (List.getElem?_eq_some_iff.1 hs)
    have hj := (List.getElem?_eq_some_iff.1 ht)
    have := List.pairwise_iff_getElem.1 hr.1 i j hi.1 hj.1 h
    rw [hi.2, hj.2] at this
    have := hr.2 t (List.mem_of_getElem? ht)
    omega
  · subst h
    rw [hs] at ht
    injection ht with ht
    rw [ht]
    exact Int.le_refl _
theorem at_found {ls : List Rw} {c : Int} {s : Rw} (hs : ls[placeOf ls c]? = some s) (h : sideOf s c = 0) : atOf ls c = s := by
  refine at_take hs (fun t ht => ?_) (side_zero.1 h)
  unfold placeOf at ht
  have e : ls.take (ls.takeWhile fun t => decide (t.b < c)).length = ls.takeWhile fun t => decide (t.b < c) := by
    have := List.takeWhile_prefix (l := ls) (fun t => decide (t.b < c))
    exact (List.prefix_iff_eq_take.1 this).symm
  rw [e] at ht
  have := List.all_takeWhile (l := ls) (p := fun t => decide (t.b < c))
  rw [List.all_eq_true] at this
  have := of_decide_eq_true (this t ht)
  omega
theorem at_lost : ∀ {ls : List Rw} {c : Int}, Rises ls → foundAt ls c = false → atOf ls c = rw0
  | [], _, _, _ => rfl
  | t :: ls, c, hr, h => by
    have hr' : Rises ls := ⟨(List.pairwise_cons.1 hr.1).2, fun s hs => hr.2 s (List.mem_cons_of_mem _ hs)⟩
    by_cases hb : t.b < c
    · have hp : placeOf (t :: ls) c = placeOf ls c + 1 := by unfold placeOf; rw [List.takeWhile_cons_of_pos (by simp [hb])]; rfl
      have hf : foundAt ls c = false := by
        unfold foundAt at h ⊢
        rw [hp, List.getElem?_cons_succ] at h
        exact h
      have := at_lost hr' hf
      unfold atOf at this ⊢
      rw [List.find?_cons_of_neg (by simp; omega)]
      exact this
    · have hp : placeOf (t :: ls) c = 0 := by unfold placeOf; rw [List.takeWhile_cons_of_neg (by simp; omega)]; rfl
      have hf : ¬ sideOf t c = 0 := by
        unfold foundAt at h
        rw [hp] at h
        exact of_decide_eq_false h
      have h1 : ¬ (t.a ≤ c ∧ c ≤ t.b) := fun h => hf (side_zero.2 h)
      have h2 := hr.2 t (List.mem_cons_self ..)
      refine at_gap fun u hu hc => ?_
      rcases List.mem_cons.1 hu with rfl | hu
      · exact h1 hc
      · have := (List.pairwise_cons.1 hr.1).1 u hu
        omega
theorem found_some {ls : List Rw} {c : Int} (h : foundAt ls c = true) : ∃ s, ls[placeOf ls c]? = some s ∧ sideOf s c = 0 := by
  unfold foundAt at h
  split at h
  · rename_i t ht
    exact ⟨t, ht, of_decide_eq_true h⟩
  · cases h

def BinRel (ls : List Rw) (c : Int) (W : World) (s9 s10 : Value) (wr : World) : Prop :=
  Below W.heap.size W wr ∧ ∃ lo hi : Nat, s9 = .int .i64 lo ∧ s10 = .int .i64 hi ∧ lo ≤ hi ∧ hi ≤ ls.length ∧ (∀ j s, j < lo → ls[j]? = some s → s.b < c) ∧ (∀ j s, hi ≤ j → ls[j]? = some s → c ≤ s.b)
def BinPost (ls : List Rw) (c : Int) (w : World) (e : Ending) (w' : World) : Prop :=
  e = .returned (.tuple #[.int .i64 (placeOf ls c), .bool (foundAt ls c)]) ∧ Below w.heap.size w w'
set_option maxRecDepth 100000 in
set_option maxHeartbeats 4000000 in
theorem bin43 (A : Option Addr) (n ca : Nat) (ls : List Rw) (x : Int) (w : World) (hV : RAt w A n ls) (hn : n ≤ 100000) (hr : Rises ls) :
    Calls Tryd.prog 43 #[.slice A n ca, .int .i64 x, .func (.func 44) #[] #[]] w (BinPost ls x w) := by
  have HV := Lib.hid hV
  have HL := Lib.hid hV.1
  have HR := Lib.hid hr
  clear hV hr
  go_enter Tryd.func43, Tryd.ntmps43
  go_wp2
  go_loopw [9, 10] (fun s9 s10 wr => BinRel ls x w s9 s10 wr) (fun s9 s10 _ => (intOf s10).toNat - (intOf s9).toNat)
  case atStart => exact ⟨Below.refl _ _, 0, n, rfl, rfl, Nat.zero_le _, by rw [HL.out]; exact Nat.le_refl _, fun j s hj => absurd hj (by omega), fun j s hj hs => by have := (List.getElem?_eq_some_iff.1 hs).1; rw [HL.out] at this; omega⟩
  case round =>
    obtain ⟨hbel, lo, hi, rfl, rfl, hlh, hin, i1, i2⟩ := hrel
    have I1 := Lib.hid i1
    have I2 := Lib.hid i2
    rw [HL.out] at hin
    clear i1 i2
    by_cases hlt : lo < hi
    · obtain ⟨b, off, rfl, hblt, hc⟩ := (HV.out.below hbel).2 (by omega)
      obtain ⟨m, hm⟩ : ∃ m, (lo + hi) / 2 = m := ⟨_, rfl⟩
      have hmI : ((lo : Int) + (hi : Int)) / 2 = (m : Int) := by omega
      have hml : lo ≤ m := by omega
      have hmh : m < hi := by omega
      have hmn : m < n := by omega
      clear hm
      obtain ⟨s, hs⟩ := getRw (ls := ls) (k := m) (by rw [HL.out]; omega)
      obtain ⟨h1, h2, h3, h4, h5, h6⟩ := hc _ s hs
      have HS := Lib.hid hs
      have c44 := fun W' => side44 s x W'
      unfold rwV at c44
      obtain ⟨T, hT⟩ : ∃ T, bs s.gc = T := ⟨_, rfl⟩
      obtain ⟨U, hU⟩ : ∃ U, bs s.bd = U := ⟨_, rfl⟩
      rw [hT] at h3 c44
      rw [hU] at h5 c44
      obtain ⟨X, hX⟩ : ∃ X, sideOf s x = X := ⟨_, rfl⟩
      rw [hX] at c44
      have HXX := Lib.hid hX
      have HBE := Lib.hid hbel
      have C44 := Lib.hid c44
      clear hc hs hT hU hX hbel c44
      by_cases hx : X < 0
      · go_wp2_with (go_at_call 44; (with_reducible refine (C44.out _).mono ?_); rintro e w1 ⟨rfl, hb1⟩)
        go_roundw
        case measure => simp [intOf]; omega
        case rel =>
          refine ⟨HBE.out.trans (hb1.mono HBE.out.size), m + 1, hi, by go_num, rfl, by omega, by rw [HL.out]; omega, fun j t hj ht => ?_, I2.out⟩
          have := side_neg.1 (by rw [HXX.out]; exact hx)
          have := rises_b HR.out (by omega) ht HS.out
          omega
      · go_wp2_with (go_at_call 44; (with_reducible refine (C44.out _).mono ?_); rintro e w1 ⟨rfl, hb1⟩)
        go_roundw
        case measure => simp [intOf]; omega
        case rel =>
          refine ⟨HBE.out.trans (hb1.mono HBE.out.size), lo, m, rfl, by go_num, by omega, by rw [HL.out]; omega, I1.out, fun j t hj ht => ?_⟩
          have := mt side_neg.2 (by rw [HXX.out]; omega)
          have := rises_b HR.out (by omega) HS.out ht
          omega
    · obtain rfl : hi = lo := by omega
      have HP := Lib.hid (place_at (c := x) (by rw [HL.out]; exact hin) I1.out I2.out)
      by_cases hn2 : hi < n
      · obtain ⟨b, off, rfl, hblt, hc⟩ := (HV.out.below hbel).2 (by omega)
        obtain ⟨s, hs⟩ := getRw (ls := ls) (k := hi) (by rw [HL.out]; omega)
        obtain ⟨h1, h2, h3, h4, h5, h6⟩ := hc _ s hs
        have c44 := fun W' => side44 s x W'
        unfold rwV at c44
        obtain ⟨T, hT⟩ : ∃ T, bs s.gc = T := ⟨_, rfl⟩
        obtain ⟨U, hU⟩ : ∃ U, bs s.bd = U := ⟨_, rfl⟩
        rw [hT] at h3 c44
        rw [hU] at h5 c44
        have HFo : Hid (foundAt ls x = decide (sideOf s x = 0)) := Lib.hid (by unfold foundAt; rw [HP.out, hs])
        obtain ⟨X, hX⟩ : ∃ X, sideOf s x = X := ⟨_, rfl⟩
        rw [hX] at c44 HFo
        have HBE := Lib.hid hbel
        have C44 := Lib.hid c44
        clear hc hs hT hU hX hbel c44
        by_cases hx : X = 0
        · subst hx
          go_wp2_with (go_at_call 44; (with_reducible refine (C44.out _).mono ?_); rintro e w1 ⟨rfl, hb1⟩)
          go_ret2
          exact ⟨by rw [HP.out, HFo.out]; rfl, HBE.out.trans (hb1.mono HBE.out.size)⟩
        · have hx0 : (X == 0) = false := beq_false_of_ne hx
          have hxd : decide (X = 0) = false := by simp [hx]
          have HXD := Lib.hid hxd
          clear hx hxd
          go_wp2_with (go_at_call 44; (with_reducible refine (C44.out _).mono ?_); rintro e w1 ⟨rfl, hb1⟩)
          go_ret2
          exact ⟨by rw [HP.out, HFo.out, HXD.out]; rfl, HBE.out.trans (hb1.mono HBE.out.size)⟩
      · have HFo : Hid (foundAt ls x = false) := Lib.hid (by unfold foundAt; rw [HP.out, List.getElem?_eq_none (by rw [HL.out]; omega)])
        have HBE := Lib.hid hbel
        clear hbel
        obtain rfl : hi = n := by omega
        go_wp2
        go_ret2
        exact ⟨by rw [HP.out, HFo.out]; rfl, HBE.out⟩
end Go.Proofs.YtfmkhfjdihfppaaDoor
