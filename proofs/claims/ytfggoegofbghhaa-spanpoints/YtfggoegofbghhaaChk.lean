/- What the program's check, ahead, side, list and Len hand back. -/
import Derived.Test.YtfggoegofbghhaaRval
import Derived.Sort.Grow
namespace Go.Proofs.Ytfggoegofbghhaa
open Go.RowKit Go.Sort

theorem check_alone {s : Sp} (h : ¬ (s.a < 0 ∨ 1114111 < s.b ∨ s.b < s.a)) (hv : ¬ s.v = []) : check [] s = 0 := check_fine h hv rfl
set_option maxRecDepth 100000 in
set_option maxHeartbeats 1000000 in
theorem check34 (x : Sp) (w : World) : Calls Try.prog 34 #[spV x] w (ChkPost [] x w) := by
  obtain ⟨xa, xb, xv⟩ := x
  unfold spV
  have HB := Lib.hid (show Below w.heap.size w (w.alloc (.cells #[.int .i64 xa, .int .i64 xb, .string (bs xv)] 41)) from (Below.refl _ _).alloc (Nat.le_refl _) _)
  by_cases hr : xa < 0 ∨ 1114111 < xb ∨ xb < xa
  · have HR := Lib.hid (check_range (l := []) (s := ⟨xa, xb, xv⟩) hr)
    obtain ⟨T, hT⟩ : ∃ T, bs xv = T := ⟨_, rfl⟩
    rw [hT] at HB ⊢
    clear hT
    rcases (show xa < 0 ∨ (¬ xa < 0 ∧ 1114111 < xb) ∨ (¬ xa < 0 ∧ ¬ 1114111 < xb ∧ xb < xa) by omega) with g | ⟨g, g'⟩ | ⟨g, g', g''⟩
    all_goals
      clear hr
      go_enter Try.func34, Try.ntmps34
      go_wp2
      go_ret
      exact ⟨by rw [HR.out]; rfl, HB.out⟩
  · have HF := Lib.hid hr
    have g1 : ¬ xa < 0 := fun h => hr (.inl h)
    have g2 : ¬ 1114111 < xb := fun h => hr (.inr (.inl h))
    have g3 : ¬ xb < xa := fun h => hr (.inr (.inr h))
    clear hr
    by_cases hv : xv = []
    · have HR := Lib.hid (check_empty (l := []) (s := ⟨xa, xb, xv⟩) HF.out hv)
      subst hv
      rw [bs_nil] at HB ⊢
      go_enter Try.func34, Try.ntmps34
      go_wp2
      go_ret
      exact ⟨by rw [HR.out]; rfl, HB.out⟩
    · have hemp := bs_some hv
      have HR := Lib.hid (check_alone (s := ⟨xa, xb, xv⟩) HF.out hv)
      obtain ⟨T, hT⟩ : ∃ T, bs xv = T := ⟨_, rfl⟩
      rw [hT] at HB hemp ⊢
      clear hT hv
      go_enter Try.func34, Try.ntmps34
      go_wp2
      go_ret
      exact ⟨by rw [HR.out]; rfl, HB.out⟩

def sideOf (s t : Sp) : Int := if s.b < t.a then -1 else if t.b < s.a then 1 else 0
set_option maxRecDepth 100000 in
set_option maxHeartbeats 1000000 in
theorem side43 (s t : Sp) (w : World) : Calls Try.prog 43 #[spV s, spV t] w fun e w' => e = .returned (.int .i64 (sideOf s t)) ∧ ∃ q os', w' = grow (w.drewN q) os' := by
  obtain ⟨xa, xb, xv⟩ := s
  obtain ⟨ya, yb, yv⟩ := t
  unfold spV
  have HW : ∀ T U, ∃ q os', (w.alloc (.cells #[.int .i64 xa, .int .i64 xb, .string T] 41)).alloc (.cells #[.int .i64 ya, .int .i64 yb, .string U] 41) = grow (w.drewN q) os' := fun T U => ⟨0, _, by rw [alloc_eq_grow, alloc_eq_grow, grow_grow]; rfl⟩
  have HW := Lib.hid HW
  obtain ⟨T, hT⟩ : ∃ T, bs xv = T := ⟨_, rfl⟩
  obtain ⟨U, hU⟩ : ∃ U, bs yv = U := ⟨_, rfl⟩
  rw [hT, hU]
  clear hT hU
  by_cases h1 : xb < ya
  · have HR : Hid (sideOf ⟨xa, xb, xv⟩ ⟨ya, yb, yv⟩ = -1) := Lib.hid (by unfold sideOf; rw [if_pos h1])
    go_enter Try.func43, Try.ntmps43
    go_wp2
    go_ret
    exact ⟨by rw [HR.out]; rfl, HW.out _ _⟩
  · by_cases h2 : yb < xa
    · have HR : Hid (sideOf ⟨xa, xb, xv⟩ ⟨ya, yb, yv⟩ = 1) := Lib.hid (by unfold sideOf; rw [if_neg h1, if_pos h2])
      go_enter Try.func43, Try.ntmps43
      go_wp2
      go_ret
      exact ⟨by rw [HR.out]; rfl, HW.out _ _⟩
    · have HR : Hid (sideOf ⟨xa, xb, xv⟩ ⟨ya, yb, yv⟩ = 0) := Lib.hid (by unfold sideOf; rw [if_neg h1, if_neg h2])
      go_enter Try.func43, Try.ntmps43
      go_wp2
      go_ret
      exact ⟨by rw [HR.out]; rfl, HW.out _ _⟩

/-! ahead: how many spans stand ahead of the first that is wrong by itself. -/
def AhdPost (ls : List Sp) (w : World) (e : Ending) (w' : World) : Prop :=
  Below w.heap.size w w' ∧ ((e = .returned (.tuple #[.int .i64 ls.length, .int .i64 0]) ∧ ∀ s ∈ ls, check [] s = 0) ∨
    ∃ (k : Nat) (s : Sp), ls[k]? = some s ∧ e = .returned (.tuple #[.int .i64 k, .int .i64 (check [] s)]) ∧ check [] s ≠ 0 ∧ ∀ t ∈ ls.take k, check [] t = 0)
def AhdRel (ls : List Sp) (w : World) (i : Value) (wr : World) : Prop :=
  Below w.heap.size w wr ∧ ∃ k : Nat, i = .int .i64 k ∧ k ≤ ls.length ∧ ∀ t ∈ ls.take k, check [] t = 0
set_option maxRecDepth 100000 in
set_option maxHeartbeats 2000000 in
theorem ahead24 (A : Option Addr) (n ca : Nat) (ls : List Sp) (w : World) (hV : SAt w A n ls) (hn : n ≤ 100000) :
    Calls Try.prog 24 #[.slice A n ca] w (AhdPost ls w) := by
  have HV := Lib.hid hV
  have HL := Lib.hid hV.1
  clear hV
  go_enter Try.func24, Try.ntmps24
  go_wp2
  go_loopw [9] (fun i wr => AhdRel ls w i wr) (fun i _ => n - (intOf i).toNat)
  case atStart => exact ⟨Below.refl _ _, 0, rfl, Nat.zero_le _, by simp⟩
  case round =>
    obtain ⟨hbel, k, rfl, hkn, hfit⟩ := hrel
    rw [HL.out] at hkn
    by_cases hlt : k < n
    · obtain ⟨b, off, rfl, hblt, hc⟩ := (HV.out.below hbel).2 (by omega)
      obtain ⟨s, hs⟩ := getSp (ls := ls) (k := k) (by rw [HL.out]; exact hlt)
      obtain ⟨h1, h2, h3⟩ := hc k s hs
      have HM := Lib.hid (take_more (P := fun t => check [] t = 0) hs hfit)
      have HF := Lib.hid hfit
      have HS := Lib.hid hs
      clear hc hfit hs
      have c34 := fun W => check34 s W
      unfold spV ChkPost at c34
      obtain ⟨T, hT⟩ : ∃ T, bs s.v = T := ⟨_, rfl⟩
      rw [hT] at h3 c34
      have HB := Lib.hid (fun o => hbel.alloc hbel.size o)
      clear hT
      obtain ⟨X, hX⟩ : ∃ X, check [] s = X := ⟨_, rfl⟩
      rw [hX] at c34
      have HX := Lib.hid hX
      clear hX
      by_cases hx : X = 0
      · subst hx
        go_wp2_with (go_at_call 34; (with_reducible refine (c34 _).mono ?_); rintro e w1 ⟨rfl, hb1⟩)
        go_roundw
        case rel => exact ⟨(HB.out _).trans (hb1.mono (HB.out _).size), k + 1, by go_num, by rw [HL.out]; omega, HM.out HX.out⟩
        case measure => simp [intOf]; omega
      · have hb0 : (X == 0) = false := beq_false_of_ne hx
        have HX0 := Lib.hid hx
        clear hx
        go_wp2_with (go_at_call 34; (with_reducible refine (c34 _).mono ?_); rintro e w1 ⟨rfl, hb1⟩)
        go_ret2
        exact ⟨(HB.out _).trans (hb1.mono (HB.out _).size), .inr ⟨k, s, HS.out, by rw [HX.out]; rfl, by rw [HX.out]; exact HX0.out, HF.out⟩⟩
    · have hke : k = n := by omega
      subst hke
      rw [List.take_of_length_le (by rw [HL.out]; exact Nat.le_refl _)] at hfit
      have HF := Lib.hid hfit
      clear hfit
      go_wp2
      go_ret2
      exact ⟨hbel, .inl ⟨by rw [HL.out]; rfl, HF.out⟩⟩
end Go.Proofs.Ytfggoegofbghhaa
