/- What the document's own Value and Check hand back. -/
/- What the program's check, ahead, side, list and Len hand back. -/
import Derived.Test.YtdbnegllncjhkaaGreatDoorSat
import Derived.Test.YtdbnegllncjhkaaGreatDoorProg
import Derived.BigQuiet
import Derived.Sort.Grow
namespace Go.Proofs.YtdbnegllncjhkaaGreatDoor
open Go.RowKit

/-- A span as a value. -/
def spV (s : Sp) : Value := .agg #[.int .i64 s.a, .int .i64 s.b, .string (bs s.v)]
theorem check_range {l : List Sp} {s : Sp} (h : s.a < 0 ∨ 1114111 < s.b ∨ s.b < s.a) : check l s = 14 := by unfold check; rw [if_pos h]
theorem check_empty {l : List Sp} {s : Sp} (h : ¬ (s.a < 0 ∨ 1114111 < s.b ∨ s.b < s.a)) (hv : s.v = []) : check l s = 16 := by unfold check; rw [if_neg h, if_pos hv]
theorem check_meets {l : List Sp} {s : Sp} (h : ¬ (s.a < 0 ∨ 1114111 < s.b ∨ s.b < s.a)) (hv : ¬ s.v = []) (hm : l.any (meets · s) = true) : check l s = 15 := by unfold check; rw [if_neg h, if_neg hv, if_pos hm]
theorem check_fine {l : List Sp} {s : Sp} (h : ¬ (s.a < 0 ∨ 1114111 < s.b ∨ s.b < s.a)) (hv : ¬ s.v = []) (hm : l.any (meets · s) = false) : check l s = 0 := by unfold check; rw [if_neg h, if_neg hv, if_neg (by simp [hm])]
def ChkPost (l : List Sp) (s : Sp) (w : World) (e : Ending) (w' : World) : Prop := e = .returned (.int .i64 (check l s)) ∧ Below w.heap.size w w'

set_option maxRecDepth 100000 in
set_option maxHeartbeats 1000000 in
theorem check19 (A : Option Addr) (n ca : Nat) (ls : List Sp) (x : Sp) (w : World) (hV : SAt w A n ls) (hn : n ≤ 1000000) :
    Calls Tryz.prog 28 #[.slice A n ca, spV x] w (ChkPost ls x w) := by
  have HV := Lib.hid hV
  have HL := Lib.hid hV.1
  clear hV
  obtain ⟨xa, xb, xv⟩ := x
  unfold spV
  have hbx : Below w.heap.size w (w.alloc (.cells #[.int .i64 xa, .int .i64 xb, .string (bs xv)] 71)) := (Below.refl _ _).alloc (Nat.le_refl _) _
  have HB := Lib.hid hbx
  by_cases hr : xa < 0 ∨ 1114111 < xb ∨ xb < xa
  · have HR := Lib.hid (check_range (l := ls) (s := ⟨xa, xb, xv⟩) hr)
    clear hbx
    obtain ⟨T, hT⟩ : ∃ T, bs xv = T := ⟨_, rfl⟩
    rw [hT] at HB ⊢
    clear hT
    rcases (show xa < 0 ∨ (¬ xa < 0 ∧ 1114111 < xb) ∨ (¬ xa < 0 ∧ ¬ 1114111 < xb ∧ xb < xa) by omega) with g | ⟨g, g'⟩ | ⟨g, g', g''⟩
    all_goals
      clear hr
      go_enter Tryz.func28, Tryz.ntmps28
      go_wp2
      go_ret
      exact ⟨by rw [HR.out]; rfl, HB.out⟩
  · have HF := Lib.hid hr
    have g1 : ¬ xa < 0 := fun h => hr (.inl h)
    have g2 : ¬ 1114111 < xb := fun h => hr (.inr (.inl h))
    have g3 : ¬ xb < xa := fun h => hr (.inr (.inr h))
    clear hr hbx
    by_cases hv : xv = []
    · have HR := Lib.hid (check_empty (l := ls) (s := ⟨xa, xb, xv⟩) HF.out hv)
      subst hv
      rw [bs_nil] at HB ⊢
      go_enter Tryz.func28, Tryz.ntmps28
      go_wp2
      go_ret
      exact ⟨by rw [HR.out]; rfl, HB.out⟩
    · have hemp := bs_some hv
      have HE := Lib.hid hv
      obtain ⟨T, hT⟩ : ∃ T, bs xv = T := ⟨_, rfl⟩
      rw [hT] at HB hemp ⊢
      clear hT hv
      go_enter Tryz.func28, Tryz.ntmps28
      go_wp2
      clear hemp
      have hbs : (w.alloc (.cells #[.int .i64 xa, .int .i64 xb, .string T] 71)).cell? ⟨w.heap.size, 0, none⟩ = some (.int .i64 xa) := by simp
      have hbs1 : (w.alloc (.cells #[.int .i64 xa, .int .i64 xb, .string T] 71)).cell? ⟨w.heap.size, 1, none⟩ = some (.int .i64 xb) := by simp
      have HV2 := Lib.hid (HV.out.below HB.out)
      clear HV
      obtain ⟨W, hW⟩ : ∃ W, (w.alloc (.cells #[.int .i64 xa, .int .i64 xb, .string T] 71)) = W := ⟨_, rfl⟩
      rw [hW] at hbs hbs1 HV2 HB ⊢
      clear hW
      go_loopw [5] (fun i wr => ∃ k q : Nat, i = .int .i64 k ∧ k ≤ n ∧ wr = W.drewN q ∧ (ls.take k).any (meets · ⟨xa, xb, xv⟩) = false) (fun i _ => n - (intOf i).toNat)
      case atStart => exact ⟨0, 0, rfl, Nat.zero_le _, rfl, by simp⟩
      case round =>
        obtain ⟨k, q, rfl, hkn, rfl, hno⟩ := hrel
        by_cases hlt : k < n
        · obtain ⟨b, off, rfl, -, hc⟩ := HV2.out.2 (by omega)
          obtain ⟨s, hs⟩ := getSp (ls := ls) (k := k) (by rw [HL.out]; exact hlt)
          obtain ⟨h1, h2, -⟩ := hc k s hs
          clear hc
          have hmt := any_take (f := (meets · ⟨xa, xb, xv⟩)) hs hno
          have hmm := fun h => any_mem (f := (meets · ⟨xa, xb, xv⟩)) hs h
          have hmeets : meets s ⟨xa, xb, xv⟩ = (decide (s.a ≤ xb) && decide (xa ≤ s.b)) := rfl
          rw [hmeets] at hmt hmm
          by_cases k1 : s.a ≤ xb
          · by_cases k2 : xa ≤ s.b
            · have HR := Lib.hid (check_meets (l := ls) (s := ⟨xa, xb, xv⟩) HF.out HE.out (hmm (by simp [k1, k2])))
              clear hmt hmm hmeets hs hno
              go_wp2
              go_quiet (fail)
              go_wp2
              go_ret
              exact ⟨by rw [HR.out]; rfl, below_drewN (below_drewN HB.out q) _⟩
            · have hd : decide (xa ≤ s.b) = false := by simp; omega
              rw [hd, Bool.and_false] at hmt
              have HN := Lib.hid hmt
              clear hmt hmm hmeets hs hno
              go_wp2
              go_quiet (fail)
              go_wp2
              go_roundw
              case rel => exact ⟨k + 1, _, by go_num, by omega, rfl, HN.out⟩
              case measure => simp [intOf]; omega
          · have hd : decide (s.a ≤ xb) = false := by simp; omega
            rw [hd, Bool.false_and] at hmt
            have HN := Lib.hid hmt
            clear hmt hmm hmeets hs hno
            go_wp2
            go_quiet (fail)
            go_wp2
            go_roundw
            case rel => exact ⟨k + 1, _, by go_num, by omega, rfl, HN.out⟩
            case measure => simp [intOf]; omega
        · have hke : k = n := by omega
          subst hke
          rw [List.take_of_length_le (by rw [HL.out]; exact Nat.le_refl _)] at hno
          have HR := Lib.hid (check_fine (l := ls) (s := ⟨xa, xb, xv⟩) HF.out HE.out hno)
          clear hno
          go_wp2
          go_ret
          exact ⟨by rw [HR.out]; rfl, below_drewN HB.out q⟩
end Go.Proofs.YtdbnegllncjhkaaGreatDoor

namespace Go.Proofs.YtdbnegllncjhkaaGreatDoor
open Go.RowKit Go.Sort

theorem check_alone {s : Sp} (h : ¬ (s.a < 0 ∨ 1114111 < s.b ∨ s.b < s.a)) (hv : ¬ s.v = []) : check [] s = 0 := check_fine h hv rfl
set_option maxRecDepth 100000 in
set_option maxHeartbeats 1000000 in
theorem check34 (x : Sp) (w : World) : Calls Tryz.prog 78 #[spV x] w (ChkPost [] x w) := by
  obtain ⟨xa, xb, xv⟩ := x
  unfold spV
  have HB := Lib.hid (show Below w.heap.size w (w.alloc (.cells #[.int .i64 xa, .int .i64 xb, .string (bs xv)] 59)) from (Below.refl _ _).alloc (Nat.le_refl _) _)
  by_cases hr : xa < 0 ∨ 1114111 < xb ∨ xb < xa
  · have HR := Lib.hid (check_range (l := []) (s := ⟨xa, xb, xv⟩) hr)
    obtain ⟨T, hT⟩ : ∃ T, bs xv = T := ⟨_, rfl⟩
    rw [hT] at HB ⊢
    clear hT
    rcases (show xa < 0 ∨ (¬ xa < 0 ∧ 1114111 < xb) ∨ (¬ xa < 0 ∧ ¬ 1114111 < xb ∧ xb < xa) by omega) with g | ⟨g, g'⟩ | ⟨g, g', g''⟩
    all_goals
      clear hr
      go_enter Tryz.func78, Tryz.ntmps78
      go_wp2
      go_ret
      exact ⟨by rw [HR.out]; rfl, HB.out⟩
  · have HF := Lib.hid hr
    have g1 : ¬ xa < 0 := fun h => hr (.inl h)
    have g2 : ¬ 1114111 < xb := fun h => hr (.inr (.inl h))
    have g3 : ¬ xb < xa := fun h => hr (.inr (.inr h))
    clear hr
    by_cases hv : xv = []
    · have HR := Lib.hid (check_empty (l := []) (s := ⟨xa, xb, xv⟩) HF.out hv)
      subst hv
      rw [bs_nil] at HB ⊢
      go_enter Tryz.func78, Tryz.ntmps78
      go_wp2
      go_ret
      exact ⟨by rw [HR.out]; rfl, HB.out⟩
    · have hemp := bs_some hv
      have HR := Lib.hid (check_alone (s := ⟨xa, xb, xv⟩) HF.out hv)
      obtain ⟨T, hT⟩ : ∃ T, bs xv = T := ⟨_, rfl⟩
      rw [hT] at HB hemp ⊢
      clear hT hv
      go_enter Tryz.func78, Tryz.ntmps78
      go_wp2
      go_ret
      exact ⟨by rw [HR.out]; rfl, HB.out⟩

def sideOf (s t : Sp) : Int := if s.b < t.a then -1 else if t.b < s.a then 1 else 0
set_option maxRecDepth 100000 in
set_option maxHeartbeats 1000000 in
theorem side43 (s t : Sp) (w : World) : Calls Tryz.prog 58 #[spV s, spV t] w fun e w' => e = .returned (.int .i64 (sideOf s t)) ∧ ∃ q os', w' = grow (w.drewN q) os' := by
  obtain ⟨xa, xb, xv⟩ := s
  obtain ⟨ya, yb, yv⟩ := t
  unfold spV
  have HW : ∀ T U, ∃ q os', (w.alloc (.cells #[.int .i64 xa, .int .i64 xb, .string T] 59)).alloc (.cells #[.int .i64 ya, .int .i64 yb, .string U] 59) = grow (w.drewN q) os' := fun T U => ⟨0, _, by rw [alloc_eq_grow, alloc_eq_grow, grow_grow]; rfl⟩
  have HW := Lib.hid HW
  obtain ⟨T, hT⟩ : ∃ T, bs xv = T := ⟨_, rfl⟩
  obtain ⟨U, hU⟩ : ∃ U, bs yv = U := ⟨_, rfl⟩
  rw [hT, hU]
  clear hT hU
  by_cases h1 : xb < ya
  · have HR : Hid (sideOf ⟨xa, xb, xv⟩ ⟨ya, yb, yv⟩ = -1) := Lib.hid (by unfold sideOf; rw [if_pos h1])
    go_enter Tryz.func58, Tryz.ntmps58
    go_wp2
    go_ret
    exact ⟨by rw [HR.out]; rfl, HW.out _ _⟩
  · by_cases h2 : yb < xa
    · have HR : Hid (sideOf ⟨xa, xb, xv⟩ ⟨ya, yb, yv⟩ = 1) := Lib.hid (by unfold sideOf; rw [if_neg h1, if_pos h2])
      go_enter Tryz.func58, Tryz.ntmps58
      go_wp2
      go_ret
      exact ⟨by rw [HR.out]; rfl, HW.out _ _⟩
    · have HR : Hid (sideOf ⟨xa, xb, xv⟩ ⟨ya, yb, yv⟩ = 0) := Lib.hid (by unfold sideOf; rw [if_neg h1, if_neg h2])
      go_enter Tryz.func58, Tryz.ntmps58
      go_wp2
      go_ret
      exact ⟨by rw [HR.out]; rfl, HW.out _ _⟩

/-! ahead: how many spans stand ahead of the first that is wrong by itself. -/
def AhdPost (ls : List Sp) (w : World) (e : Ending) (w' : World) : Prop :=
  Below w.heap.size w w' ∧ ((e = .returned (.tuple #[.int .i64 ls.length, .int .i64 0]) ∧ ∀ s ∈ ls, check [] s = 0) ∨
    ∃ (k : Nat) (s : Sp), ls[k]? = some s ∧ e = .returned (.tuple #[.int .i64 k, .int .i64 (check [] s)]) ∧ check [] s ≠ 0 ∧ ∀ t ∈ ls.take k, check [] t = 0)
def AhdRel (ls : List Sp) (w : World) (i : Value) (wr : World) : Prop :=
  Below w.heap.size w wr ∧ ∃ k : Nat, i = .int .i64 k ∧ k ≤ ls.length ∧ ∀ t ∈ ls.take k, check [] t = 0
set_option maxRecDepth 100000 in
set_option maxHeartbeats 2000000 in
theorem ahead24 (A : Option Addr) (n ca : Nat) (ls : List Sp) (w : World) (hV : SAt w A n ls) (hn : n ≤ 100000) :
    Calls Tryz.prog 47 #[.slice A n ca] w (AhdPost ls w) := by
  have HV := Lib.hid hV
  have HL := Lib.hid hV.1
  clear hV
  go_enter Tryz.func47, Tryz.ntmps47
  go_wp2
  go_loopw [9] (fun i wr => AhdRel ls w i wr) (fun i _ => n - (intOf i).toNat)
  case atStart => exact ⟨Below.refl _ _, 0, rfl, Nat.zero_le _, by simp⟩
  case round =>
    obtain ⟨hbel, k, rfl, hkn, hfit⟩ := hrel
    rw [HL.out] at hkn
    by_cases hlt : k < n
    · obtain ⟨b, off, rfl, hblt, hc⟩ := (HV.out.below hbel).2 (by omega)
      obtain ⟨s, hs⟩ := getSp (ls := ls) (k := k) (by rw [HL.out]; exact hlt)
      obtain ⟨h1, h2, h3⟩ := hc k s hs
      have HM := Lib.hid (take_more (P := fun t => check [] t = 0) hs hfit)
      have HF := Lib.hid hfit
      have HS := Lib.hid hs
      clear hc hfit hs
      have c34 := fun W => check34 s W
      unfold spV ChkPost at c34
      obtain ⟨T, hT⟩ : ∃ T, bs s.v = T := ⟨_, rfl⟩
      rw [hT] at h3 c34
      have HB := Lib.hid (fun o => hbel.alloc hbel.size o)
      clear hT
      obtain ⟨X, hX⟩ : ∃ X, check [] s = X := ⟨_, rfl⟩
      rw [hX] at c34
      have HX := Lib.hid hX
      clear hX
      by_cases hx : X = 0
      · subst hx
        go_wp2_with (go_at_call 78; (with_reducible refine (c34 _).mono ?_); rintro e w1 ⟨rfl, hb1⟩)
        go_roundw
        case rel => exact ⟨(HB.out _).trans (hb1.mono (HB.out _).size), k + 1, by go_num, by rw [HL.out]; omega, HM.out HX.out⟩
        case measure => simp [intOf]; omega
      · have hb0 : (X == 0) = false := beq_false_of_ne hx
        have HX0 := Lib.hid hx
        clear hx
        go_wp2_with (go_at_call 78; (with_reducible refine (c34 _).mono ?_); rintro e w1 ⟨rfl, hb1⟩)
        go_ret2
        exact ⟨(HB.out _).trans (hb1.mono (HB.out _).size), .inr ⟨k, s, HS.out, by rw [HX.out]; rfl, by rw [HX.out]; exact HX0.out, HF.out⟩⟩
    · have hke : k = n := by omega
      subst hke
      rw [List.take_of_length_le (by rw [HL.out]; exact Nat.le_refl _)] at hfit
      have HF := Lib.hid hfit
      clear hfit
      go_wp2
      go_ret2
      exact ⟨hbel, .inl ⟨by rw [HL.out]; rfl, HF.out⟩⟩
end Go.Proofs.YtdbnegllncjhkaaGreatDoor
