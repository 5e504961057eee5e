/- What the document's own Value and Check hand back. -/
import Derived.Test.YtfggoegofbghhaaSat
import Derived.Test.YtfggoegofbghhaaProg
import Derived.BigQuiet
namespace Go.Proofs.Ytfggoegofbghhaa
open Go.RowKit

set_option maxRecDepth 100000 in
set_option maxHeartbeats 1000000 in
theorem value12 (A : Option Addr) (n ca : Nat) (ls : List Sp) (c : Int) (w : World) (hV : SAt w A n ls) (hn : n ≤ 1000000) :
    Calls Try.prog 12 #[.slice A n ca, .int .i64 c] w fun e w' => e = .returned (.string (bs (valueOf ls c))) ∧ ∃ q, w' = w.drewN q := by
  have HV := Lib.hid hV
  have HL := Lib.hid hV.1
  clear hV
  go_enter Try.func12, Try.ntmps12
  go_wp2
  go_loopw [5] (fun i wr => ∃ k q : Nat, i = .int .i64 k ∧ k ≤ n ∧ wr = w.drewN q ∧ ∀ t ∈ ls.take k, ¬ (t.a ≤ c ∧ c ≤ t.b)) (fun i _ => n - (intOf i).toNat)
  case atStart => exact ⟨0, 0, rfl, Nat.zero_le _, rfl, by simp⟩
  case round =>
    obtain ⟨k, q, rfl, hkn, rfl, hno⟩ := hrel
    by_cases hlt : k < n
    · obtain ⟨b, off, rfl, -, hc⟩ := HV.out.2 (by omega)
      obtain ⟨s, hs⟩ := getSp (ls := ls) (k := k) (by rw [HL.out]; exact hlt)
      obtain ⟨h1, h2, h3⟩ := hc k s hs
      by_cases g1 : s.a ≤ c
      · by_cases g2 : c ≤ s.b
        · have HR := Lib.hid (value_take hs hno ⟨g1, g2⟩)
          clear hc hs hno
          obtain ⟨T, hT⟩ : ∃ T, bs s.v = T := ⟨_, rfl⟩
          rw [hT] at h3
          have HT := Lib.hid hT
          clear hT
          go_wp2
          go_ret
          exact ⟨by rw [HR.out, HT.out]; rfl, q, rfl⟩
        · have HN := Lib.hid (take_more hs hno (fun h => g2 h.2))
          clear hc hs hno h3
          go_wp2
          go_roundw
          case rel => exact ⟨k + 1, q, by go_num, by omega, rfl, HN.out⟩
          case measure => simp [intOf]; omega
      · have HN := Lib.hid (take_more hs hno (fun h => g1 h.1))
        clear hc hs hno h3 h2
        go_wp2
        go_roundw
        case rel => exact ⟨k + 1, q, by go_num, by omega, rfl, HN.out⟩
        case measure => simp [intOf]; omega
    · have hke : k = n := by omega
      subst hke
      rw [List.take_of_length_le (by rw [HL.out]; exact Nat.le_refl _)] at hno
      have HR := Lib.hid (value_gap hno)
      clear hno
      go_wp2
      go_ret
      exact ⟨by rw [HR.out]; rfl, q, rfl⟩

/-- A span as a value. -/
def spV (s : Sp) : Value := .agg #[.int .i64 s.a, .int .i64 s.b, .string (bs s.v)]
theorem check_range {l : List Sp} {s : Sp} (h : s.a < 0 ∨ 1114111 < s.b ∨ s.b < s.a) : check l s = 14 := by unfold check; rw [if_pos h]
theorem check_empty {l : List Sp} {s : Sp} (h : ¬ (s.a < 0 ∨ 1114111 < s.b ∨ s.b < s.a)) (hv : s.v = []) : check l s = 16 := by unfold check; rw [if_neg h, if_pos hv]
theorem check_meets {l : List Sp} {s : Sp} (h : ¬ (s.a < 0 ∨ 1114111 < s.b ∨ s.b < s.a)) (hv : ¬ s.v = []) (hm : l.any (meets · s) = true) : check l s = 15 := by unfold check; rw [if_neg h, if_neg hv, if_pos hm]
theorem check_fine {l : List Sp} {s : Sp} (h : ¬ (s.a < 0 ∨ 1114111 < s.b ∨ s.b < s.a)) (hv : ¬ s.v = []) (hm : l.any (meets · s) = false) : check l s = 0 := by unfold check; rw [if_neg h, if_neg hv, if_neg (by simp [hm])]
def ChkPost (l : List Sp) (s : Sp) (w : World) (e : Ending) (w' : World) : Prop := e = .returned (.int .i64 (check l s)) ∧ Below w.heap.size w w'

set_option maxRecDepth 100000 in
set_option maxHeartbeats 1000000 in
theorem check19 (A : Option Addr) (n ca : Nat) (ls : List Sp) (x : Sp) (w : World) (hV : SAt w A n ls) (hn : n ≤ 1000000) :
    Calls Try.prog 19 #[.slice A n ca, spV x] w (ChkPost ls x w) := by
  have HV := Lib.hid hV
  have HL := Lib.hid hV.1
  clear hV
  obtain ⟨xa, xb, xv⟩ := x
  unfold spV
  have hbx : Below w.heap.size w (w.alloc (.cells #[.int .i64 xa, .int .i64 xb, .string (bs xv)] 44)) := (Below.refl _ _).alloc (Nat.le_refl _) _
  have HB := Lib.hid hbx
  by_cases hr : xa < 0 ∨ 1114111 < xb ∨ xb < xa
  · have HR := Lib.hid (check_range (l := ls) (s := ⟨xa, xb, xv⟩) hr)
    clear hbx
    obtain ⟨T, hT⟩ : ∃ T, bs xv = T := ⟨_, rfl⟩
    rw [hT] at HB ⊢
    clear hT
    rcases (show xa < 0 ∨ (¬ xa < 0 ∧ 1114111 < xb) ∨ (¬ xa < 0 ∧ ¬ 1114111 < xb ∧ xb < xa) by omega) with g | ⟨g, g'⟩ | ⟨g, g', g''⟩
    all_goals
      clear hr
      go_enter Try.func19, Try.ntmps19
      go_wp2
      go_ret
      exact ⟨by rw [HR.out]; rfl, HB.out⟩
  · have HF := Lib.hid hr
    have g1 : ¬ xa < 0 := fun h => hr (.inl h)
    have g2 : ¬ 1114111 < xb := fun h => hr (.inr (.inl h))
    have g3 : ¬ xb < xa := fun h => hr (.inr (.inr h))
    clear hr hbx
    by_cases hv : xv = []
    · have HR := Lib.hid (check_empty (l := ls) (s := ⟨xa, xb, xv⟩) HF.out hv)
      subst hv
      rw [bs_nil] at HB ⊢
      go_enter Try.func19, Try.ntmps19
      go_wp2
      go_ret
      exact ⟨by rw [HR.out]; rfl, HB.out⟩
    · have hemp := bs_some hv
      have HE := Lib.hid hv
      obtain ⟨T, hT⟩ : ∃ T, bs xv = T := ⟨_, rfl⟩
      rw [hT] at HB hemp ⊢
      clear hT hv
      go_enter Try.func19, Try.ntmps19
      go_wp2
      clear hemp
      have hbs : (w.alloc (.cells #[.int .i64 xa, .int .i64 xb, .string T] 44)).cell? ⟨w.heap.size, 0, none⟩ = some (.int .i64 xa) := by simp
      have hbs1 : (w.alloc (.cells #[.int .i64 xa, .int .i64 xb, .string T] 44)).cell? ⟨w.heap.size, 1, none⟩ = some (.int .i64 xb) := by simp
      have HV2 := Lib.hid (HV.out.below HB.out)
      clear HV
      obtain ⟨W, hW⟩ : ∃ W, (w.alloc (.cells #[.int .i64 xa, .int .i64 xb, .string T] 44)) = W := ⟨_, rfl⟩
      rw [hW] at hbs hbs1 HV2 HB ⊢
      clear hW
      go_loopw [5] (fun i wr => ∃ k q : Nat, i = .int .i64 k ∧ k ≤ n ∧ wr = W.drewN q ∧ (ls.take k).any (meets · ⟨xa, xb, xv⟩) = false) (fun i _ => n - (intOf i).toNat)
      case atStart => exact ⟨0, 0, rfl, Nat.zero_le _, rfl, by simp⟩
      case round =>
        obtain ⟨k, q, rfl, hkn, rfl, hno⟩ := hrel
        by_cases hlt : k < n
        · obtain ⟨b, off, rfl, -, hc⟩ := HV2.out.2 (by omega)
          obtain ⟨s, hs⟩ := getSp (ls := ls) (k := k) (by rw [HL.out]; exact hlt)
          obtain ⟨h1, h2, -⟩ := hc k s hs
          clear hc
          have hmt := any_take (f := (meets · ⟨xa, xb, xv⟩)) hs hno
          have hmm := fun h => any_mem (f := (meets · ⟨xa, xb, xv⟩)) hs h
          have hmeets : meets s ⟨xa, xb, xv⟩ = (decide (s.a ≤ xb) && decide (xa ≤ s.b)) := rfl
          rw [hmeets] at hmt hmm
          by_cases k1 : s.a ≤ xb
          · by_cases k2 : xa ≤ s.b
            · have HR := Lib.hid (check_meets (l := ls) (s := ⟨xa, xb, xv⟩) HF.out HE.out (hmm (by simp [k1, k2])))
              clear hmt hmm hmeets hs hno
              go_wp2
              go_quiet (fail)
              go_wp2
              go_ret
              exact ⟨by rw [HR.out]; rfl, below_drewN (below_drewN HB.out q) _⟩
            · have hd : decide (xa ≤ s.b) = false := by simp; omega
              rw [hd, Bool.and_false] at hmt
              have HN := Lib.hid hmt
              clear hmt hmm hmeets hs hno
              go_wp2
              go_quiet (fail)
              go_wp2
              go_roundw
              case rel => exact ⟨k + 1, _, by go_num, by omega, rfl, HN.out⟩
              case measure => simp [intOf]; omega
          · have hd : decide (s.a ≤ xb) = false := by simp; omega
            rw [hd, Bool.false_and] at hmt
            have HN := Lib.hid hmt
            clear hmt hmm hmeets hs hno
            go_wp2
            go_quiet (fail)
            go_wp2
            go_roundw
            case rel => exact ⟨k + 1, _, by go_num, by omega, rfl, HN.out⟩
            case measure => simp [intOf]; omega
        · have hke : k = n := by omega
          subst hke
          rw [List.take_of_length_le (by rw [HL.out]; exact Nat.le_refl _)] at hno
          have HR := Lib.hid (check_fine (l := ls) (s := ⟨xa, xb, xv⟩) HF.out HE.out hno)
          clear hno
          go_wp2
          go_ret
          exact ⟨by rw [HR.out]; rfl, below_drewN HB.out q⟩
end Go.Proofs.Ytfggoegofbghhaa
