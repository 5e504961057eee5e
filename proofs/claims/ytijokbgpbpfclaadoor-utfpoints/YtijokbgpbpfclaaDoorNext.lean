/- What the document's own look for the scalar at the head of octets hands back. -/
import Derived.Test.YtijokbgpbpfclaaDoorNextm
import Derived.Test.YtijokbgpbpfclaaDoorOct
import Derived.Deep.RegionWith
import Derived.Deep.QuietTactic
import Derived.BigQuiet
import Derived.Deep.RegionHeld3
import Derived.Handy
namespace Go.Proofs.YtijokbgpbpfclaaDoor
open Go.RowKit

/-- The text's octets, as the walk spells them. -/
theorem str_at {bs : List Int} (hb : Octs bs) (j : Nat) (h : j < (strOfNums bs).size) : (((strOfNums bs)[j]'h).toNat : Int) = bs.getD j 0 := by
  have e := str_get hb j
  have e2 : (strOfNums bs).get! j = (strOfNums bs)[j]'h := by
    rw [strOfNums_size] at h
    simp [strOfNums, ByteArray.get!, ByteArray.getElem_eq_getElem_data, h]
  rw [e2] at e
  exact e
theorem str_take {bs : List Int} (k : Nat) : (strOfNums bs).extract 0 k = strOfNums (bs.take k) := by
  simp only [strOfNums]
  rw [ByteArray.extract_mk]
  simp [List.map_take]
theorem str_list {a b : List Int} (ha : Octs a) (hb : Octs b) (h : a ≠ b) : ((strOfNums a).toList == (strOfNums b).toList) = false := by
  apply beq_false_of_ne
  intro e
  rw [ByteArray.toList_eq, ByteArray.toList_eq] at e
  apply h
  apply str_eq ha hb
  exact ByteArray.ext (Array.ext' e)
theorem octs_take {bs : List Int} (h : Octs bs) (k : Nat) : Octs (bs.take k) := fun x hx => h x (List.mem_of_mem_take hx)

theorem q21_no {c : Int} (w : World) (n : Nat) (h : scal c = false) : Calls Tryd.prog 21 #[.int .i64 c] (w.drewN n) fun e w'' => e = .returned (.bool false) ∧ ∃ m, w'' = w.drewN m :=
  (scalar21_no _ h).mono fun _ _ ⟨he, hm⟩ => ⟨he, n, hm.symm⟩
theorem q21_yes {c : Int} (w : World) (n : Nat) (h : scal c = true) : Calls Tryd.prog 21 #[.int .i64 c] (w.drewN n) fun e w'' => e = .returned (.bool true) ∧ ∃ m, w'' = w.drewN m :=
  (scalar21_yes _ h).mono fun _ _ ⟨he, hm⟩ => ⟨he, n, hm.symm⟩

def NextRel (bs : List Int) (w : World) (i : Value) (wr : World) : Prop :=
  ∃ k : Nat, 1 ≤ k ∧ k ≤ 5 ∧ i = .int .i64 k ∧ (∀ m, 1 ≤ m → m < k → ¬ okAt bs m) ∧ Below w.heap.size w wr
def NextPost (bs : List Int) (w : World) (e : Ending) (w' : World) : Prop :=
  Below w.heap.size w w' ∧ ((∃ c, fst bs = some c ∧ e = .returned (.tuple #[.int .i64 c, .int .i64 (oct c).length])) ∨ (fst bs = none ∧ e = .returned (.tuple #[.int .i64 0, .int .i64 0])))

theorem next_found {bs : List Int} {n : Nat} {w w' : World} (h : okAt bs n) (hn : n ≤ bs.length) (hb : Below w.heap.size w w') : NextPost bs w (.returned (.tuple #[.int .i64 (cand bs n), .int .i64 n])) w' := by
  refine ⟨hb, .inl ⟨_, ok_fst h, ?_⟩⟩
  rw [ok_len h hn]
theorem next_on {bs : List Int} {n : Nat} {w w' : World} (h1 : 1 ≤ n) (h4 : n ≤ 4) (hno : ∀ m, 1 ≤ m → m < n → ¬ okAt bs m) (h : ¬ okAt bs n) (hb : Below w.heap.size w w') : NextRel bs w (.int .i64 ((n + 1 : Nat) : Int)) w' :=
  ⟨n + 1, by omega, by omega, rfl, no_next hno h, hb⟩

theorem next_yes {bs : List Int} {k : Nat} {C : Int} {w w' : World} (ec : cand bs k = C) (hs : scal C = true) (hb : Octs bs) (hk : k ≤ bs.length)
    (hc : ((strOfNums (oct C)).toList == ((strOfNums bs).extract 0 k).toList) = true) (hbel : Below w.heap.size w w') : NextPost bs w (.returned (.tuple #[.int .i64 C, .int .i64 k])) w' := by
  subst ec
  rw [str_take] at hc
  have e : oct (cand bs k) = bs.take k := by
    apply Classical.byContradiction
    intro hne
    rw [str_list (octs_oct _) (octs_take hb k) hne] at hc
    cases hc
  exact next_found ⟨hs, e⟩ hk hbel
theorem next_no {bs : List Int} {k : Nat} {C : Int} (ec : cand bs k = C) (hc : ((strOfNums (oct C)).toList == ((strOfNums bs).extract 0 k).toList) = false) : ¬ okAt bs k := by
  subst ec
  rw [str_take] at hc
  intro h
  rw [h.2] at hc
  simp at hc

set_option maxHeartbeats 4000000 in
theorem next26 (bs : List Int) (w : World) (hb : Octs bs) (h1 : 1 ≤ bs.length) (h2 : bs.length ≤ 1000000) :
    Calls Tryd.prog 26 #[.string (strOfNums bs)] w (NextPost bs w) := by
  have hsz : (strOfNums bs).size = bs.length := strOfNums_size bs
  have g0 := str_at hb 0
  have g1 := str_at hb 1
  have g2 := str_at hb 2
  have g3 := str_at hb 3
  have q0 := octs_at hb 0
  have q1 := octs_at hb 1
  have q2 := octs_at hb 2
  have q3 := octs_at hb 3
  have HB := Lib.hid hb
  clear hb
  obtain ⟨x0, e0⟩ : ∃ x, bs.getD 0 0 = x := ⟨_, rfl⟩
  obtain ⟨x1, e1⟩ : ∃ x, bs.getD 1 0 = x := ⟨_, rfl⟩
  obtain ⟨x2, e2⟩ : ∃ x, bs.getD 2 0 = x := ⟨_, rfl⟩
  obtain ⟨x3, e3⟩ : ∃ x, bs.getD 3 0 = x := ⟨_, rfl⟩
  simp only [e0] at g0 q0
  simp only [e1] at g1 q1
  simp only [e2] at g2 q2
  simp only [e3] at g3 q3
  obtain ⟨q0l, q0h⟩ := q0
  obtain ⟨q1l, q1h⟩ := q1
  obtain ⟨q2l, q2h⟩ := q2
  obtain ⟨q3l, q3h⟩ := q3
  have E0 := Lib.hid e0
  have E1 := Lib.hid e1
  have E2 := Lib.hid e2
  have E3 := Lib.hid e3
  clear e0 e1 e2 e3
  go_enter Tryd.func26, Tryd.ntmps26
  go_wp2
  go_loopw [4] (fun i wr => NextRel bs w i wr) (fun i _ => 5 - (intOf i).toNat)
  case atStart => exact ⟨1, by omega, by omega, rfl, fun m a b => absurd b (by omega), Below.refl _ _⟩
  case round =>
    obtain ⟨k, hk1, hk5, rfl, hno, hbel⟩ := hrel
    have HN := Lib.hid hno
    clear hno
    by_cases hend : 4 < k ∨ bs.length < k
    · have hn := none_of HB.out HN.out hend
      have HF := Lib.hid hn
      clear hn
      by_cases h5 : 4 < k
      · clear hend
        go_wp2
        go_ret2
        exact ⟨hbel, .inr ⟨HF.out, rfl⟩⟩
      · have h6 : bs.length < k := by omega
        clear hend
        go_wp2
        go_ret2
        exact ⟨hbel, .inr ⟨HF.out, rfl⟩⟩
    · have hl : k ≤ bs.length := by omega
      rcases (show k = 1 ∨ k = 2 ∨ k = 3 ∨ k = 4 by omega) with rfl | rfl | rfl | rfl
      · clear hend
        have ec : cand bs 1 = x0 := by simp only [cand, E0.out]; rfl
        have EC := Lib.hid ec
        clear ec
        cases hs : scal (cand bs 1) with
        | false =>
          have hs' : scal (x0) = false := by rw [EC.out] at hs; exact hs
          have HS := Lib.hid hs'
          have HQ : Hid (¬ okAt bs 1) := fun h => by rw [okAt, hs] at h; exact absurd h.1 (by decide)
          clear hs hs'
          go_wp2
          refine wp_loop_rounds 1 ?_
          repeat (rw [rounds_succ]; go_wp2)
          go_quiet ((go_at_call 21; exact q21_no _ _ HS.out))
          go_wp2
          go_roundw
          case rel => exact next_on (n := 1) (by omega) (by omega) HN.out HQ.out (below_drewN hbel _)
          case measure => simp [intOf]
        | true =>
          have hs' : scal (x0) = true := by rw [EC.out] at hs; exact hs
          have HS := Lib.hid hs'
          have HSC := Lib.hid hs
          clear hs hs'
          go_wp2
          refine wp_loop_rounds 1 ?_
          repeat (rw [rounds_succ]; go_wp2)
          go_region_with (first | (go_at_call 21; (with_reducible refine (scalar21_yes _ HS.out).mono ?_); rintro e w' ⟨rfl, rfl⟩) | (go_at_call 15; (with_reducible refine (octets15 _ _ HS.out).mono ?_); rintro e w' ⟨rfl, hb1⟩))
          all_goals go_wp2
          · have hcmp : ((strOfNums (oct (x0))).toList == ((strOfNums bs).extract 0 1).toList) = true := by assumption
            go_ret2
            exact next_yes (k := 1) EC.out HS.out HB.out hl hcmp ((below_drewN hbel 1).trans (hb1.mono hbel.size))
          · have hcmp : ((strOfNums (oct (x0))).toList == ((strOfNums bs).extract 0 1).toList) = false := by assumption
            go_roundw
            case rel => exact next_on (n := 1) (by omega) (by omega) HN.out (next_no EC.out hcmp) ((below_drewN hbel 1).trans (hb1.mono hbel.size))
            case measure => simp [intOf]
      · clear hend
        have ec : cand bs 2 = x0 % 32 * 64 + x1 % 64 := by simp only [cand, E0.out, E1.out]; rfl
        have EC := Lib.hid ec
        clear ec
        cases hs : scal (cand bs 2) with
        | false =>
          have hs' : scal (x0 % 32 * 64 + x1 % 64) = false := by rw [EC.out] at hs; exact hs
          have HS := Lib.hid hs'
          have HQ : Hid (¬ okAt bs 2) := fun h => by rw [okAt, hs] at h; exact absurd h.1 (by decide)
          clear hs hs'
          go_wp2
          refine wp_loop_rounds 2 ?_
          repeat (rw [rounds_succ]; go_wp2)
          go_quiet ((go_at_call 21; exact q21_no _ _ HS.out))
          go_wp2
          go_roundw
          case rel => exact next_on (n := 2) (by omega) (by omega) HN.out HQ.out (below_drewN hbel _)
          case measure => simp [intOf]
        | true =>
          have hs' : scal (x0 % 32 * 64 + x1 % 64) = true := by rw [EC.out] at hs; exact hs
          have HS := Lib.hid hs'
          have HSC := Lib.hid hs
          clear hs hs'
          go_wp2
          refine wp_loop_rounds 2 ?_
          repeat (rw [rounds_succ]; go_wp2)
          go_region_with (first | (go_at_call 21; (with_reducible refine (scalar21_yes _ HS.out).mono ?_); rintro e w' ⟨rfl, rfl⟩) | (go_at_call 15; (with_reducible refine (octets15 _ _ HS.out).mono ?_); rintro e w' ⟨rfl, hb1⟩))
          all_goals go_wp2
          · have hcmp : ((strOfNums (oct (x0 % 32 * 64 + x1 % 64))).toList == ((strOfNums bs).extract 0 2).toList) = true := by assumption
            go_ret2
            exact next_yes (k := 2) EC.out HS.out HB.out hl hcmp ((below_drewN hbel 1).trans (hb1.mono hbel.size))
          · have hcmp : ((strOfNums (oct (x0 % 32 * 64 + x1 % 64))).toList == ((strOfNums bs).extract 0 2).toList) = false := by assumption
            go_roundw
            case rel => exact next_on (n := 2) (by omega) (by omega) HN.out (next_no EC.out hcmp) ((below_drewN hbel 1).trans (hb1.mono hbel.size))
            case measure => simp [intOf]
      · clear hend
        have ec : cand bs 3 = (x0 % 16 * 64 + x1 % 64) * 64 + x2 % 64 := by simp only [cand, E0.out, E1.out, E2.out]; rfl
        have EC := Lib.hid ec
        clear ec
        cases hs : scal (cand bs 3) with
        | false =>
          have hs' : scal ((x0 % 16 * 64 + x1 % 64) * 64 + x2 % 64) = false := by rw [EC.out] at hs; exact hs
          have HS := Lib.hid hs'
          have HQ : Hid (¬ okAt bs 3) := fun h => by rw [okAt, hs] at h; exact absurd h.1 (by decide)
          clear hs hs'
          go_wp2
          refine wp_loop_rounds 3 ?_
          repeat (rw [rounds_succ]; go_wp2)
          go_quiet ((go_at_call 21; exact q21_no _ _ HS.out))
          go_wp2
          go_roundw
          case rel => exact next_on (n := 3) (by omega) (by omega) HN.out HQ.out (below_drewN hbel _)
          case measure => simp [intOf]
        | true =>
          have hs' : scal ((x0 % 16 * 64 + x1 % 64) * 64 + x2 % 64) = true := by rw [EC.out] at hs; exact hs
          have HS := Lib.hid hs'
          have HSC := Lib.hid hs
          clear hs hs'
          go_wp2
          refine wp_loop_rounds 3 ?_
          repeat (rw [rounds_succ]; go_wp2)
          go_region_with (first | (go_at_call 21; (with_reducible refine (scalar21_yes _ HS.out).mono ?_); rintro e w' ⟨rfl, rfl⟩) | (go_at_call 15; (with_reducible refine (octets15 _ _ HS.out).mono ?_); rintro e w' ⟨rfl, hb1⟩))
          all_goals go_wp2
          · have hcmp : ((strOfNums (oct ((x0 % 16 * 64 + x1 % 64) * 64 + x2 % 64))).toList == ((strOfNums bs).extract 0 3).toList) = true := by assumption
            go_ret2
            exact next_yes (k := 3) EC.out HS.out HB.out hl hcmp ((below_drewN hbel 1).trans (hb1.mono hbel.size))
          · have hcmp : ((strOfNums (oct ((x0 % 16 * 64 + x1 % 64) * 64 + x2 % 64))).toList == ((strOfNums bs).extract 0 3).toList) = false := by assumption
            go_roundw
            case rel => exact next_on (n := 3) (by omega) (by omega) HN.out (next_no EC.out hcmp) ((below_drewN hbel 1).trans (hb1.mono hbel.size))
            case measure => simp [intOf]
      · clear hend
        have ec : cand bs 4 = ((x0 % 8 * 64 + x1 % 64) * 64 + x2 % 64) * 64 + x3 % 64 := by simp only [cand, E0.out, E1.out, E2.out, E3.out]; rfl
        have EC := Lib.hid ec
        clear ec
        cases hs : scal (cand bs 4) with
        | false =>
          have hs' : scal (((x0 % 8 * 64 + x1 % 64) * 64 + x2 % 64) * 64 + x3 % 64) = false := by rw [EC.out] at hs; exact hs
          have HS := Lib.hid hs'
          have HQ : Hid (¬ okAt bs 4) := fun h => by rw [okAt, hs] at h; exact absurd h.1 (by decide)
          clear hs hs'
          go_wp2
          refine wp_loop_rounds 4 ?_
          repeat (rw [rounds_succ]; go_wp2)
          go_quiet ((go_at_call 21; exact q21_no _ _ HS.out))
          go_wp2
          go_roundw
          case rel => exact next_on (n := 4) (by omega) (by omega) HN.out HQ.out (below_drewN hbel _)
          case measure => simp [intOf]
        | true =>
          have hs' : scal (((x0 % 8 * 64 + x1 % 64) * 64 + x2 % 64) * 64 + x3 % 64) = true := by rw [EC.out] at hs; exact hs
          have HS := Lib.hid hs'
          have HSC := Lib.hid hs
          clear hs hs'
          go_wp2
          refine wp_loop_rounds 4 ?_
          repeat (rw [rounds_succ]; go_wp2)
          go_region_with (first | (go_at_call 21; (with_reducible refine (scalar21_yes _ HS.out).mono ?_); rintro e w' ⟨rfl, rfl⟩) | (go_at_call 15; (with_reducible refine (octets15 _ _ HS.out).mono ?_); rintro e w' ⟨rfl, hb1⟩))
          all_goals go_wp2
          · have hcmp : ((strOfNums (oct (((x0 % 8 * 64 + x1 % 64) * 64 + x2 % 64) * 64 + x3 % 64))).toList == ((strOfNums bs).extract 0 4).toList) = true := by assumption
            go_ret2
            exact next_yes (k := 4) EC.out HS.out HB.out hl hcmp ((below_drewN hbel 1).trans (hb1.mono hbel.size))
          · have hcmp : ((strOfNums (oct (((x0 % 8 * 64 + x1 % 64) * 64 + x2 % 64) * 64 + x3 % 64))).toList == ((strOfNums bs).extract 0 4).toList) = false := by assumption
            go_roundw
            case rel => exact next_on (n := 4) (by omega) (by omega) HN.out (next_no EC.out hcmp) ((below_drewN hbel 1).trans (hb1.mono hbel.size))
            case measure => simp [intOf]
end Go.Proofs.YtijokbgpbpfclaaDoor
