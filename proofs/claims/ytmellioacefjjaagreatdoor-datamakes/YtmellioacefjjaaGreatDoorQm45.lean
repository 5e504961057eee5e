/- What a line of a file of confusables tells to the program: readPair. -/
import Derived.Test.YtmellioacefjjaaGreatDoorQm12
import Derived.Test.YtmellioacefjjaaGreatDoorQm08
import Derived.Test.YtmellioacefjjaaGreatDoorQm11
namespace Go.Proofs.YtmellioacefjjaaGreatDoor.Cf
open Go.RowKit Go.Shelf
attribute [local go_sem] Oper.semAt_some

theorem pt_no {l : List UInt8} (w : World) (hl : l.length ≤ 1000000) (h : point l = none) : Calls Tryz.prog 126 #[.string (bs l)] w fun e w' => e = .returned (.tuple #[.int .i64 0, .int .i64 13]) ∧ w = w' := by
  have := point11 l w hl
  rw [h] at this
  exact this
theorem pt_yes {l : List UInt8} {c : Nat} (w : World) (hl : l.length ≤ 1000000) (h : point l = some c) : Calls Tryz.prog 126 #[.string (bs l)] w fun e w' => e = .returned (.tuple #[.int .i64 (c : Int), .int .i64 0]) ∧ w = w' := by
  have := point11 l w hl
  rw [h] at this
  exact this
theorem sq_no {l : List UInt8} (w : World) (hl : l.length ≤ 4000) (hM : ML w) (h : seqOf l = none) : Calls Tryz.prog 127 #[.string (bs l)] w fun e w' => e = .returned (.tuple #[.slice none 0 0, .int .i64 13]) ∧ Below w.heap.size w w' :=
  (sequence15 l w hl hM).mono (by
    rintro e w' ⟨hb, ⟨cs, A, ca, h1, -⟩ | ⟨-, rfl⟩⟩
    · rw [h] at h1; cases h1
    · exact ⟨rfl, hb⟩)
theorem sq_yes {l : List UInt8} {p : List Nat} (w : World) (hl : l.length ≤ 4000) (hM : ML w) (h : seqOf l = some p) : Calls Tryz.prog 127 #[.string (bs l)] w fun e w' => ∃ A ca, e = .returned (.tuple #[.slice A p.length ca, .int .i64 0]) ∧ Hid (Below w.heap.size w w' ∧ Vals w' A p.length (i64s p) ∧ ∀ a, A = some a → w.heap.size ≤ a.block) :=
  (sequence15 l w hl hM).mono (by
    rintro e w' ⟨hb, ⟨cs, A, ca, h1, rfl, hv, hf⟩ | ⟨h1, -⟩⟩
    · rw [h] at h1; cases h1; exact ⟨A, ca, rfl, Lib.hid ⟨hb, hv, hf⟩⟩
    · rw [h] at h1; cases h1)
/-- What readPair hands back. -/
def RpPost (f : List (List UInt8)) (w : World) (e : Ending) (w' : World) : Prop :=
  Below w.heap.size w w' ∧ ((cErr f = 0 ∧ ∃ A k, e = .returned (.tuple #[.int .i64 (cPair f).c, .slice A (cPair f).p.length k, .int .i64 0]) ∧ Hid (Vals w' A (cPair f).p.length (nums .i64 (cPair f).p) ∧ ∀ a, A = some a → w.heap.size ≤ a.block)) ∨
    (¬ cErr f = 0 ∧ e = .returned (.tuple #[.int .i64 0, .slice none 0 0, .int .i64 (cErr f)])))
theorem rp_bad {f : List (List UInt8)} {w w' : World} {E : Int} (h : cErr f = E) (hE : ¬ E = 0) (hb : Below w.heap.size w w') : RpPost f w (.returned (.tuple #[.int .i64 0, .slice none 0 0, .int .i64 E])) w' :=
  ⟨hb, .inr ⟨by rw [h]; exact hE, by rw [h]⟩⟩
set_option maxHeartbeats 1000000 in
theorem readpair17 (F : Option Addr) (n c : Nat) (f : List (List UInt8)) (w : World) (hF : Vals w F n (strs f)) (hl : ∀ x ∈ f, x.length ≤ 4000) (hM : ML w) : Calls Tryz.prog 94 #[.slice F n c] w (RpPost f w) := by
  have hlen : f.length = n := by have := hF.1; rwa [strs_length] at this
  by_cases h3 : f.length = 3
  · obtain ⟨b, off, rfl, hbl, hc0, hc1⟩ := flds3 hF h3
    obtain rfl : n = 3 := by omega
    have hf0 := cfld_len (k := 0) hl
    have hf1 := cfld_len (k := 1) hl
    obtain ⟨S0, hS0⟩ : ∃ S, bs (cfld f 0) = S := ⟨_, rfl⟩
    obtain ⟨S1, hS1⟩ : ∃ S, bs (cfld f 1) = S := ⟨_, rfl⟩
    cases hpt : point (cfld f 0) with
    | none =>
      have k32 := pt_no w (by omega) hpt
      have HE := Lib.hid (rp_bad (w := w) (w' := w) (cerr_pt h3 hpt) (by decide) (Below.refl _ _))
      rw [hS0] at hc0 k32
      rw [hS1] at hc1
      clear hF hl hM hlen h3 hf0 hf1 hS0 hS1 hpt hbl
      go_enter Tryz.func94, Tryz.ntmps94
      go_wp2_with (go_at_call 126; (with_reducible refine k32.mono ?_); rintro e w1 ⟨rfl, rfl⟩)
      refine bodyPost_ret (v := .tuple #[.int .i64 0, .slice none 0 0, .int .i64 13]) (by simp [results, Tryz.results94, go_sem]) rfl ?_
      exact HE.out
    | some v =>
      have k32 := pt_yes w (by omega) hpt
      cases hsq : seqOf (cfld f 1) with
      | none =>
        have k33 := sq_no w hf1 hM hsq
        have HE := Lib.hid (fun w1 hb => rp_bad (w := w) (w' := w1) (cerr_sq h3 hpt hsq) (by decide) hb)
        rw [hS0] at hc0 k32
        rw [hS1] at hc1 k33
        clear hF hl hM hlen h3 hf0 hf1 hS0 hS1 hpt hsq hbl
        go_enter Tryz.func94, Tryz.ntmps94
        go_wp2_with (first
          | (go_at_call 126; (with_reducible refine k32.mono ?_); rintro e w1 ⟨rfl, rfl⟩)
          | (go_at_call 127; (with_reducible refine k33.mono ?_); rintro e w2 ⟨rfl, hb2⟩))
        refine bodyPost_ret (v := .tuple #[.int .i64 0, .slice none 0 0, .int .i64 13]) (by simp [results, Tryz.results94, go_sem]) rfl ?_
        exact HE.out _ hb2
      | some p =>
        have k33 := sq_yes w hf1 hM hsq
        rw [hS0] at hc0 k32
        rw [hS1] at hc1 k33
        by_cases h0 : p.length = 0
        · have HE := Lib.hid (fun w1 hb => rp_bad (w := w) (w' := w1) (cerr_em h3 hpt hsq h0) (by decide) hb)
          rw [h0] at k33
          clear hF hl hM hlen h3 hf0 hf1 hS0 hS1 hpt hsq hbl h0
          go_enter Tryz.func94, Tryz.ntmps94
          go_wp2_with (first
            | (go_at_call 126; (with_reducible refine k32.mono ?_); rintro e w1 ⟨rfl, rfl⟩)
            | (go_at_call 127; (with_reducible refine k33.mono ?_); rintro e w2 ⟨A2, c2, rfl, hv2⟩))
          refine bodyPost_ret (v := .tuple #[.int .i64 0, .slice none 0 0, .int .i64 16]) (by simp [results, Tryz.results94, go_sem]) rfl ?_
          exact HE.out _ hv2.out.1
        · by_cases h18 : 18 < p.length
          · have HE := Lib.hid (fun w1 hb => rp_bad (w := w) (w' := w1) (cerr_lg h3 hpt hsq h0 h18) (by decide) hb)
            obtain ⟨m, hm⟩ : ∃ m, p.length = m := ⟨_, rfl⟩
            simp only [hm] at k33
            rw [hm] at h0 h18
            have hx1 : ((m : Int) == 0) = false := beq_false_of_ne (by omega)
            have hx2 : decide (18 < (m : Int)) = true := decide_eq_true (by omega)
            clear hF hl hM hlen h3 hf0 hf1 hS0 hS1 hpt hsq hbl hm
            go_enter Tryz.func94, Tryz.ntmps94
            go_wp2_with (first
              | (go_at_call 126; (with_reducible refine k32.mono ?_); rintro e w1 ⟨rfl, rfl⟩)
              | (go_at_call 127; (with_reducible refine k33.mono ?_); rintro e w2 ⟨A2, c2, rfl, hv2⟩))
            refine bodyPost_ret (v := .tuple #[.int .i64 0, .slice none 0 0, .int .i64 36]) (by simp [results, Tryz.results94, go_sem]) rfl ?_
            exact HE.out _ hv2.out.1
          · obtain ⟨hok, hpr⟩ := cerr_ok h3 hpt hsq h0 h18
            have HE : Hid (∀ w1 A k, Hid (Below w.heap.size w w1 ∧ Vals w1 A p.length (i64s p) ∧ ∀ a, A = some a → w.heap.size ≤ a.block) → RpPost f w (.returned (.tuple #[.int .i64 (v : Int), .slice A p.length k, .int .i64 0])) w1) := Lib.hid fun w1 A k hv => by
              have e2 : (cPair f).p.length = p.length := by rw [hpr]; simp [ints']
              refine ⟨hv.out.1, .inl ⟨hok, A, k, by rw [e2, hpr], Lib.hid ?_⟩⟩
              rw [e2, hpr]
              exact hv.out.2
            obtain ⟨m, hm⟩ : ∃ m, p.length = m := ⟨_, rfl⟩
            simp only [hm] at k33 HE
            rw [hm] at h0 h18
            have hx1 : ((m : Int) == 0) = false := beq_false_of_ne (by omega)
            have hx2 : decide (18 < (m : Int)) = false := decide_eq_false (by omega)
            clear hF hl hM hlen h3 hf0 hf1 hS0 hS1 hpt hsq hbl hm hok hpr
            go_enter Tryz.func94, Tryz.ntmps94
            go_wp2_with (first
              | (go_at_call 126; (with_reducible refine k32.mono ?_); rintro e w1 ⟨rfl, rfl⟩)
              | (go_at_call 127; (with_reducible refine k33.mono ?_); rintro e w2 ⟨A2, c2, rfl, hv2⟩))
            refine bodyPost_ret (v := .tuple #[.int .i64 (v : Int), .slice A2 m c2, .int .i64 0]) (by simp [results, Tryz.results94, go_sem]) rfl ?_
            exact HE.out _ _ _ hv2
  · have HE := Lib.hid (rp_bad (w := w) (w' := w) (cerr_len h3) (by decide) (Below.refl _ _))
    have hx1 : ((n : Int) == 3) = false := beq_false_of_ne (by omega)
    have hx2 : ((n : Int) != 3) = true := bne_iff_ne.2 (by omega)
    clear hF hl hM h3 hlen
    go_enter Tryz.func94, Tryz.ntmps94
    go_wp2
    refine bodyPost_ret (v := .tuple #[.int .i64 0, .slice none 0 0, .int .i64 12]) (by simp [results, Tryz.results94, go_sem]) rfl ?_
    exact HE.out
end Go.Proofs.YtmellioacefjjaaGreatDoor.Cf
