/- What the program's joins hands back. -/
import Derived.Test.YtfakohoamgogoaaGreatDoorQt17
namespace Go.Proofs.YtfakohoamgogoaaGreatDoor.Uc
open Go.RowKit

def joinV (nm : List UInt8) (s t : Rw) (b1 b2 : Bool) : Bool := namedB nm nmL && (decide (s.gc = t.gc) && (decide (s.ccc = t.ccc) && (decide (s.bd = t.bd) && (b1 && (b2 && decide (s.a < t.a))))))
theorem str_eq (a b : List UInt8) : ((bs a).toList == (bs b).toList) = decide (a = b) := by
  have e : ∀ l, (bs l).toList = l := fun l => by rw [Lib.toList_data, bs_data]
  rw [e, e, Bool.eq_iff_iff, beq_iff_eq, decide_eq_true_eq]
theorem four_below (w : World) (o1 o2 o3 o4 : Obj) : Below w.heap.size w ((((w.alloc o1).alloc o2).alloc o3).alloc o4).drew := below_drew (((((Below.refl _ _).alloc (Nat.le_refl _) _).alloc (by simp) _).alloc (by simp; omega) _).alloc (by simp; omega) _)
set_option maxRecDepth 100000 in
set_option maxHeartbeats 4000000 in
theorem joins62 (n1 n2 : Int) (m1 : ByteArray) (nm : List UInt8) (b1 b2 : Bool) (s t : Rw) (w : World) (hl : nm.length ≤ 1000000) :
    Calls Tryz.prog 160 #[enV n1 m1 b1 s, enV n2 (bs nm) b2 t] w fun e w' => e = .returned (.bool (joinV nm s t b1 b2)) ∧ Below w.heap.size w w' := by
  have c36 := fun W => named36 nm nmL W hl
  have eL : bs nmL = ⟨#[44, 32, 76, 97, 115, 116, 62]⟩ := rfl
  simp only [eL] at c36
  obtain ⟨J, hJ⟩ : ∃ J, joinV nm s t b1 b2 = J := ⟨_, rfl⟩
  rw [hJ]
  unfold joinV at hJ
  have h1 := str_eq s.gc t.gc
  have h3 := str_eq s.bd t.bd
  obtain ⟨sa, sb, sg, sc, sd, sp, sm, sk⟩ := s
  obtain ⟨ta, tb, tg, tc, td, tp, tm, tk⟩ := t
  unfold enV
  simp only at hJ h1 h3 ⊢
  obtain ⟨N, hN⟩ : ∃ N, namedB nm nmL = N := ⟨_, rfl⟩
  obtain ⟨q1, hq1⟩ : ∃ q, decide (sg = tg) = q := ⟨_, rfl⟩
  obtain ⟨q3, hq3⟩ : ∃ q, decide (sd = td) = q := ⟨_, rfl⟩
  obtain ⟨S, hS⟩ : ∃ S, bs nm = S := ⟨_, rfl⟩
  obtain ⟨Sg, hSg⟩ : ∃ S, bs sg = S := ⟨_, rfl⟩
  obtain ⟨Tg, hTg⟩ : ∃ S, bs tg = S := ⟨_, rfl⟩
  obtain ⟨Sd, hSd⟩ : ∃ S, bs sd = S := ⟨_, rfl⟩
  obtain ⟨Td, hTd⟩ : ∃ S, bs td = S := ⟨_, rfl⟩
  rw [hN, hq1, hq3] at hJ
  rw [hq1] at h1
  rw [hq3] at h3
  simp only [hN] at c36
  simp only [hS] at c36
  rw [hSg, hTg] at h1
  rw [hSd, hTd] at h3
  simp only [hS, hSg, hTg, hSd, hTd]
  have C36 := Lib.hid c36
  clear hN hq1 hq3 hS hSg hTg hSd hTd c36 eL
  have HB := Lib.hid (show ∀ o1 o2, Below w.heap.size w ((w.alloc o1).alloc o2) from fun o1 o2 => ((Below.refl _ _).alloc (Nat.le_refl _) _).alloc (by simp) _)
  obtain ⟨q2, hq2⟩ : ∃ q, (sc == tc) = q := ⟨_, rfl⟩
  obtain ⟨q4, hq4⟩ : ∃ q, decide (sa < ta) = q := ⟨_, rfl⟩
  have hq2' : decide (sc = tc) = q2 := by rw [← hq2, Bool.eq_iff_iff, decide_eq_true_eq, beq_iff_eq]
  rw [hq2', hq4] at hJ
  clear hq2' HB
  go_enter Tryz.func160, Tryz.ntmps160
  go_wp2_with fail
  go_region
  all_goals
    cases N with
    | false =>
      rw [Bool.false_and] at hJ
      subst hJ
      go_wp2_with (go_at_call 122; (with_reducible refine (C36.out _).mono ?_); rintro e w' ⟨rfl, rfl⟩)
      go_ret
      exact ⟨rfl, by with_reducible exact four_below _ _ _ _ _⟩
    | true =>
      rw [Bool.true_and] at hJ
      cases q1 with
      | false =>
        rw [Bool.false_and] at hJ
        subst hJ
        go_wp2_with (go_at_call 122; (with_reducible refine (C36.out _).mono ?_); rintro e w' ⟨rfl, rfl⟩)
        go_ret
        exact ⟨rfl, by with_reducible exact four_below _ _ _ _ _⟩
      | true =>
        rw [Bool.true_and] at hJ
        cases q2 with
        | false =>
          rw [Bool.false_and] at hJ
          subst hJ
          go_wp2_with (go_at_call 122; (with_reducible refine (C36.out _).mono ?_); rintro e w' ⟨rfl, rfl⟩)
          go_ret
          exact ⟨rfl, by with_reducible exact four_below _ _ _ _ _⟩
        | true =>
          rw [Bool.true_and] at hJ
          cases q3 with
          | false =>
            rw [Bool.false_and] at hJ
            subst hJ
            go_wp2_with (go_at_call 122; (with_reducible refine (C36.out _).mono ?_); rintro e w' ⟨rfl, rfl⟩)
            go_ret
            exact ⟨rfl, by with_reducible exact four_below _ _ _ _ _⟩
          | true =>
            rw [Bool.true_and] at hJ
            cases b1 with
            | false =>
              rw [Bool.false_and] at hJ
              subst hJ
              go_wp2_with (go_at_call 122; (with_reducible refine (C36.out _).mono ?_); rintro e w' ⟨rfl, rfl⟩)
              go_ret
              exact ⟨rfl, by with_reducible exact four_below _ _ _ _ _⟩
            | true =>
              rw [Bool.true_and] at hJ
              cases b2 with
              | false =>
                rw [Bool.false_and] at hJ
                subst hJ
                go_wp2_with (go_at_call 122; (with_reducible refine (C36.out _).mono ?_); rintro e w' ⟨rfl, rfl⟩)
                go_ret
                exact ⟨rfl, by with_reducible exact four_below _ _ _ _ _⟩
              | true =>
                rw [Bool.true_and] at hJ
                cases q4 with
                | false =>
                  subst hJ
                  go_wp2_with (go_at_call 122; (with_reducible refine (C36.out _).mono ?_); rintro e w' ⟨rfl, rfl⟩)
                  go_ret
                  exact ⟨rfl, by with_reducible exact four_below _ _ _ _ _⟩
                | true =>
                  subst hJ
                  go_wp2_with (go_at_call 122; (with_reducible refine (C36.out _).mono ?_); rintro e w' ⟨rfl, rfl⟩)
                  go_ret
                  exact ⟨rfl, by with_reducible exact four_below _ _ _ _ _⟩
end Go.Proofs.YtfakohoamgogoaaGreatDoor.Uc
