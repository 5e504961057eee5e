/- The program's Together and the document's. -/
import Derived.Test.YtohdenjfapdojaaHre
namespace Go.Proofs.Ytohdenjfapdojaa
open Go.RowKit

def Opn (a : Int) : Prop := 44032 ≤ a ∧ a < 55204 ∧ (a - 44032) % 28 = 0
instance (a : Int) : Decidable (Opn a) := by unfold Opn; infer_instance
def Lead (a : Int) : Prop := 4352 ≤ a ∧ a < 4371
instance (a : Int) : Decidable (Lead a) := by unfold Lead; infer_instance
def Vow (a : Int) : Prop := 4449 ≤ a ∧ a < 4470
instance (a : Int) : Decidable (Vow a) := by unfold Vow; infer_instance
def Trail (a : Int) : Prop := 4520 ≤ a ∧ a < 4547
instance (a : Int) : Decidable (Trail a) := by unfold Trail; infer_instance
/-- What two make, in the document's words. -/
def tog (a b : Int) : Int × Bool := if Lead a ∧ Vow b then (44032 + (21 * (a - 4352) + (b - 4449)) * 28, true) else if Opn a ∧ Trail b then (a + (b - 4519), true) else (0, false)
theorem tog_lead {a b : Int} (h : Lead a) (h' : Vow b) : tog a b = (44032 + (21 * (a - 4352) + (b - 4449)) * 28, true) := if_pos ⟨h, h'⟩
theorem tog_open {a b : Int} (h : Opn a) (h' : Trail b) : tog a b = (a + (b - 4519), true) := by
  unfold tog
  rw [if_neg (fun x => by have := x.1; unfold Lead at this; unfold Opn at h; omega), if_pos ⟨h, h'⟩]
theorem tog_no {a b : Int} (h : ¬ (Lead a ∧ Vow b)) (h' : ¬ (Opn a ∧ Trail b)) : tog a b = (0, false) := by
  unfold tog
  rw [if_neg h, if_neg h']
theorem opn_syl {l v t : Int} (h : Places l v t) : Opn (syl l v t) ↔ t = 0 := by
  obtain ⟨a, b, c, d, e, f⟩ := h
  unfold Opn syl
  omega
theorem opn_not {a : Int} (h : ¬ (44032 ≤ a ∧ a < 55204)) : ¬ Opn a := fun h' => h ⟨h'.1, h'.2.1⟩
def TogPost (w : World) (r : Int × Bool) (e : Ending) (w' : World) : Prop := e = .returned (.tuple #[.int .i64 r.1, .bool r.2]) ∧ Below w.heap.size w w'
def TogSame (w : World) (r : Int × Bool) (e : Ending) (w' : World) : Prop := e = .returned (.tuple #[.int .i64 r.1, .bool r.2]) ∧ w' = w
set_option maxRecDepth 100000 in
set_option maxHeartbeats 4000000 in
theorem together11_same (a b : Int) (w : World) : Calls Try.prog 11 #[.int .i64 a, .int .i64 b] w (TogSame w (tog a b)) := by
  have hl := isLeading16 a w
  have hv := isVowel17 b w
  have ht := isTrailing19 b w
  by_cases h1 : 4352 ≤ a ∧ a < 4371
  · rw [decide_eq_true h1] at hl
    by_cases h2 : 4449 ≤ b ∧ b < 4470
    · rw [decide_eq_true h2] at hv
      rw [tog_lead h1 h2]
      obtain ⟨a0, a1⟩ := h1
      obtain ⟨b0, b1⟩ := h2
      go_enter Try.func11, Try.ntmps11
      go_wp2_with (first | (go_at_call 16; (with_reducible refine hl.mono ?_); rintro e w' ⟨rfl, rfl⟩) | (go_at_call 17; (with_reducible refine hv.mono ?_); rintro e w' ⟨rfl, rfl⟩))
      refine bodyPost_ret (v := .tuple #[.int .i64 (44032 + (21 * (a - 4352) + (b - 4449)) * 28), .bool true]) (by simp [results, Try.results11, go_sem]) rfl ?_
      exact ⟨rfl, rfl⟩
    · rw [decide_eq_false h2] at hv
      have ho := isOpen18_no a w (by omega)
      rw [tog_no (fun h => h2 h.2) (fun h => opn_not (by omega) h.1)]
      go_enter Try.func11, Try.ntmps11
      go_wp2_with (first | (go_at_call 16; (with_reducible refine hl.mono ?_); rintro e w' ⟨rfl, rfl⟩) | (go_at_call 17; (with_reducible refine hv.mono ?_); rintro e w' ⟨rfl, rfl⟩) | (go_at_call 18; (with_reducible refine ho.mono ?_); rintro e w' ⟨rfl, rfl⟩))
      refine bodyPost_ret (v := .tuple #[.int .i64 (0), .bool false]) (by simp [results, Try.results11, go_sem]) rfl ?_
      exact ⟨rfl, rfl⟩
  · rw [decide_eq_false h1] at hl
    by_cases h3 : 44032 ≤ a ∧ a < 55204
    · obtain ⟨l, v, t, hp, rfl⟩ := hang a h3.1 h3.2
      have ho := isOpen18 l v t w hp
      by_cases h0 : t = 0
      · rw [decide_eq_true h0] at ho
        by_cases h4 : 4520 ≤ b ∧ b < 4547
        · rw [decide_eq_true h4] at ht
          rw [tog_open ((opn_syl hp).2 h0) h4]
          obtain ⟨a, ha⟩ : ∃ a, syl l v t = a := ⟨_, rfl⟩
          rw [ha] at hl ho h3 ⊢
          obtain ⟨a0, a1⟩ := h3
          obtain ⟨b0, b1⟩ := h4
          clear hp ha h1
          go_enter Try.func11, Try.ntmps11
          go_wp2_with (first | (go_at_call 16; (with_reducible refine hl.mono ?_); rintro e w' ⟨rfl, rfl⟩) | (go_at_call 18; (with_reducible refine ho.mono ?_); rintro e w' ⟨rfl, rfl⟩) | (go_at_call 19; (with_reducible refine ht.mono ?_); rintro e w' ⟨rfl, rfl⟩))
          refine bodyPost_ret (v := .tuple #[.int .i64 (a + (b - 4520 + 1)), .bool true]) (by simp [results, Try.results11, go_sem]) rfl ?_
          exact ⟨by rw [show a + (b - 4519) = a + (b - 4520 + 1) by omega], rfl⟩
        · rw [decide_eq_false h4] at ht
          rw [tog_no (fun h => h1 h.1) (fun h => h4 h.2)]
          obtain ⟨a, ha⟩ : ∃ a, syl l v t = a := ⟨_, rfl⟩
          rw [ha] at hl ho h3 ⊢
          clear hp ha h1 h4 h3 hv
          go_enter Try.func11, Try.ntmps11
          go_wp2_with (first | (go_at_call 16; (with_reducible refine hl.mono ?_); rintro e w' ⟨rfl, rfl⟩) | (go_at_call 18; (with_reducible refine ho.mono ?_); rintro e w' ⟨rfl, rfl⟩) | (go_at_call 19; (with_reducible refine ht.mono ?_); rintro e w' ⟨rfl, rfl⟩))
          refine bodyPost_ret (v := .tuple #[.int .i64 (0), .bool false]) (by simp [results, Try.results11, go_sem]) rfl ?_
          exact ⟨rfl, rfl⟩
      · rw [decide_eq_false h0] at ho
        rw [tog_no (fun h => h1 h.1) (fun h => h0 ((opn_syl hp).1 h.1))]
        go_enter Try.func11, Try.ntmps11
        go_wp2_with (first | (go_at_call 16; (with_reducible refine hl.mono ?_); rintro e w' ⟨rfl, rfl⟩) | (go_at_call 18; (with_reducible refine ho.mono ?_); rintro e w' ⟨rfl, rfl⟩))
        refine bodyPost_ret (v := .tuple #[.int .i64 (0), .bool false]) (by simp [results, Try.results11, go_sem]) rfl ?_
        exact ⟨rfl, rfl⟩
    · have ho := isOpen18_no a w h3
      rw [tog_no (fun h => h1 h.1) (fun h => opn_not h3 h.1)]
      go_enter Try.func11, Try.ntmps11
      go_wp2_with (first | (go_at_call 16; (with_reducible refine hl.mono ?_); rintro e w' ⟨rfl, rfl⟩) | (go_at_call 18; (with_reducible refine ho.mono ?_); rintro e w' ⟨rfl, rfl⟩))
      refine bodyPost_ret (v := .tuple #[.int .i64 (0), .bool false]) (by simp [results, Try.results11, go_sem]) rfl ?_
      exact ⟨rfl, rfl⟩
theorem together11 (a b : Int) (w : World) : Calls Try.prog 11 #[.int .i64 a, .int .i64 b] w (TogPost w (tog a b)) :=
  (together11_same a b w).mono (by rintro e w' ⟨rfl, rfl⟩; exact ⟨rfl, Below.refl _ _⟩)
end Go.Proofs.Ytohdenjfapdojaa
