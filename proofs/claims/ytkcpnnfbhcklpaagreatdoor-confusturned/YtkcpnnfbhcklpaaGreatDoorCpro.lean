/- slices.Clone of numbers; what Proto of the program's table of confusables hands back. -/
import Derived.Test.YtkcpnnfbhcklpaaGreatDoorCtb
import Derived.Test.YtkcpnnfbhcklpaaGreatDoorShelf
namespace Go.Proofs.YtkcpnnfbhcklpaaGreatDoor
open Go.RowKit Go.Shelf
attribute [local go_sem] Oper.semAt_some

def ClonedPost (n : Nat) (zs : List Int) (w : World) (e : Ending) (w' : World) : Prop := ∃ A2 c2, e = .returned (.slice A2 n c2) ∧ Below w.heap.size w w' ∧ Hid (Vals w' A2 n (nums .i64 zs) ∧ ∀ a, A2 = some a → w.heap.size ≤ a.block)
theorem clone24 (A : Option Addr) (n c : Nat) (zs : List Int) (w : World) (hV : Vals w A n (nums .i64 zs)) (hn : n ≤ 1000000) : Calls Tryz.prog 24 #[.slice A n c] w (ClonedPost n zs w) := by
  have hl : zs.length = n := by have := hV.1; unfold nums at this; rwa [List.length_map] at this
  cases A with
  | none =>
    have h0 : n = 0 := by
      rcases Nat.eq_zero_or_pos n with h | h
      · exact h
      · obtain ⟨b, off, e, -⟩ := hV.2 h
        cases e
    subst h0
    obtain rfl : zs = [] := List.eq_nil_of_length_eq_zero hl
    refine (Tryz.slices_Clone_int_nil 0 c w).mono ?_
    rintro e w' ⟨rfl, rfl⟩
    exact ⟨none, 0, rfl, Below.refl _ _, Lib.hid ⟨Vals.nil _ _, fun a e => by cases e⟩⟩
  | some ad =>
    have fin : ∀ (v' : Value) (w' : World), w'.ownsRow w.heap.size 3 1 v' n (nums .i64 zs) → Below w.heap.size w w' → ClonedPost n zs w (.returned v') w' := by
      intro v' w' ho hb
      obtain ⟨A2, c2, rfl, -, hV2, -⟩ := own_vals ho
      exact ⟨A2, c2, rfl, hb, Lib.hid ⟨hV2, fun a e => (ho.lt a.block (by rw [e]; rfl)).1⟩⟩
    rcases Nat.eq_zero_or_pos n with h0 | hpos
    · subst h0
      obtain rfl : zs = [] := List.eq_nil_of_length_eq_zero hl
      refine (Tryz.slices_Clone_int_zero ad c w).mono ?_
      rintro e w' ⟨v', rfl, ho, -, hb⟩
      exact fin v' w' ho hb
    · obtain ⟨b, off, e, hlt, hc⟩ := hV.2 hpos
      cases e
      refine (Tryz.slices_Clone_int b off n c zs w (by omega) (by omega) (fun j hj => hc j _ (nums_get hj))).mono ?_
      rintro e w' ⟨v', rfl, ho, -, hb⟩
      rw [List.take_of_length_le (by omega)] at ho
      exact fin v' w' ho hb
/-- What Proto hands back. -/
def CrPost (ps : List Pp) (c : Int) (w : World) (e : Ending) (w' : World) : Prop :=
  Below w.heap.size w w' ∧ ((findC ps c < 0 ∧ ∃ A k, e = .returned (.tuple #[.slice A 0 k, .bool false])) ∨ ∃ r A k, ps[(findC ps c).toNat]? = some r ∧ 0 ≤ findC ps c ∧ e = .returned (.tuple #[.slice A r.p.length k, .bool true]) ∧ Vals w' A r.p.length (nums .i64 r.p))
theorem find_at {ps : List Pp} {c : Int} (h : 0 ≤ findC ps c) : ∃ r, ps[(findC ps c).toNat]? = some r ∧ r.c = c := by
  have hh : hasS ps c = true := by rw [find_has]; exact decide_eq_true h
  induction ps with
  | nil => simp [hasS] at hh
  | cons q l ih =>
    rw [find_cons] at h ⊢
    split at h
    · rename_i hq
      rw [if_pos hq]
      exact ⟨q, rfl, hq⟩
    · rename_i hq
      rw [if_neg hq]
      split at h
      · omega
      · rename_i hl
        rw [if_neg hl]
        obtain ⟨r, h1, h2⟩ := ih (by omega) (by rw [find_has]; exact decide_eq_true (by omega))
        refine ⟨r, ?_, h2⟩
        rw [show (findC l c + 1).toNat = (findC l c).toNat + 1 by omega]
        simpa using h1
set_option maxHeartbeats 1000000 in
theorem cproto10 (p : Option Addr) (ps : List Pp) (c : Int) (w : World) (h : CT w p ps) (hc : (Lit.int .i64 c).wf = true) : Calls Tryz.prog 10 #[.pointer p, .int .i64 c] w (CrPost ps c w) := by
  obtain ⟨A, k, ⟨⟨rfl, rfl⟩, rfl, rfl⟩ | ⟨b, mb, n, D, rfl, ⟨h1, -⟩, ⟨-, h4, h5⟩, -, hsm⟩⟩ := h
  · go_enter Tryz.func10, Tryz.ntmps10
    go_wp2
    refine bodyPost_ret (v := .tuple #[.slice none 0 0, .bool false]) (by simp [results, Tryz.results10, go_sem]) rfl ?_
    exact ⟨Below.refl _ _, .inl ⟨by show (-1 : Int) < 0; decide, _, _, rfl⟩⟩
  · by_cases hf : 0 ≤ findC ps c
    · obtain ⟨r, hr, hrc⟩ := find_at hf
      obtain ⟨A2, k2, hat, hv, -⟩ := h5.2 r (List.mem_of_getElem? hr)
      have hhas : Maps.has D (.int .i64 c) = true := by rw [h5.1, find_has]; exact decide_eq_true hf
      rw [hrc] at hat
      have c24 := clone24 A2 r.p.length k2 r.p w hv (Nat.le_trans (hsm r (List.mem_of_getElem? hr)).1 (by omega))
      have HR := Lib.hid (And.intro hr hf)
      have H4 := Lib.hid h4
      have HAT := Lib.hid hat
      have HHS := Lib.hid hhas
      have HC := Lib.hid hc
      obtain ⟨m, hm⟩ : ∃ m, r.p.length = m := ⟨_, rfl⟩
      rw [hm] at c24 HAT
      have HM := Lib.hid hm
      clear h5 hsm hr hrc hf hat hhas hv hm h4 hc
      go_enter Tryz.func10, Tryz.ntmps10
      go_wp2_with (first
        | (at_lookup; refine look_tok rfl _ _ rfl mb n D rfl H4.out c rfl HC.out _ true HAT.out HHS.out ?_)
        | (go_at_call 24; (with_reducible refine c24.mono ?_); rintro e w1 ⟨A3, c3, rfl, hb1, hV1⟩))
      refine bodyPost_ret (v := .tuple #[.slice A3 m c3, .bool true]) (by simp [results, Tryz.results10, go_sem]) rfl ?_
      refine ⟨hb1, .inr ⟨r, A3, c3, HR.out.1, HR.out.2, by rw [HM.out], ?_⟩⟩
      rw [HM.out]
      exact hV1.out.1
    · have hhas : Maps.has D (.int .i64 c) = false := by rw [h5.1, find_has]; exact decide_eq_false hf
      have hat := Maps.atKey_of_not_has hhas (.held (.slice none 0 0))
      have c24 := clone24 none 0 0 [] w (Vals.nil _ _) (by omega)
      have H4 := Lib.hid h4
      have HAT := Lib.hid hat
      have HHS := Lib.hid hhas
      have HC := Lib.hid hc
      have HF : Hid (findC ps c < 0) := Lib.hid (by omega)
      clear h5 hsm hf hat hhas h4 hc
      go_enter Tryz.func10, Tryz.ntmps10
      go_wp2_with (first
        | (at_lookup; refine look_tok rfl _ _ rfl mb n D rfl H4.out c rfl HC.out _ false HAT.out HHS.out ?_)
        | (go_at_call 24; (with_reducible refine c24.mono ?_); rintro e w1 ⟨A3, c3, rfl, hb1, hV1⟩))
      refine bodyPost_ret (v := .tuple #[.slice A3 0 c3, .bool false]) (by simp [results, Tryz.results10, go_sem]) rfl ?_
      exact ⟨hb1, .inl ⟨HF.out, _, _, rfl⟩⟩
end Go.Proofs.YtkcpnnfbhcklpaaGreatDoor
