/- What Points hands back: a function value over a copy of the octets. -/
import Derived.Test.YtijokbgpbpfclaaDoorApp
import Derived.Test.YtijokbgpbpfclaaDoorStops
import Derived.Lib.SliceRun
namespace Go.Proofs.YtijokbgpbpfclaaDoor
open Go.RowKit

theorem own_zero (w : World) (e : TypeId) : (w.alloc (.cells #[] e)).ownsRow w.heap.size e 1 (.slice (some ⟨w.heap.size, 0, none⟩) 0 0) 0 [] :=
  World.ownsRow_lit w #[] 0 (Nat.le_refl _) (Nat.zero_le _) rfl
theorem below_zero (w : World) (e : TypeId) : Below w.heap.size w (w.alloc (.cells #[] e)) := (Below.refl _ _).alloc (Nat.le_refl _) _
theorem below_first {w w2 : World} {e : TypeId} (g2 : (w.alloc (.cells #[] e)).grownBy w2 (some w.heap.size)) : Below w.heap.size w w2 :=
  (below_zero w e).grown g2 (by simp) (fun g hg => by cases hg; exact Nat.le_refl _)

def ClonePost (bs : List Int) (n : Nat) (w : World) (e : Ending) (w' : World) : Prop :=
  Below w.heap.size w w' ∧ ∃ A c, e = .returned (.slice A n c) ∧ n ≤ c ∧ Nums .u8 w' A n bs

set_option maxHeartbeats 1000000 in
theorem clone27 (A : Option Addr) (n ca : Nat) (bs : List Int) (w : World) (ha : Nums .u8 w A n bs) (hA : A = none → ca = 0) (hn : n ≤ 1000000) :
    Calls Tryd.prog 27 #[.slice A n ca] w (ClonePost bs n w) := by
  have m1 : 0 + n ≤ maxLen := by unfold maxLen; omega
  obtain ⟨j0, ji, jz0, jz1, jz2⟩ := info_parts info5
  have HN := Lib.hid ha
  clear ha
  have q24 : ∀ (w : World) (a : Option Addr) (n c n' c' : Nat), (binOp .eql 24 (.slice a n c) (.slice none n' c')).run Tryd.prog w = .ok (.bool a.isNone) w := fun w a n c n' c' => Lib.run_eql_slice_nil w _ _ a n c n' c' Tryd.underlying24
  cases A with
  | none =>
    have hn0 : n = 0 := by
      rcases Nat.eq_zero_or_pos n with h | h
      · exact h
      · obtain ⟨b, off, e, _⟩ := HN.out.2 h
        cases e
    subst hn0
    clear hA
    go_enter Tryd.func27, Tryd.ntmps27
    go_wp2
    go_ret
    exact ⟨Below.refl _ _, none, 0, rfl, Nat.le_refl _, HN.out⟩
  | some ad =>
    clear hA
    go_enter Tryd.func27, Tryd.ntmps27
    go_wp2_with (at_builtin; refine append_nums rfl (.tmp 5) (.tmp 6) 24 rfl w.heap.size 5 j0 (.int .u8 0) 1 Tryd.underlying24 ji jz0 jz1 jz2 rfl _ 0 [] rfl (own_zero w 5) .u8 (some ad) n ca bs rfl (HN.out.below (below_zero w 5)) (fun h => by cases h) m1 (by omega) (by simp) ?_; intro v2 w2 hown2 hg2; simp only [Nat.zero_add, List.nil_append] at hown2)
    go_ret
    obtain ⟨A, c, rfl, hc, hN⟩ := own_nums hown2
    exact ⟨below_first hg2, A, c, rfl, hc, hN⟩

def PtsPost (bs : List Int) (n : Nat) (w : World) (e : Ending) (w' : World) : Prop :=
  Below w.heap.size w w' ∧ ∃ B A c, e = .returned (.func (.func 28) #[] #[.pointer (some ⟨B, 0, none⟩)]) ∧ B < w'.heap.size ∧ w'.cell? ⟨B, 0, none⟩ = some (.slice A n c) ∧ n ≤ c ∧ Nums .u8 w' A n bs

set_option maxHeartbeats 1000000 in
theorem points14 (A : Option Addr) (n ca : Nat) (bs : List Int) (w : World) (ha : Nums .u8 w A n bs) (hA : A = none → ca = 0) (hn : n ≤ 1000000) :
    Calls Tryd.prog 14 #[.slice A n ca] w (PtsPost bs n w) := by
  have c27 := clone27 A n ca bs w ha hA hn
  clear ha hA
  go_enter Tryd.func14, Tryd.ntmps14
  go_wp2_with (go_at_call 27; (with_reducible refine c27.mono ?_); rintro e w1 ⟨hb1, A1, c1, rfl, hc1, hN1⟩; have NN := Lib.hid hN1; clear hN1)
  go_ret
  exact ⟨hb1.trans (((Below.refl _ w1).alloc (Nat.le_refl _) _).mono hb1.size), w1.heap.size, A1, c1, rfl, by simp, by simp, hc1, NN.out.below ((Below.refl _ w1).alloc (Nat.le_refl _) _)⟩
end Go.Proofs.YtijokbgpbpfclaaDoor
