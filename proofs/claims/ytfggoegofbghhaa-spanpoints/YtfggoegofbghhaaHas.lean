/- What the program's Has hands back. -/
import Derived.Test.YtfggoegofbghhaaTab
namespace Go.Proofs.Ytfggoegofbghhaa
open Go.RowKit Go.Sort

def hasOf (ls : List Sp) (z : Int) (v : List UInt8) : Bool := decide (v ≠ []) && decide (valueOf ls z = v)
theorem bs_eq (l m : List UInt8) : ((bs l).toList == (bs m).toList) = decide (l = m) := by rw [bs_toList, bs_toList]; by_cases h : l = m <;> simp [h]
set_option maxRecDepth 100000 in
set_option maxHeartbeats 2000000 in
theorem has17 (p A : Option Addr) (c : Nat) (ls : List Sp) (z : Int) (v : List UInt8) (w : World) (hT : TIn w p A c ls) (hn : ls.length ≤ 100000) (hr : Rises ls) (hf : ∀ s ∈ ls, s.a ≤ s.b) :
    Calls Try.prog 17 #[.pointer p, .int .i64 z, .string (bs v)] w fun e w' => e = .returned (.bool (hasOf ls z v)) ∧ Below w.heap.size w w' := by
  have c16 := value16 p A c ls z w hT hn hr hf
  have HB := Lib.hid (Below.refl w.heap.size w)
  by_cases hv : v = []
  · have HR : Hid (hasOf ls z v = false) := Lib.hid (by unfold hasOf; rw [decide_eq_false (by simp [hv]), Bool.false_and])
    subst hv
    rw [bs_nil]
    clear hT hr hf
    go_enter Try.func17, Try.ntmps17
    go_wp2
    go_ret
    exact ⟨by rw [HR.out]; rfl, HB.out⟩
  · have hemp := bs_some hv
    have heq := bs_eq (valueOf ls z) v
    have HR : Hid (hasOf ls z v = decide (valueOf ls z = v)) := Lib.hid (by unfold hasOf; rw [decide_eq_true hv, Bool.true_and])
    obtain ⟨T, hT2⟩ : ∃ T, bs v = T := ⟨_, rfl⟩
    obtain ⟨V, hV2⟩ : ∃ V, bs (valueOf ls z) = V := ⟨_, rfl⟩
    rw [hT2] at hemp heq ⊢
    rw [hV2] at heq c16
    obtain ⟨f, hfe⟩ : ∃ f, decide (valueOf ls z = v) = f := ⟨_, rfl⟩
    rw [hfe] at heq HR
    clear hT hr hf hv hT2 hV2 hfe
    go_enter Try.func17, Try.ntmps17
    go_wp2_with (go_at_call 16; (with_reducible refine c16.mono ?_); rintro e w1 ⟨rfl, hb1⟩)
    go_ret
    exact ⟨by rw [HR.out, ← heq]; rfl, hb1⟩
end Go.Proofs.Ytfggoegofbghhaa
