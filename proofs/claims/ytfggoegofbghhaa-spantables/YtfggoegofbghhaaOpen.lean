/- Arguments that came in: spans in a slice, one span, a text, numbers. -/
import Derived.Test.YtfggoegofbghhaaRows
import Derived.Test.YtfggoegofbghhaaNew
import Derived.Deep.Slices
import Derived.Deep.Strs
import Derived.Lib.SmallJoins
import Derived.WalkKit
import Derived.ProofKit
import Derived.OpenShut
import Derived.ShutString
import Derived.ChangeOld
import Derived.ChangeMaps5
import Derived.Below
namespace Go.Proofs.Ytfggoegofbghhaa
open Go.ChangeShapes Go.WideShapes Go.ChangeAt Go.RowKit

theorem own : ownKnob Try.prog.godebug = none := by kernel_rfl
theorem laidOut : laidOutB Try.prog = true := by kernel_rfl
theorem bs_self (s : ByteArray) : bs s.data.toList = s := by obtain ⟨⟨l⟩⟩ := s; rfl
theorem okWide_flat {W : World} {r : Reach} {base len cap : Nat} {a : Option Addr} (h : Value.okWide Try.prog W r base 22 (.slice a len cap)) : Flat a ∧ (a = none → cap = 0) ∧ len ≤ cap := by
  simp only [Value.okWide, Try.underlying22, Cell.okWide] at h
  cases a with
  | none =>
    simp only [Cell.ok, Try.underlying22] at h
    split at h
    all_goals first | (simp_all; done) | skip
    all_goals first | (exact ⟨.inl rfl, fun _ => (by simp_all), by simp_all⟩) | cases h
  | some x =>
    simp only [Cell.ok, Try.underlying22] at h
    obtain ⟨h1, -, h2⟩ := h
    obtain ⟨b, off, spot⟩ := x
    have h3 : spot = none := h2.2.1
    subst h3
    exact ⟨.inr ⟨b, off, rfl⟩, fun e => (by cases e), h1⟩
section
variable {H : Type} {enc : TypeId × Value → H} {W : World}
theorem span_cells {n : Nat} {cs : List Value} {x : DataW H × List MemPlace} (h : DataW.trod enc Try.prog W 0 (fun _ => true) true n 41 cs = some x) : ∃ s : Sp, cs = spv s ∧ (Lit.int .i64 s.a).wf = true ∧ (Lit.int .i64 s.b).wf = true := by
  obtain ⟨y0, y1, y2, m, -, hl, h0, h1, h2⟩ := Go.Deep.trod_struct3 Try.underlying41 h
  have c3 : Try.prog.cellsOf 3 = 1 := by kernel_rfl
  have c9 : Try.prog.cellsOf 9 = 1 := by kernel_rfl
  have c41 : Try.prog.cellsOf 41 = 3 := by kernel_rfl
  rw [c41] at hl
  match cs, hl with
  | [v0, v1, v2], _ =>
    simp only [c3, c9, List.drop_zero, List.drop_succ_cons, List.take_succ_cons, List.take_zero] at h0 h1 h2
    obtain ⟨a, e0, -, w0⟩ := DataW.trod_int Try.underlying3 h0
    obtain ⟨b, e1, -, w1⟩ := DataW.trod_int Try.underlying3 h1
    obtain ⟨s, e2, -, -⟩ := DataW.trod_string Try.underlying9 h2
    cases e0; cases e1; cases e2
    exact ⟨⟨a, b, s.data.toList⟩, by simp only [spv, bs_self], w0, w1⟩
theorem open_spans {a : Option Addr} {len cap : Nat} {d : DataW H} {p : List MemPlace} (hF : Flat a) (h : DataW.Trod enc Try.prog W 0 (fun _ => true) true 22 (.slice a len cap) d p) : ∃ ls : List Sp, SAt W a len ls := by
  obtain ⟨fuel, hf⟩ := h
  rcases Go.Deep.open_slice Try.underlying22 hf with ⟨hcs, _⟩ | ⟨x, l, c, m, n, D, Pl, hcs, _, hl, _, hm, _, hi⟩
  · simp [Value.cells] at hcs
    obtain ⟨rfl, rfl, rfl⟩ := hcs
    exact ⟨[], SAt.nil _ _⟩
  · simp [Value.cells] at hcs
    obtain ⟨rfl, rfl, rfl⟩ := hcs
    rcases hF with hF | ⟨b, off, e⟩
    · cases hF
    · cases e
      have c41 : Try.prog.cellsOf 41 = 3 := by kernel_rfl
      have key : ∀ i, i < len → ∃ s : Sp, W.cell? ⟨b, off + i * 3, none⟩ = some (.int .i64 s.a) ∧ W.cell? ⟨b, off + i * 3 + 1, none⟩ = some (.int .i64 s.b) ∧ W.cell? ⟨b, off + i * 3 + 2, none⟩ = some (.string (bs s.v)) := by
        intro i hil
        obtain ⟨cs', hc, ht⟩ := hi i (by rw [hm]; split <;> omega)
        rw [c41] at hc
        obtain ⟨s, rfl, -, -⟩ := span_cells ht
        obtain ⟨-, -, hat⟩ := World.cells?_some hc
        have k0 := hat 0 (by omega)
        have k1 := hat 1 (by omega)
        have k2 := hat 2 (by omega)
        rw [add_off, add_off] at k0 k1 k2
        exact ⟨s, k0, k1, k2⟩
      have : ∀ k, k ≤ len → ∃ ls : List Sp, ls.length = k ∧ ∀ j s, ls[j]? = some s → W.cell? ⟨b, off + j * 3, none⟩ = some (.int .i64 s.a) ∧ W.cell? ⟨b, off + j * 3 + 1, none⟩ = some (.int .i64 s.b) ∧ W.cell? ⟨b, off + j * 3 + 2, none⟩ = some (.string (bs s.v)) := by
        intro k
        induction k with
        | zero => exact fun _ => ⟨[], rfl, fun j s h => by simp at h⟩
        | succ k ih =>
          intro hk
          obtain ⟨ls, h1, h2⟩ := ih (by omega)
          obtain ⟨s, hs⟩ := key k (by omega)
          refine ⟨ls ++ [s], by simp [h1], fun j t ht => ?_⟩
          by_cases hj : j < ls.length
          · rw [List.getElem?_append_left hj] at ht
            exact h2 j t ht
          · have hjl := (List.getElem?_eq_some_iff.1 ht).1
            rw [List.length_append, List.length_singleton] at hjl
            have hjk : j = ls.length := by omega
            subst hjk
            simp at ht
            subst ht
            rw [h1]
            exact hs
      obtain ⟨ls, h1, h2⟩ := this len (Nat.le_refl _)
      refine ⟨ls, h1, fun h0 => ⟨b, off, rfl, ?_, h2⟩⟩
      obtain ⟨s, hs, -⟩ := key 0 h0
      exact World.block_lt_of_cell? W _ hs
theorem open_span {r : Reach} {b0 : Nat} {v : Value} {d : DataW H} {p : List MemPlace} (hv : Value.okWide Try.prog W r b0 41 v) (h : DataW.Trod enc Try.prog W 0 (fun _ => true) true 41 v d p) : ∃ x : Sp, v = spV x := by
  obtain ⟨v0, v1, v2, y0, y1, y2, n, rfl, -, -, h0, h1, h2⟩ := Go.Joins.open_agg3 Try.underlying41 (by kernel_rfl) (by kernel_rfl) hv h
  obtain ⟨a, e0, -, -⟩ := DataW.trod_int Try.underlying3 h0
  obtain ⟨b, e1, -, -⟩ := DataW.trod_int Try.underlying3 h1
  obtain ⟨s, e2, -, -⟩ := DataW.trod_string Try.underlying9 h2
  cases e0; cases e1; cases e2
  exact ⟨⟨a, b, s.data.toList⟩, by simp only [spV, bs_self]⟩
end
end Go.Proofs.Ytfggoegofbghhaa
