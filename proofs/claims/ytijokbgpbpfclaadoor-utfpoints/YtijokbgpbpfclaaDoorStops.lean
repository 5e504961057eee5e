/- Any octets can be cut into scalars up to where none stands; what decoding hands back, told by that cut. -/
import Derived.Test.YtijokbgpbpfclaaDoorRdec
import Derived.Test.YtijokbgpbpfclaaDoorPosts
namespace Go.Proofs.YtijokbgpbpfclaaDoor
open Go.RowKit

theorem stop_exists : ∀ (m : Nat) (bs : List Int), bs.length ≤ m → Octs bs → ∃ s k, Stop bs s k
  | 0, bs, hl, _ => by
    obtain rfl : bs = [] := List.eq_nil_of_length_eq_zero (by omega)
    exact ⟨[], 0, by simp, by simp [encs], by simp [encs], .inl (by simp)⟩
  | m + 1, bs, hl, hb => by
    cases h : fst bs with
    | none => exact ⟨[], 0, by simp, by simp [encs], by simp [encs], .inr (by simpa using h)⟩
    | some c =>
      obtain ⟨hs, e⟩ := fst_some hb h
      have hpos := (oct_length c).1
      obtain ⟨s, k, h1, h2, h3, h4⟩ := stop_exists m (bs.drop (oct c).length) (by simp; omega) (octs_drop hb _)
      refine ⟨c :: s, (oct c).length + k, ?_, by rw [encs_cons, List.length_append, ← h2], ?_, by rw [← List.drop_drop]; exact h4⟩
      · intro x hx
        rcases List.mem_cons.1 hx with rfl | hx
        · exact hs
        · exact h1 x hx
      · rw [encs_cons, List.append_assoc, ← List.drop_drop, ← h3]
        exact e

theorem Stop.le {bs s : List Int} {k : Nat} (h : Stop bs s k) : k ≤ bs.length := Part.le ⟨h.1, h.2.1, h.2.2.1⟩
theorem Stop.few {bs s : List Int} {k : Nat} (h : Stop bs s k) : s.length ≤ k := Part.few ⟨h.1, h.2.1, h.2.2.1⟩

theorem dec_whole {bs s : List Int} {k n : Nat} {w w' : World} {e : Ending} (hl : bs.length = n) (hs : Stop bs s k) (hk : k = n) (h : DecPost bs n w e w') :
    ∃ A c, e = .returned (.tuple #[.slice A s.length c, .int .i64 0, .int .i64 n]) ∧ Nums .i64 w' A s.length s ∧ Below w.heap.size w w' := by
  obtain ⟨hb, t, m, hp, h⟩ := h
  rcases h with ⟨hm, v, rfl, hown⟩ | ⟨hm, hf, _⟩
  · obtain ⟨rfl, _⟩ := (hp.whole (by omega)).unique hs
    obtain ⟨A, c, rfl, _, hN⟩ := own_nums hown
    exact ⟨A, c, rfl, hN, hb⟩
  · have := (hp.stop hf).unique hs
    omega
theorem dec_err {bs s : List Int} {k n : Nat} {w w' : World} {e : Ending} (hl : bs.length = n) (hs : Stop bs s k) (hk : k < n) (h : DecPost bs n w e w') :
    e = .returned (.tuple #[.slice none 0 0, .int .i64 10, .int .i64 k]) ∧ Below w.heap.size w w' := by
  obtain ⟨hb, t, m, hp, h⟩ := h
  rcases h with ⟨hm, v, rfl, hown⟩ | ⟨hm, hf, rfl⟩
  · have := (hp.whole (by omega)).unique hs
    omega
  · obtain ⟨_, rfl⟩ := (hp.stop hf).unique hs
    exact ⟨rfl, hb⟩
theorem rdec_stop {bs s : List Int} {k : Nat} {w w' : World} {e : Ending} (hs : Stop bs s k) (h : RDecPost bs w e w') :
    ∃ A c, e = .returned (.tuple #[.slice A s.length c, .int .i64 k]) ∧ Nums .i64 w' A s.length s ∧ Below w.heap.size w w' := by
  obtain ⟨hb, t, m, ht, v, rfl, hown⟩ := h
  obtain ⟨rfl, rfl⟩ := ht.unique hs
  obtain ⟨A, c, rfl, _, hN⟩ := own_nums hown
  exact ⟨A, c, rfl, hN, hb⟩
theorem octs_of_wf {bs : List Int} (h : ∀ n ∈ bs, (Lit.int .u8 n).wf = true) : Octs bs := by
  intro x hx
  have := h x hx
  simp [Lit.wf, IntKind.min, IntKind.max, IntKind.bits, IntKind.signed] at this
  omega
end Go.Proofs.YtijokbgpbpfclaaDoor
