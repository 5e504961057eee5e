/- What each round of encoding and decoding does to what has been gathered; rows of the call's own read as numbers; no program is spoken of. -/
import Derived.Test.YtijokbgpbpfclaaDoorUtf
import Derived.Lib.FrozenHead
import Derived.Laws.OwnMore
namespace Go.Proofs.YtijokbgpbpfclaaDoor
open Go.RowKit

/-- s are scalars, and their octets are the first k of bs. -/
def Part (bs s : List Int) (k : Nat) : Prop := (∀ c ∈ s, scal c = true) ∧ k = (encs s).length ∧ bs = encs s ++ bs.drop k

theorem Part.zero (bs : List Int) : Part bs [] 0 := ⟨by simp, by simp [encs], by simp [encs]⟩
theorem Part.le {bs s : List Int} {k : Nat} (h : Part bs s k) : k ≤ bs.length := by
  have e := congrArg List.length h.2.2
  rw [List.length_append, List.length_drop, ← h.2.1] at e
  omega
theorem Part.few {bs s : List Int} {k : Nat} (h : Part bs s k) : s.length ≤ k := by
  have := encs_length s
  have := h.2.1
  omega
theorem Part.step {bs s : List Int} {k : Nat} {c : Int} (h : Part bs s k) (ho : Octs bs) (hc : fst (bs.drop k) = some c) : Part bs (s ++ [c]) (k + (oct c).length) := by
  obtain ⟨h1, h2⟩ := fst_some (octs_drop ho k) hc
  refine ⟨?_, by rw [encs_append, encs_one, List.length_append, ← h.2.1], ?_⟩
  · intro x hx
    rw [List.mem_append, List.mem_singleton] at hx
    rcases hx with hx | rfl
    · exact h.1 x hx
    · exact h1
  · rw [List.drop_drop] at h2
    rw [encs_append, encs_one, List.append_assoc, ← h2]
    exact h.2.2
theorem Part.stop {bs s : List Int} {k : Nat} (h : Part bs s k) (hc : fst (bs.drop k) = none) : Stop bs s k := ⟨h.1, h.2.1, h.2.2, .inr hc⟩
theorem Part.whole {bs s : List Int} {k : Nat} (h : Part bs s k) (hk : k = bs.length) : Stop bs s k := ⟨h.1, h.2.1, h.2.2, .inl (List.drop_of_length_le (by omega))⟩
theorem Part.all {bs s : List Int} {k : Nat} (h : Part bs s k) (hk : k = bs.length) : bs = encs s := by
  have := h.2.2
  rwa [List.drop_of_length_le (by omega), List.append_nil] at this

/-- The first k are scalars. -/
theorem all_snoc {xs : List Int} {k : Nat} (hk : k < xs.length) (h : ∀ c ∈ xs.take k, scal c = true) (hs : scal (xs.getD k 0) = true) : ∀ c ∈ xs.take (k + 1), scal c = true := by
  intro c hc
  rw [List.take_succ_eq_append_getElem hk, List.mem_append, List.mem_singleton] at hc
  rcases hc with hc | rfl
  · exact h c hc
  · simpa [List.getD_eq_getElem?_getD, List.getElem?_eq_getElem hk] using hs
theorem take_snoc {xs : List Int} {k : Nat} (hk : k < xs.length) : xs.take (k + 1) = xs.take k ++ [xs.getD k 0] := by
  rw [List.take_succ_eq_append_getElem hk]
  simp [List.getD_eq_getElem?_getD, List.getElem?_eq_getElem hk]
theorem encs_snoc {xs : List Int} {k : Nat} (hk : k < xs.length) : encs (xs.take (k + 1)) = encs (xs.take k) ++ oct (xs.getD k 0) := by
  rw [take_snoc hk, encs_append, encs_one]
theorem not_all {xs : List Int} {k : Nat} (hk : k < xs.length) (hs : scal (xs.getD k 0) = false) : ¬ ∀ c ∈ xs, scal c = true := by
  intro h
  have := h (xs.getD k 0) (by simp [List.getD_eq_getElem?_getD, List.getElem?_eq_getElem hk])
  rw [hs] at this
  cases this

/-! Rows of the call's own. -/
theorem own_below {w w' : World} {base B : Nat} {e : TypeId} {size n : Nat} {v : Value} {xs : List Value} (h : w.ownsRow base e size v n xs) (hb : Below B w w') (hB : w.heap.size ≤ B) : w'.ownsRow base e size v n xs := by
  refine ⟨h.1, ?_⟩
  rcases h.2 with hn | ⟨g, cap, cur, rfl, hg, hgg, rest⟩
  · exact .inl hn
  · refine .inr ⟨g, cap, cur, rfl, hg, ?_, rest⟩
    have hlt := (Array.getElem?_eq_some_iff.1 hgg).1
    rw [hb.block g (by omega)]
    exact hgg
theorem ownF_below {w w' : World} {base B : Nat} {e : TypeId} {size n : Nat} {v : Value} {xs : List Value} (h : w.ownsRowF base e size v n xs) (hb : Below B w w') (hB : w.heap.size ≤ B) : w'.ownsRowF base e size v n xs := by
  refine ⟨h.1, ?_⟩
  rcases h.2 with hn | ⟨g, cap, cur, fz, rfl, hg, hgg, rest⟩
  · exact .inl hn
  · refine .inr ⟨g, cap, cur, fz, rfl, hg, ?_, rest⟩
    have hlt := (Array.getElem?_eq_some_iff.1 hgg).1
    rw [hb.block g (by omega)]
    exact hgg

theorem add_at (g j : Nat) : (⟨g, 0, none⟩ : Addr).add j = ⟨g, 0 + j, none⟩ := by unfold Addr.add; split <;> simp_all

theorem own_nums {w : World} {base : Nat} {e : TypeId} {n : Nat} {v : Value} {k : IntKind} {zs : List Int} (h : w.ownsRow base e 1 v n (zs.map (Value.int k))) : ∃ A c, v = .slice A n c ∧ n ≤ c ∧ Nums k w A n zs := by
  have hl : zs.length = n := by have := h.1; simpa using this
  rcases h.2 with ⟨rfl, rfl⟩ | ⟨g, cap, cur, rfl, _, hg, hc, _⟩
  · exact ⟨none, 0, rfl, Nat.le_refl _, hl, fun h0 => absurd h0 (by omega)⟩
  · refine ⟨some ⟨g, 0, none⟩, cap, rfl, hc, hl, fun _ => ⟨g, 0, rfl, (Array.getElem?_eq_some_iff.1 hg).1, fun j hj => ?_⟩⟩
    have := h.cells (g := g) rfl j (.int k (zs.getD j 0)) (by
      rw [List.getElem?_map, List.getElem?_eq_getElem (by omega)]
      simp [List.getD_eq_getElem?_getD, List.getElem?_eq_getElem (show j < zs.length by omega)])
    rwa [add_at] at this
theorem ownF_nums {w : World} {base : Nat} {e : TypeId} {n : Nat} {v : Value} {k : IntKind} {zs : List Int} (h : w.ownsRowF base e 1 v n (zs.map (Value.int k))) : ∃ A c, v = .slice A n c ∧ n ≤ c ∧ Nums k w A n zs := by
  have hl : zs.length = n := by have := h.1; simpa using this
  rcases h.2 with ⟨rfl, rfl⟩ | ⟨g, cap, cur, fz, rfl, _, hg, hz, hc, _⟩
  · exact ⟨none, 0, rfl, Nat.le_refl _, hl, fun h0 => absurd h0 (by omega)⟩
  · refine ⟨some ⟨g, 0, none⟩, cap, rfl, by omega, hl, fun _ => ⟨g, 0, rfl, (Array.getElem?_eq_some_iff.1 hg).1, fun j hj => ?_⟩⟩
    have := h.cells (g := g) rfl j (.int k (zs.getD j 0)) (by
      rw [List.getElem?_map, List.getElem?_eq_getElem (by omega)]
      simp [List.getD_eq_getElem?_getD, List.getElem?_eq_getElem (show j < zs.length by omega)])
    rwa [add_at] at this
end Go.Proofs.YtijokbgpbpfclaaDoor
