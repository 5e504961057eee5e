/- Slices that read as lists of spans; no program is spoken of. -/
import Derived.Test.YtfggoegofbghhaaVals
import Derived.Test.YtfggoegofbghhaaSpans
namespace Go.Proofs.Ytfggoegofbghhaa
open Go.RowKit

def spv (s : Sp) : List Value := [.int .i64 s.a, .int .i64 s.b, .string (bs s.v)]
def spvs (ls : List Sp) : List Value := ls.flatMap spv
theorem spvs_cons (s : Sp) (ls : List Sp) : spvs (s :: ls) = .int .i64 s.a :: .int .i64 s.b :: .string (bs s.v) :: spvs ls := rfl
theorem spvs_snoc (ls : List Sp) (s : Sp) : spvs ls ++ [.int .i64 s.a, .int .i64 s.b, .string (bs s.v)] = spvs (ls ++ [s]) := by unfold spvs; rw [List.flatMap_append]; rfl
theorem spvs_app (ls ms : List Sp) : spvs ls ++ spvs ms = spvs (ls ++ ms) := by unfold spvs; rw [List.flatMap_append]
theorem spvs_length : ∀ ls : List Sp, (spvs ls).length = ls.length * 3
  | [] => rfl
  | s :: ls => by rw [spvs_cons]; simp [spvs_length ls]; omega
theorem spvs_get : ∀ {ls : List Sp} {j : Nat} {s : Sp}, ls[j]? = some s → (spvs ls)[j * 3]? = some (.int .i64 s.a) ∧ (spvs ls)[j * 3 + 1]? = some (.int .i64 s.b) ∧ (spvs ls)[j * 3 + 2]? = some (.string (bs s.v))
  | [], _, _, h => by simp at h
  | x :: ls, 0, s, h => by simp at h; subst h; exact ⟨rfl, rfl, rfl⟩
  | x :: ls, j + 1, s, h => by
    have := spvs_get (ls := ls) (j := j) (s := s) (by simpa using h)
    rw [spvs_cons, show (j + 1) * 3 = j * 3 + 3 by omega]
    exact this
/-- The slice with address A and length n reads, in w, as the spans ls. -/
def SAt (w : World) (A : Option Addr) (n : Nat) (ls : List Sp) : Prop :=
  ls.length = n ∧ (0 < n → ∃ b off, A = some ⟨b, off, none⟩ ∧ b < w.heap.size ∧ ∀ j s, ls[j]? = some s →
    w.cell? ⟨b, off + j * 3, none⟩ = some (.int .i64 s.a) ∧ w.cell? ⟨b, off + j * 3 + 1, none⟩ = some (.int .i64 s.b) ∧ w.cell? ⟨b, off + j * 3 + 2, none⟩ = some (.string (bs s.v)))
theorem SAt.below {w w' : World} {A : Option Addr} {n : Nat} {ls : List Sp} (h : SAt w A n ls) (hb : Below w.heap.size w w') : SAt w' A n ls := by
  refine ⟨h.1, fun hn => ?_⟩
  obtain ⟨b, off, rfl, hlt, hc⟩ := h.2 hn
  refine ⟨b, off, rfl, Nat.lt_of_lt_of_le hlt hb.size, fun j s hj => ?_⟩
  obtain ⟨h1, h2, h3⟩ := hc j s hj
  exact ⟨(hb.cell (p := ⟨b, _, none⟩) hlt).trans h1, (hb.cell (p := ⟨b, _, none⟩) hlt).trans h2, (hb.cell (p := ⟨b, _, none⟩) hlt).trans h3⟩
theorem SAt.nil (w : World) (A : Option Addr) : SAt w A 0 [] := ⟨rfl, fun h => absurd h (by omega)⟩
theorem SAt.drewN {w : World} {A : Option Addr} {n : Nat} {ls : List Sp} (h : SAt w A n ls) (m : Nat) : SAt (w.drewN m) A n ls := h
theorem own_sat {w : World} {base : Nat} {e : TypeId} {v : Value} {ls : List Sp} (ho : w.ownsRow base e 3 v ls.length (spvs ls)) : ∃ A c, v = .slice A ls.length c ∧ ls.length ≤ c ∧ SAt w A ls.length ls ∧ (A = none → c = 0) := by
  rcases ho.2 with ⟨rfl, h0⟩ | ⟨g, cap, cur, rfl, _, hg, hcap, _⟩
  · exact ⟨none, 0, by rw [h0], by omega, ⟨rfl, fun h => absurd h (by omega)⟩, fun _ => rfl⟩
  · refine ⟨_, cap, rfl, hcap, ⟨rfl, fun _ => ⟨g, 0, rfl, (Array.getElem?_eq_some_iff.1 hg).1, fun j s hj => ?_⟩⟩, fun h => by cases h⟩
    obtain ⟨h1, h2, h3⟩ := spvs_get hj
    have k1 := ho.cells (g := g) rfl _ _ h1
    have k2 := ho.cells (g := g) rfl _ _ h2
    have k3 := ho.cells (g := g) rfl _ _ h3
    rw [add_at] at k1 k2 k3
    exact ⟨k1, k2, k3⟩
theorem getSp {ls : List Sp} {k : Nat} (h : k < ls.length) : ∃ s, ls[k]? = some s := ⟨ls[k], List.getElem?_eq_getElem h⟩
theorem bs_toList (l : List UInt8) : (bs l).toList = l := by rw [Lib.toList_data, bs_data]
theorem bs_some {l : List UInt8} (h : ¬ l = []) : (bs l).toList.isEmpty = false := by rw [bs_toList]; simp [h]

/-! The document's answers, step by step. -/
theorem any_take {l : List Sp} {f : Sp → Bool} {k : Nat} {s : Sp} (hk : l[k]? = some s) (h : (l.take k).any f = false) : (l.take (k + 1)).any f = f s := by
  have hlt := (List.getElem?_eq_some_iff.1 hk).1
  rw [List.take_succ_eq_append_getElem hlt, List.any_append, h]
  have e : l[k] = s := (List.getElem?_eq_some_iff.1 hk).2
  simp [e]
theorem any_mem {l : List Sp} {f : Sp → Bool} {k : Nat} {s : Sp} (hk : l[k]? = some s) (h : f s = true) : l.any f = true := by
  rw [List.any_eq_true]
  exact ⟨s, List.mem_of_getElem? hk, h⟩
theorem value_take {l : List Sp} {c : Int} {k : Nat} {s : Sp} (hk : l[k]? = some s) (h : ∀ t ∈ l.take k, ¬ (t.a ≤ c ∧ c ≤ t.b)) (hs : s.a ≤ c ∧ c ≤ s.b) : valueOf l c = s.v := by
  have hlt := (List.getElem?_eq_some_iff.1 hk).1
  have e : l[k] = s := (List.getElem?_eq_some_iff.1 hk).2
  rw [← List.take_append_drop k l, List.drop_eq_getElem_cons hlt, e]
  generalize l.take k = m at h
  induction m with
  | nil => rw [List.nil_append, value_cons, if_pos hs]
  | cons x m ih =>
    rw [List.cons_append, value_cons, if_neg (h x (by simp))]
    exact ih fun t ht => h t (by simp [ht])
theorem take_more {l : List Sp} {P : Sp → Prop} {k : Nat} {s : Sp} (hk : l[k]? = some s) (h : ∀ t ∈ l.take k, P t) (hs : P s) : ∀ t ∈ l.take (k + 1), P t := by
  have hlt := (List.getElem?_eq_some_iff.1 hk).1
  have e : l[k] = s := (List.getElem?_eq_some_iff.1 hk).2
  intro t ht
  rw [List.take_succ_eq_append_getElem hlt, e] at ht
  rcases List.mem_append.1 ht with ht | ht
  · exact h t ht
  · rw [List.mem_singleton.1 ht]; exact hs
end Go.Proofs.Ytfggoegofbghhaa
