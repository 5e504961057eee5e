/- Slices that read as lists of rows; no program is spoken of. -/
import Derived.Test.YtfmkhfjdihfppaaDoorWords
namespace Go.Proofs.YtfmkhfjdihfppaaDoor
open Go.RowKit

/-- A row; its decomposition as the slice that stands there. -/
structure Rw where
  a : Int
  b : Int
  gc : List UInt8
  ccc : Int
  bd : List UInt8
  dp : Option Addr
  dm : Nat
  dc : Nat
/-- The decomposition's slice. -/
@[reducible] def Rw.d (s : Rw) : Value := .slice s.dp s.dm s.dc
def rwv (s : Rw) : List Value := [.int .i64 s.a, .int .i64 s.b, .string (bs s.gc), .int .i64 s.ccc, .string (bs s.bd), .slice s.dp s.dm s.dc]
/-- A row as a value. -/
def rwV (s : Rw) : Value := .agg #[.int .i64 s.a, .int .i64 s.b, .string (bs s.gc), .int .i64 s.ccc, .string (bs s.bd), .slice s.dp s.dm s.dc]
/-- The row that is none. -/
def rw0 : Rw := ⟨0, 0, [], 0, [], none, 0, 0⟩
def rwvs (ls : List Rw) : List Value := ls.flatMap rwv
theorem rwvs_cons (s : Rw) (ls : List Rw) : rwvs (s :: ls) = .int .i64 s.a :: .int .i64 s.b :: .string (bs s.gc) :: .int .i64 s.ccc :: .string (bs s.bd) :: .slice s.dp s.dm s.dc :: rwvs ls := rfl
theorem rwvs_snoc (ls : List Rw) (s : Rw) : rwvs ls ++ [.int .i64 s.a, .int .i64 s.b, .string (bs s.gc), .int .i64 s.ccc, .string (bs s.bd), .slice s.dp s.dm s.dc] = rwvs (ls ++ [s]) := by unfold rwvs; rw [List.flatMap_append]; rfl
theorem rwvs_app (ls ms : List Rw) : rwvs ls ++ rwvs ms = rwvs (ls ++ ms) := by unfold rwvs; rw [List.flatMap_append]
theorem rwvs_length : ∀ ls : List Rw, (rwvs ls).length = ls.length * 6
  | [] => rfl
  | s :: ls => by rw [rwvs_cons]; simp [rwvs_length ls]; omega
/-- The six values of the row at a place. -/
def Six (f : Nat → Option Value) (s : Rw) : Prop :=
  f 0 = some (.int .i64 s.a) ∧ f 1 = some (.int .i64 s.b) ∧ f 2 = some (.string (bs s.gc)) ∧ f 3 = some (.int .i64 s.ccc) ∧ f 4 = some (.string (bs s.bd)) ∧ f 5 = some (.slice s.dp s.dm s.dc)
theorem rwvs_get : ∀ {ls : List Rw} {j : Nat} {s : Rw}, ls[j]? = some s → Six (fun i => (rwvs ls)[j * 6 + i]?) s
  | [], _, _, h => by simp at h
  | x :: ls, 0, s, h => by simp at h; subst h; exact ⟨rfl, rfl, rfl, rfl, rfl, rfl⟩
  | x :: ls, j + 1, s, h => by
    have := rwvs_get (ls := ls) (j := j) (s := s) (by simpa using h)
    have e : (fun i => (rwvs (x :: ls))[(j + 1) * 6 + i]?) = fun i => (rwvs ls)[j * 6 + i]? := by
      funext i
      rw [rwvs_cons, show (j + 1) * 6 + i = j * 6 + i + 6 by omega]
      rfl
    rw [e]
    exact this
/-- The slice with address A and length n reads, in w, as the rows ls. -/
def RAt (w : World) (A : Option Addr) (n : Nat) (ls : List Rw) : Prop :=
  ls.length = n ∧ (0 < n → ∃ b off, A = some ⟨b, off, none⟩ ∧ b < w.heap.size ∧ ∀ j s, ls[j]? = some s →
    w.cell? ⟨b, off + j * 6, none⟩ = some (.int .i64 s.a) ∧ w.cell? ⟨b, off + j * 6 + 1, none⟩ = some (.int .i64 s.b) ∧ w.cell? ⟨b, off + j * 6 + 2, none⟩ = some (.string (bs s.gc)) ∧
    w.cell? ⟨b, off + j * 6 + 3, none⟩ = some (.int .i64 s.ccc) ∧ w.cell? ⟨b, off + j * 6 + 4, none⟩ = some (.string (bs s.bd)) ∧ w.cell? ⟨b, off + j * 6 + 5, none⟩ = some (.slice s.dp s.dm s.dc))
theorem RAt.below {w w' : World} {A : Option Addr} {n : Nat} {ls : List Rw} (h : RAt w A n ls) (hb : Below w.heap.size w w') : RAt w' A n ls := by
  refine ⟨h.1, fun hn => ?_⟩
  obtain ⟨b, off, rfl, hlt, hc⟩ := h.2 hn
  refine ⟨b, off, rfl, Nat.lt_of_lt_of_le hlt hb.size, fun j s hj => ?_⟩
  obtain ⟨h1, h2, h3, h4, h5, h6⟩ := hc j s hj
  exact ⟨(hb.cell (p := ⟨b, _, none⟩) hlt).trans h1, (hb.cell (p := ⟨b, _, none⟩) hlt).trans h2, (hb.cell (p := ⟨b, _, none⟩) hlt).trans h3, (hb.cell (p := ⟨b, _, none⟩) hlt).trans h4, (hb.cell (p := ⟨b, _, none⟩) hlt).trans h5, (hb.cell (p := ⟨b, _, none⟩) hlt).trans h6⟩
theorem RAt.nil (w : World) (A : Option Addr) : RAt w A 0 [] := ⟨rfl, fun h => absurd h (by omega)⟩
theorem own_rat {w : World} {base : Nat} {e : TypeId} {v : Value} {ls : List Rw} (ho : w.ownsRow base e 6 v ls.length (rwvs ls)) : ∃ A c, v = .slice A ls.length c ∧ ls.length ≤ c ∧ RAt w A ls.length ls ∧ (A = none → c = 0) := by
  rcases ho.2 with ⟨rfl, h0⟩ | ⟨g, cap, cur, rfl, _, hg, hcap, _⟩
  · exact ⟨none, 0, by rw [h0], by omega, ⟨rfl, fun h => absurd h (by omega)⟩, fun _ => rfl⟩
  · refine ⟨_, cap, rfl, hcap, ⟨rfl, fun _ => ⟨g, 0, rfl, (Array.getElem?_eq_some_iff.1 hg).1, fun j s hj => ?_⟩⟩, fun h => by cases h⟩
    obtain ⟨h1, h2, h3, h4, h5, h6⟩ := rwvs_get hj
    have k1 := ho.cells (g := g) rfl _ _ h1
    have k2 := ho.cells (g := g) rfl _ _ h2
    have k3 := ho.cells (g := g) rfl _ _ h3
    have k4 := ho.cells (g := g) rfl _ _ h4
    have k5 := ho.cells (g := g) rfl _ _ h5
    have k6 := ho.cells (g := g) rfl _ _ h6
    rw [add_at] at k1 k2 k3 k4 k5 k6
    exact ⟨k1, k2, k3, k4, k5, k6⟩
theorem getRw {ls : List Rw} {k : Nat} (h : k < ls.length) : ∃ s, ls[k]? = some s := ⟨ls[k], List.getElem?_eq_getElem h⟩

/-- The row of a code point; none: the row that is none. -/
def atOf (ls : List Rw) (c : Int) : Rw := (ls.find? fun s => decide (s.a ≤ c ∧ c ≤ s.b)).getD rw0
theorem at_take {l : List Rw} {c : Int} {k : Nat} {s : Rw} (hk : l[k]? = some s) (h : ∀ t ∈ l.take k, ¬ (t.a ≤ c ∧ c ≤ t.b)) (hs : s.a ≤ c ∧ c ≤ s.b) : atOf l c = s := by
  have hlt := (List.getElem?_eq_some_iff.1 hk).1
  have e : l[k] = s := (List.getElem?_eq_some_iff.1 hk).2
  unfold atOf
  rw [← List.take_append_drop k l, List.drop_eq_getElem_cons hlt, e, List.find?_append, List.find?_eq_none.2 (fun t ht => by simpa using h t ht)]
  rw [Option.none_or, List.find?_cons_of_pos (by simpa using hs)]
  rfl
theorem at_gap {l : List Rw} {c : Int} (h : ∀ t ∈ l, ¬ (t.a ≤ c ∧ c ≤ t.b)) : atOf l c = rw0 := by
  unfold atOf
  rw [List.find?_eq_none.2 (fun t ht => by simpa using h t ht)]
  rfl
theorem take_rw {l : List Rw} {P : Rw → Prop} {k : Nat} {s : Rw} (hk : l[k]? = some s) (h : ∀ t ∈ l.take k, P t) (hs : P s) : ∀ t ∈ l.take (k + 1), P t := by
  have hlt := (List.getElem?_eq_some_iff.1 hk).1
  have e : l[k] = s := (List.getElem?_eq_some_iff.1 hk).2
  intro t ht
  rw [List.take_succ_eq_append_getElem hlt, e] at ht
  rcases List.mem_append.1 ht with ht | ht
  · exact h t ht
  · rw [List.mem_singleton.1 ht]; exact hs
end Go.Proofs.YtfmkhfjdihfppaaDoor
