/- Where the program's reader stands; no walk. -/
import Derived.Test.YtfmkhfjdihfppaaDoorJoin
import Derived.Test.YtfmkhfjdihfppaaDoorFlns
namespace Go.Proofs.YtfmkhfjdihfppaaDoor
open Go.RowKit Go.Shelf

/-- What the reader does not own: not its block, nor the rows'. -/
def GA (bo : Nat) (W : World) (k : Nat) : Prop := ∃ v, W.cell? ⟨bo, 0, none⟩ = some v ∧ k ≠ bo ∧ v.ownBlock ≠ some k
theorem ga_lets (bo : Nat) : Lets (GA bo) := fun _ _ _ _ ⟨v, h1, h2⟩ hg hr => ⟨v, cell_kept h1 hg hr, h2⟩
/-- The eleven cells of a reader. -/
def RBx (W : World) (R : Nat) (v : Value) (o : Bool) (num : Int) (nm : ByteArray) (bare : Bool) (s : Rw) : Prop :=
  (W.cell? ⟨R, 0, none⟩ = some v ∧ W.cell? ⟨R, 1, none⟩ = some (.bool o) ∧ W.cell? ⟨R, 2, none⟩ = some (.int .i64 num) ∧ W.cell? ⟨R, 3, none⟩ = some (.string nm) ∧ W.cell? ⟨R, 4, none⟩ = some (.bool bare) ∧ W.cell? ⟨R, 5, none⟩ = some (.int .i64 s.a) ∧ W.cell? ⟨R, 6, none⟩ = some (.int .i64 s.b) ∧ W.cell? ⟨R, 7, none⟩ = some (.string (bs s.gc)) ∧ W.cell? ⟨R, 8, none⟩ = some (.int .i64 s.ccc) ∧ W.cell? ⟨R, 9, none⟩ = some (.string (bs s.bd)) ∧ W.cell? ⟨R, 10, none⟩ = some (.slice s.dp s.dm s.dc)) ∧ ∀ i, W.frozen? ⟨R, i, none⟩ = false
theorem RBx.lt {W : World} {R : Nat} {v : Value} {o : Bool} {num : Int} {nm : ByteArray} {bare : Bool} {s : Rw} (h : RBx W R v o num nm bare s) : R < W.heap.size := World.block_lt_of_cell? W _ h.1.1
theorem rbx_block {W W' : World} {R : Nat} {v : Value} {o : Bool} {num : Int} {nm : ByteArray} {bare : Bool} {s : Rw} (h : RBx W R v o num nm bare s) (he : W'.heap[R]? = W.heap[R]?) : RBx W' R v o num nm bare s := by
  obtain ⟨⟨h0, h1, h2, h3, h4, h5, h6, h7, h8, h9, h10⟩, hf⟩ := h
  have c : ∀ i u, W.cell? ⟨R, i, none⟩ = some u → W'.cell? ⟨R, i, none⟩ = some u := fun i u hu => (World.cell?_of_block (a := ⟨R, i, none⟩) he).trans hu
  exact ⟨⟨c _ _ h0, c _ _ h1, c _ _ h2, c _ _ h3, c _ _ h4, c _ _ h5, c _ _ h6, c _ _ h7, c _ _ h8, c _ _ h9, c _ _ h10⟩, fun i => (World.frozen?_of_block (a := ⟨R, i, none⟩) he).trans (hf i)⟩
theorem RBx.below {W W' : World} {R : Nat} {v : Value} {o : Bool} {num : Int} {nm : ByteArray} {bare : Bool} {s : Rw} (h : RBx W R v o num nm bare s) (hb : Below W.heap.size W W') : RBx W' R v o num nm bare s := rbx_block h (hb.block R h.lt)
/-- The open range's first line. -/
def Opn (op : Option Ln) (num : Int) (nm : List UInt8) (bare : Bool) (s : Rw) : Prop :=
  ∀ x, op = some x → num = x.1 ∧ nm = fld x.2 1 ∧ bare = decide (fld x.2 5 = []) ∧ s.a = (rowVal x.2).a ∧ s.gc = (rowVal x.2).gc ∧ s.ccc = (rowVal x.2).ccc ∧ s.bd = (rowVal x.2).bd
/-- The reader's rows. -/
def RRows (R base : Nat) (v : Value) (ls : List Rw) (ps : List Pr) (W : World) : Prop :=
  W.ownsRow base 36 6 v ls.length (rwvs ls) ∧ Ist W ls ps ∧ (∀ t ∈ ls, 0 < t.dm → ∀ a, t.dp = some a → v.ownBlock ≠ some a.block ∧ R < a.block) ∧ R < base
def RdrI (R base : Nat) (ps : List Pr) (op : Option Ln) (W : World) : Prop :=
  ∃ v ls num nm bare s, RBx W R v op.isSome num (bs nm) bare s ∧ RRows R base v ls ps W ∧ Opn op num nm bare s ∧ (op.isSome = true → 0 < ps.length)
theorem RRows.below {R base : Nat} {v : Value} {ls : List Rw} {ps : List Pr} {W W' : World} (h : RRows R base v ls ps W) (hb : Below W.heap.size W W') : RRows R base v ls ps W' :=
  ⟨own_below h.1 hb (Nat.le_refl _), h.2.1.below hb, h.2.2⟩
theorem RdrI.below {R base : Nat} {ps : List Pr} {op : Option Ln} {W W' : World} (h : RdrI R base ps op W) (hb : Below W.heap.size W W') : RdrI R base ps op W' := by
  obtain ⟨v, ls, num, nm, bare, s, h1, h2, h3⟩ := h
  exact ⟨v, ls, num, nm, bare, s, h1.below hb, h2.below hb, h3⟩
theorem join_eq {x y : Ln} {num : Int} {nm : List UInt8} {bare : Bool} {s t : Rw} (ho : Opn (some x) num nm bare s) (ht : t.a = (rowVal y.2).a ∧ t.gc = (rowVal y.2).gc ∧ t.ccc = (rowVal y.2).ccc ∧ t.bd = (rowVal y.2).bd) :
    joinV (fld y.2 1) s t bare (decide (fld y.2 5 = [])) = joinB x.2 y.2 := by
  obtain ⟨h1, h2, h3, h4, h5, h6, h7⟩ := ho x rfl
  unfold joinV joinB
  rw [h3, h4, h5, h6, h7, ht.1, ht.2.1, ht.2.2.1, ht.2.2.2]
/-- What may be written: the reader's block and its rows'. -/
theorem hold_two {R : Nat} {v : Value} {W W' : World} (hv : W.cell? ⟨R, 0, none⟩ = some v) (hs : W.heap.size ≤ W'.heap.size) (hk : ∀ k, k < W.heap.size → k ≠ R → v.ownBlock ≠ some k → W'.heap[k]? = W.heap[k]?)
    {v' : Value} (hv' : W'.cell? ⟨R, 0, none⟩ = some v') (ho : ∀ k, k < W.heap.size → v'.ownBlock = some k → v.ownBlock = some k) : Hold (GA R) W W' := by
  refine ⟨hs, fun k ⟨u, h1, h2, h3⟩ hlt => ?_⟩
  rw [hv] at h1
  cases h1
  exact ⟨hk k hlt h2 h3, v', hv', h2, fun e => h3 (ho k hlt e)⟩
theorem rwvs_set {ls : List Rw} {t : Rw} {b : Int} : (rwvs (ls ++ [t])).set (ls.length * 6 + 1) (.int .i64 b) = rwvs (ls ++ [{ t with b := b }]) := by
  unfold rwvs
  rw [List.flatMap_append, List.flatMap_append]
  have hl : (ls.flatMap rwv).length = ls.length * 6 := rwvs_length ls
  rw [List.set_append_right _ _ (by omega), hl, Nat.add_sub_cancel_left]
  rfl
theorem snoc_of {α : Type} {l : List α} (h : 0 < l.length) : ∃ m t, l = m ++ [t] := ⟨l.dropLast, l.getLast (List.ne_nil_of_length_pos h), (List.dropLast_concat_getLast _).symm⟩
theorem Ist.unsnoc {w : World} : ∀ {ls : List Rw} {t : Rw} {ps : List Pr}, Ist w (ls ++ [t]) ps → ∃ qs q, ps = qs ++ [q] ∧ Ist w ls qs ∧ Is w t q
  | [], t, [p], h => ⟨[], p, rfl, trivial, h.1⟩
  | [], t, [], h => h.elim
  | [], t, _ :: _ :: _, h => h.2.elim
  | s :: ls, t, p :: ps, h => by
    obtain ⟨qs, q, h1, h2, h3⟩ := Ist.unsnoc h.2
    exact ⟨p :: qs, q, by rw [h1]; rfl, ⟨h.1, h2⟩, h3⟩
  | _ :: _, _, [], h => h.elim
end Go.Proofs.YtfmkhfjdihfppaaDoor
