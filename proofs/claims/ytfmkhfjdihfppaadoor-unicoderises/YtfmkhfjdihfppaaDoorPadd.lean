/- What the program's take does where no range is open: one more row. -/
import Derived.Test.YtfmkhfjdihfppaaDoorPtwo
namespace Go.Proofs.YtfmkhfjdihfppaaDoor
open Go.RowKit Go.Shelf Go.Sort

/-- All of a reader's cells, written. -/
def wr11 (W : World) (R : Nat) (v : Value) (o : Bool) (num : Int) (nm : ByteArray) (bare : Bool) (s : Rw) : World :=
  ((((((((((W.setCell ⟨R, 0, none⟩ v).setCell ⟨R, 1, none⟩ (.bool o)).setCell ⟨R, 2, none⟩ (.int .i64 num)).setCell ⟨R, 3, none⟩ (.string nm)).setCell ⟨R, 4, none⟩ (.bool bare)).setCell ⟨R, 5, none⟩ (.int .i64 s.a)).setCell ⟨R, 6, none⟩ (.int .i64 s.b)).setCell ⟨R, 7, none⟩ (.string (bs s.gc))).setCell ⟨R, 8, none⟩ (.int .i64 s.ccc)).setCell ⟨R, 9, none⟩ (.string (bs s.bd))).setCell ⟨R, 10, none⟩ (.slice s.dp s.dm s.dc)
theorem wr11_other {W : World} {R k : Nat} {v : Value} {o : Bool} {num : Int} {nm : ByteArray} {bare : Bool} {s : Rw} (h : k ≠ R) : (wr11 W R v o num nm bare s).heap[k]? = W.heap[k]? := by
  have e : ∀ (X : World) (i : Nat) (u : Value), (X.setCell ⟨R, i, none⟩ u).heap[k]? = X.heap[k]? := fun X i u => heap_setCell_other X ⟨R, i, none⟩ k u (fun e => h (by simpa using e))
  unfold wr11
  rw [e, e, e, e, e, e, e, e, e, e, e]
theorem wr11_size {W : World} {R : Nat} {v : Value} {o : Bool} {num : Int} {nm : ByteArray} {bare : Bool} {s : Rw} : (wr11 W R v o num nm bare s).heap.size = W.heap.size := by
  unfold wr11
  simp only [World.size_setCell]
theorem wr11_below {W w0 : World} {R B : Nat} {v : Value} {o : Bool} {num : Int} {nm : ByteArray} {bare : Bool} {s : Rw} (h : Below B w0 W) (hB : B ≤ R) : Below B w0 (wr11 W R v o num nm bare s) := by
  have e : ∀ (X : World) (i : Nat) (u : Value), Below B w0 X → Below B w0 (X.setCell ⟨R, i, none⟩ u) := fun X i u hx => hx.setCell (p := ⟨R, i, none⟩) hB u
  unfold wr11
  exact e _ _ _ (e _ _ _ (e _ _ _ (e _ _ _ (e _ _ _ (e _ _ _ (e _ _ _ (e _ _ _ (e _ _ _ (e _ _ _ (e _ _ _ h))))))))))
theorem wr11_box {W : World} {R : Nat} {v v' : Value} {o o' : Bool} {num num' : Int} {nm nm' : ByteArray} {bare bare' : Bool} {s s' : Rw} (h : RBx W R v o num nm bare s) : RBx (wr11 W R v' o' num' nm' bare' s') R v' o' num' nm' bare' s' := by
  obtain ⟨⟨h0, h1, h2, h3, h4, h5, h6, h7, h8, h9, h10⟩, hf⟩ := h
  unfold wr11
  exact ⟨⟨by simp [go_sem, h0], by simp [go_sem, h1], by simp [go_sem, h2], by simp [go_sem, h3], by simp [go_sem, h4], by simp [go_sem, h5], by simp [go_sem, h6], by simp [go_sem, h7], by simp [go_sem, h8], by simp [go_sem, h9], by simp [go_sem, h10]⟩, fun i => by simp only [World.frozen?_setCell]; exact hf i⟩
theorem is_lt {W : World} {u : Rw} {p : Pr} (h : Is W u p) (hd : 0 < u.dm) {a : Addr} (ha : u.dp = some a) : a.block < W.heap.size := by
  obtain ⟨b, off, e, hlt, -⟩ := h.2.2.2.2.2.2.2 hd
  rw [ha] at e
  cases e
  exact hlt
/-- One more row has been read. -/
theorem add_done {w W w3 : World} {R base N gg cap : Nat} {v : Value} {ls : List Rw} {t : Rw} {ps : List Pr} {num n1 : Int} {m1 : ByteArray} {b1 o nb : Bool} {s1 : Rw} {f : List (List UInt8)} {ob : Obj}
    (hx : RBx W R v o n1 m1 b1 s1) (hN : ls.length = N) (hr : RRows R base v ls ps W) (hvw : ∀ k, v.ownBlock = some k → k < w.heap.size) (hRw : R < w.heap.size) (hwW : w.heap.size ≤ W.heap.size)
    (hown : w3.ownsRow base 36 6 (.slice (some ⟨gg, 0, none⟩) (N + 1) cap) (N + 1) (rwvs ls ++ [.int .i64 t.a, .int .i64 t.b, .string (bs t.gc), .int .i64 t.ccc, .string (bs t.bd), .slice t.dp t.dm t.dc])) (hg : ((W.alloc ob).drew).grownBy w3 v.ownBlock) (hat : v.ownBlock = some gg ∨ gg = W.heap.size + 1)
    (hi : Is W t (rowVal f)) (hfr : ∀ a, t.dp = some a → w.heap.size ≤ a.block) (hnb : nb = namedB (fld f 1) nmF) :
    RdrI R base (ps ++ [rowVal f]) (if namedB (fld f 1) nmF = true then some (num, f) else none) (wr11 w3 R (.slice (some ⟨gg, 0, none⟩) (N + 1) cap) nb num (bs (fld f 1)) (decide (fld f 5 = [])) t) ∧
    Hold (GA R) W (wr11 w3 R (.slice (some ⟨gg, 0, none⟩) (N + 1) cap) nb num (bs (fld f 1)) (decide (fld f 5 = [])) t) ∧ Below R W (wr11 w3 R (.slice (some ⟨gg, 0, none⟩) (N + 1) cap) nb num (bs (fld f 1)) (decide (fld f 5 = [])) t) := by
  obtain ⟨ho, hist, hap, hRb⟩ := hr
  have hsz : W.heap.size + 1 ≤ w3.heap.size := by have := hg.size; simpa [World.drew] using this
  have blk0 : ∀ k, k < W.heap.size → v.ownBlock ≠ some k → w3.heap[k]? = W.heap[k]? := fun k hk hne => by
    rw [hg.block k (by simp [World.drew]; omega) (fun e => hne e.symm)]
    exact Below.heap_alloc W ob k hk
  have hRo : v.ownBlock ≠ some R := fun e => by have := (ho.lt R e).1; omega
  have hggR : gg ≠ R := by have := (hown.lt gg rfl).1; omega
  have hx3 : RBx w3 R v o n1 m1 b1 s1 := rbx_block hx (blk0 R (by omega) hRo)
  have hxx := wr11_box (v' := .slice (some ⟨gg, 0, none⟩) (N + 1) cap) (o' := nb) (num' := num) (nm' := bs (fld f 1)) (bare' := decide (fld f 5 = [])) (s' := t) hx3
  have blk : ∀ k, k < W.heap.size → k ≠ R → v.ownBlock ≠ some k → (wr11 w3 R (.slice (some ⟨gg, 0, none⟩) (N + 1) cap) nb num (bs (fld f 1)) (decide (fld f 5 = [])) t).heap[k]? = W.heap[k]? := fun k h1 h2 h3 => by rw [wr11_other h2, blk0 k h1 h3]
  have hapt : ∀ u ∈ ls ++ [t], 0 < u.dm → ∀ a, u.dp = some a → a.block < W.heap.size ∧ v.ownBlock ≠ some a.block ∧ R < a.block ∧ gg ≠ a.block := by
    intro u hu hd a ha
    have hlt : a.block < W.heap.size := by
      rcases List.mem_append.1 hu with h | h
      · obtain ⟨p, -, hp⟩ := ist_mem hist h
        exact is_lt hp hd ha
      · rw [List.mem_singleton.1 h] at ha hd
        exact is_lt hi hd ha
    have hother : v.ownBlock ≠ some a.block ∧ R < a.block := by
      rcases List.mem_append.1 hu with h | h
      · exact hap u h hd a ha
      · rw [List.mem_singleton.1 h] at ha
        have := hfr a ha
        exact ⟨fun e => by have := hvw _ e; omega, by omega⟩
    refine ⟨hlt, hother.1, hother.2, fun e => ?_⟩
    rcases hat with h | h
    · exact hother.1 (by rw [h, e])
    · omega
  refine ⟨⟨.slice (some ⟨gg, 0, none⟩) (N + 1) cap, ls ++ [t], num, fld f 1, decide (fld f 5 = []), t, ?_, ⟨?_, ?_, ?_, hRb⟩, ?_, ?_⟩, ?_, ?_⟩
  · have e : (if namedB (fld f 1) nmF = true then some ((num, f) : Ln) else none).isSome = nb := by
      rw [hnb]
      cases namedB (fld f 1) nmF <;> rfl
    rw [e]
    exact hxx
  · rw [List.length_append, List.length_singleton, hN, ← rwvs_snoc]
    exact own_block hown fun k e => by
      have e : some gg = some k := e
      cases e
      exact wr11_other hggR
  · exact Ist.blocks (W := W) (by rw [wr11_size]; omega) (Ist.snoc hi hist) fun u hu hd a ha _ => by
      obtain ⟨h1, h2, h3, -⟩ := hapt u hu hd a ha
      exact blk _ h1 (Nat.ne_of_gt h3) h2
  · intro u hu hd a ha
    obtain ⟨h1, h2, h3, h4⟩ := hapt u hu hd a ha
    exact ⟨fun e => by have e : some gg = some a.block := e; cases e; exact h4 rfl, h3⟩
  · intro x hxe
    split at hxe
    · cases hxe
      exact ⟨rfl, rfl, rfl, hi.1, hi.2.2.1, hi.2.2.2.1, hi.2.2.2.2.1⟩
    · cases hxe
  · intro _
    simp
  · exact hold_two hx.1.1 (by rw [wr11_size]; omega) (fun k hk h1 h2 => blk k hk h1 h2) hxx.1.1 (fun k hk e => by
      have e : some gg = some k := e
      cases e
      rcases hat with h | h
      · exact h
      · omega)
  · exact wr11_below ((below_drew ((Below.refl R W).alloc (by omega) ob)).grown hg (by simp [World.drew]; omega) (fun g e => by have := (ho.lt g e).1; omega)) (Nat.le_refl _)
end Go.Proofs.YtfmkhfjdihfppaaDoor
