/- The document's own Parse: what stands between two lines; no walk. -/
import Derived.Test.YtfmkhfjdihfppaaDoorRrok
import Derived.Test.YtfmkhfjdihfppaaDoorPpre
namespace Go.Proofs.YtfmkhfjdihfppaaDoor
open Go.RowKit Go.Shelf Go.Sort

/-- Row, of whatever fields. -/
theorem row22_any (F : Option Addr) (n cf : Nat) (f : List (List UInt8)) (w : World) (hV : Vals w F n (strs f)) (hfl : ∀ x ∈ f, x.length ≤ 2000) : Calls Tryd.prog 22 #[.slice F n cf] w (RowPost f w) := by
  by_cases hn : n = 15
  · subst hn
    cases hp : point (fld f 0) with
    | none => exact row22_hex F cf f w hV hfl hp
    | some c =>
      cases ho : okB f with
      | false => exact row22_val F cf f w hV hfl c hp ho
      | true => exact row22_ok F cf f w hV hfl c hp ho
  · exact row22_len F n cf f w hV hn
/-- The rows so far, of the call's own. -/
def RpRows (base : Nat) (v : Value) (ls : List Rw) (ps : List Pr) (W : World) : Prop :=
  W.ownsRow base 36 6 v ls.length (rwvs ls) ∧ Ist W ls ps ∧ ∀ t ∈ ls, 0 < t.dm → ∀ a, t.dp = some a → v.ownBlock ≠ some a.block
theorem rp_nil (base : Nat) (W : World) : RpRows base (.slice none 0 0) [] [] W := ⟨World.ownsRow_nil _ _ _ _, trivial, fun t h => by cases h⟩
theorem RpRows.below {base : Nat} {v : Value} {ls : List Rw} {ps : List Pr} {W W' : World} (h : RpRows base v ls ps W) (hb : Below W.heap.size W W') : RpRows base v ls ps W' :=
  ⟨own_below h.1 hb (Nat.le_refl _), h.2.1.below hb, h.2.2⟩
/-- One more row. wO: where the rows lay when the row was read: its code points are newer. -/
theorem rp_add {W w3 : World} {base N gg cap wO nw : Nat} {v : Value} {ls : List Rw} {t : Rw} {ps : List Pr} {p : Pr} {Wa : World} (hN : ls.length = N) (hr : RpRows base v ls ps W) (hvw : ∀ k, v.ownBlock = some k → k < wO) (hWa : Below W.heap.size W Wa) (hbase : base ≤ W.heap.size)
    (hown : w3.ownsRow base 36 6 (.slice (some ⟨gg, 0, none⟩) (N + 1) cap) (N + 1) (rwvs ls ++ [.int .i64 t.a, .int .i64 t.b, .string (bs t.gc), .int .i64 t.ccc, .string (bs t.bd), .slice t.dp t.dm t.dc])) (hg : Wa.grownBy w3 v.ownBlock) (hat : v.ownBlock = some gg ∨ gg = nw) (hnw : W.heap.size ≤ nw)
    (hi : Is W t p) (hfr : ∀ a, t.dp = some a → wO ≤ a.block) : RpRows base (.slice (some ⟨gg, 0, none⟩) (N + 1) cap) (ls ++ [t]) (ps ++ [p]) w3 ∧ Below base W w3 := by
  obtain ⟨ho, hist, hap⟩ := hr
  have hsz : W.heap.size ≤ w3.heap.size := Nat.le_trans hWa.size hg.size
  have blk0 : ∀ k, k < W.heap.size → v.ownBlock ≠ some k → w3.heap[k]? = W.heap[k]? := fun k hk hne => by
    rw [hg.block k (Nat.lt_of_lt_of_le hk hWa.size) (fun e => hne e.symm)]
    exact hWa.block k hk
  have hapt : ∀ u ∈ ls ++ [t], 0 < u.dm → ∀ a, u.dp = some a → a.block < W.heap.size ∧ v.ownBlock ≠ some a.block ∧ gg ≠ a.block := by
    intro u hu hd a ha
    have hlt : a.block < W.heap.size := by
      rcases List.mem_append.1 hu with h | h
      · obtain ⟨p, -, hp⟩ := ist_mem hist h
        exact is_lt hp hd ha
      · rw [List.mem_singleton.1 h] at ha hd
        exact is_lt hi hd ha
    have hother : v.ownBlock ≠ some a.block := by
      rcases List.mem_append.1 hu with h | h
      · exact hap u h hd a ha
      · rw [List.mem_singleton.1 h] at ha
        have := hfr a ha
        exact fun e => by have := hvw _ e; omega
    refine ⟨hlt, hother, fun e => ?_⟩
    rcases hat with h | h
    · exact hother (by rw [h, e])
    · omega
  refine ⟨⟨?_, ?_, ?_⟩, ?_⟩
  · rw [List.length_append, List.length_singleton, hN, ← rwvs_snoc]
    exact hown
  · exact Ist.blocks (W := W) hsz (Ist.snoc hi hist) fun u hu hd a ha _ => have h := hapt u hu hd a ha; blk0 _ h.1 h.2.1
  · intro u hu hd a ha e
    have e : some gg = some a.block := e
    injection e with e
    exact (hapt u hu hd a ha).2.2 e
  · have h1 : Below base W Wa := hWa.mono hbase
    exact ⟨hg.os.trans h1.os, hg.tape.trans h1.tape, hg.output.trans h1.output, hsz, fun k hk => blk0 k (Nat.lt_of_lt_of_le hk hbase) fun e => by have := (ho.lt k e).1; omega⟩
/-- Between two lines. w1: the world once the lines are read. -/
def RpI (w1 : World) (L : List Ln) (i v : Value) (wr : World) : Prop :=
  ∃ (k : Nat) (ls : List Rw) (ps : List Pr), i = .int .i64 k ∧ k ≤ L.length ∧ (refP ps (L.drop k) = parseOf L ∧ ps.length ≤ k) ∧ RpRows w1.heap.size v ls ps wr ∧ Below w1.heap.size w1 wr
theorem rp_start (w1 : World) (L : List Ln) : RpI w1 L (.int .i64 (0 : Nat)) (.slice none 0 0) w1 := ⟨0, [], [], rfl, Nat.zero_le _, ⟨rfl, Nat.le_refl _⟩, rp_nil _ _, Below.refl _ _⟩
/-- What it hands back. -/
def RefPost (L : List Ln) (w : World) (e : Ending) (w' : World) : Prop :=
  Below w.heap.size w w' ∧ ∃ A c ls, e = .returned (.tuple #[.slice A ls.length c, .int .i64 (parseOf L).err, .int .i64 (parseOf L).num]) ∧ RAt w' A ls.length ls ∧ Ist w' ls (parseOf L).rows
theorem ref_bad {L : List Ln} {w w' : World} {e n : Int} (h : parseOf L = ⟨[], e, n⟩) (hb : Below w.heap.size w w') : RefPost L w (.returned (.tuple #[.slice none 0 0, .int .i64 e, .int .i64 n])) w' :=
  ⟨hb, none, 0, [], by rw [h]; rfl, RAt.nil _ _, by rw [h]; exact trivial⟩
/-! How a line is read. -/
theorem refp_err {ps : List Pr} {x : Ln} {t : List Ln} (h : ¬ rowErr x.2 = 0) : refP ps (x :: t) = ⟨[], rowErr x.2, x.1⟩ := by rw [refP.eq_def]; simp only []; rw [if_pos h]
theorem refp_twice {ps : List Pr} {x : Ln} {t : List Ln} (h : rowErr x.2 = 0) (h2 : twice ps (rowVal x.2) = true) : refP ps (x :: t) = ⟨[], 15, x.1⟩ := by rw [refP.eq_def]; simp only []; rw [if_neg (by simpa using h), if_pos h2]
theorem refp_one {ps : List Pr} {x : Ln} {t : List Ln} (h : rowErr x.2 = 0) (h2 : twice ps (rowVal x.2) = false) (h3 : namedB (fld x.2 1) nmF = false) : refP ps (x :: t) = refP (ps ++ [rowVal x.2]) t := by
  rw [refP.eq_def]; simp only []; rw [if_neg (by simpa using h), if_neg (by rw [h2]; simp), if_neg (by rw [h3]; simp)]
theorem refp_end {ps : List Pr} {x : Ln} (h : rowErr x.2 = 0) (h2 : twice ps (rowVal x.2) = false) (h3 : namedB (fld x.2 1) nmF = true) : refP ps [x] = ⟨[], 14, x.1⟩ := by
  rw [refP.eq_def]; simp only []; rw [if_neg (by simpa using h), if_neg (by rw [h2]; simp), if_pos h3]
theorem refp_err2 {ps : List Pr} {x y : Ln} {t : List Ln} (h : rowErr x.2 = 0) (h2 : twice ps (rowVal x.2) = false) (h3 : namedB (fld x.2 1) nmF = true) (h4 : ¬ rowErr y.2 = 0) : refP ps (x :: y :: t) = ⟨[], rowErr y.2, y.1⟩ := by
  rw [refP.eq_def]; simp only []; rw [if_neg (by simpa using h), if_neg (by rw [h2]; simp), if_pos h3, if_pos h4]
theorem refp_join {ps : List Pr} {x y : Ln} {t : List Ln} (h : rowErr x.2 = 0) (h2 : twice ps (rowVal x.2) = false) (h3 : namedB (fld x.2 1) nmF = true) (h4 : rowErr y.2 = 0) (h5 : joinB x.2 y.2 = false) : refP ps (x :: y :: t) = ⟨[], 14, x.1⟩ := by
  rw [refP.eq_def]; simp only []; rw [if_neg (by simpa using h), if_neg (by rw [h2]; simp), if_pos h3, if_neg (by simpa using h4), if_pos h5]
theorem refp_two {ps : List Pr} {x y : Ln} {t : List Ln} (h : rowErr x.2 = 0) (h2 : twice ps (rowVal x.2) = false) (h3 : namedB (fld x.2 1) nmF = true) (h4 : rowErr y.2 = 0) (h5 : joinB x.2 y.2 = true) : refP ps (x :: y :: t) = refP (ps ++ [{ rowVal x.2 with b := (rowVal y.2).a }]) t := by
  rw [refP.eq_def]; simp only []; rw [if_neg (by simpa using h), if_neg (by rw [h2]; simp), if_pos h3, if_neg (by simpa using h4), if_neg (by rw [h5]; simp)]
end Go.Proofs.YtfmkhfjdihfppaaDoor
