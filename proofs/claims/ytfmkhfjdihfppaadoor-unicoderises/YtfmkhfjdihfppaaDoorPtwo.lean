/- What the program's take does where no range is open: a code point told twice. -/
import Derived.Test.YtfmkhfjdihfppaaDoorPtake
namespace Go.Proofs.YtfmkhfjdihfppaaDoor
open Go.RowKit Go.Shelf Go.Sort

/-- What stands behind readEntry: the line's box, the entry's box, the reader. -/
def TkW (w : World) (num : Int) (R eb : Nat) (v : Value) (n1 : Int) (m1 : ByteArray) (b1 : Bool) (s1 : Rw) (nm : ByteArray) (bare : Bool) (t : Rw) (W : World) : Prop :=
  (W.cell? ⟨w.heap.size, 0, none⟩ = some (.int .i64 num) ∧ Box9 W eb (.int .i64 num) (.string nm) (.bool bare) (.int .i64 t.a) (.int .i64 t.b) (.string (bs t.gc)) (.int .i64 t.ccc) (.string (bs t.bd)) (.slice t.dp t.dm t.dc)) ∧
  (RBx W R v false n1 m1 b1 s1 ∧ Below w.heap.size w W ∧ w.heap.size < eb ∧ eb < W.heap.size)
theorem tk_first {w w1 : World} {num : Int} {F : Option Addr} {n R : Nat} {v : Value} {n1 : Int} {m1 : ByteArray} {b1 : Bool} {s1 : Rw} {nm : ByteArray} {bare : Bool} {t : Rw} (hx : RBx w R v false n1 m1 b1 s1) (hb1 : Below (w.alloc (.cells #[.int .i64 num, .slice F n n] 56)).heap.size (w.alloc (.cells #[.int .i64 num, .slice F n n] 56)) w1) :
    TkW w num R w1.heap.size v n1 m1 b1 s1 nm bare t (w1.alloc (.cells #[.int .i64 num, .string nm, .bool bare, .int .i64 t.a, .int .i64 t.b, .string (bs t.gc), .int .i64 t.ccc, .string (bs t.bd), .slice t.dp t.dm t.dc] 48)) := by
  have hb : Below w.heap.size w (w.alloc (.cells #[.int .i64 num, .slice F n n] 56)) := (Below.refl _ _).alloc (Nat.le_refl _) _
  have hb01 := hb.trans (hb1.mono hb.size)
  have hb02 := ent_alloc (num := num) (nm := nm) (bare := bare) (t := t) hb01
  have hs : w.heap.size < w1.heap.size := by have := hb1.size; rw [World.size_alloc] at this; omega
  have ha : Below w1.heap.size w1 (w1.alloc (.cells #[.int .i64 num, .string nm, .bool bare, .int .i64 t.a, .int .i64 t.b, .string (bs t.gc), .int .i64 t.ccc, .string (bs t.bd), .slice t.dp t.dm t.dc] 48)) := (Below.refl _ _).alloc (Nat.le_refl _) _
  refine ⟨⟨(ha.cell (p := ⟨w.heap.size, 0, none⟩) hs).trans ((hb1.cell (p := ⟨w.heap.size, 0, none⟩) (by show w.heap.size < _; simp)).trans (by simp)), box9_new _ _ _ _ _ _ _ _ _ _ _⟩, hx.below hb02, hb02, hs, by simp⟩
theorem twice_last {ps : List Pr} {r : Pr} (h : twice ps r = true) : 0 < ps.length := by
  cases ps with
  | nil => cases h
  | cons _ _ => simp
set_option maxRecDepth 100000 in
set_option maxHeartbeats 4000000 in
theorem take20_twice (R base : Nat) (ps : List Pr) (num : Int) (F : Option Addr) (n : Nat) (f : List (List UInt8)) (w : World) (c34 : ∀ W, Below w.heap.size w W → Calls Tryd.prog 34 #[.agg #[.int .i64 num, .slice F n n]] W (EntOk num f W)) (hI : RdrI R base ps none w) (hp : ps.length ≤ 1000000) (ht : twice ps (rowVal f) = true) :
    Calls Tryd.prog 20 #[.pointer (some ⟨R, 0, none⟩), .agg #[.int .i64 num, .slice F n n]] w fun e w' => e = .returned (.tuple #[.int .i64 15, .int .i64 num]) ∧ Below w.heap.size w w' := by
  have hb : Below w.heap.size w (w.alloc (.cells #[.int .i64 num, .slice F n n] 56)) := (Below.refl _ _).alloc (Nat.le_refl _) _
  have k34 := c34 _ hb
  unfold EntOk at k34
  obtain ⟨v, ls, n1, m1, b1, s1, hx, hr, -, -⟩ := hI
  have hlen := hr.2.1.len
  have hpos := twice_last ht
  obtain ⟨ls, tl, rfl⟩ := snoc_of (l := ls) (by omega)
  obtain ⟨qs, q, rfl, -, hi⟩ := hr.2.1.unsnoc
  obtain ⟨g, cap, rfl, -, -⟩ := hr.1.form (by simp)
  have hown := hr.1
  rw [List.length_append, List.length_singleton] at hx hown
  obtain ⟨m, hm⟩ : ∃ m, ls.length = m := ⟨_, rfl⟩
  have hmb : m ≤ 1000000 := by rw [List.length_append, List.length_append] at hlen; simp at hlen hp; omega
  have hcl : w.cell? ⟨g, m * 6 + 1, none⟩ = some (.int .i64 tl.b) := by
    rw [← hm, hown.cellAt _ (by omega)]
    have := (rwvs_get (ls := ls ++ [tl]) (j := ls.length) (s := tl) (by simp)).2.1
    exact this
  rw [hm] at hx
  unfold twice at ht
  rw [lastB_snoc] at ht
  have hle : (rowVal f).a ≤ tl.b := by rw [hi.2.1]; exact of_decide_eq_true ht
  have HX := Lib.hid hx
  have hg := (hown.lt g rfl).2
  have HLE := Lib.hid hle
  clear c34 hr hi hown ht hx hlen hpos hm hle hp
  obtain ⟨S1, hS1⟩ : ∃ S, bs (fld f 1) = S := ⟨_, rfl⟩
  obtain ⟨B5, hB5⟩ : ∃ B, decide (fld f 5 = []) = B := ⟨_, rfl⟩
  rw [hS1, hB5] at k34
  clear hS1 hB5 hb
  go_enter Tryd.func20, Tryd.ntmps20
  go_wp2_with (go_at_call 34; (with_reducible refine k34.mono ?_); rintro e w1 ⟨hb1, t, rfl, hIs⟩; have TK := Lib.hid (tk_first (nm := S1) (bare := B5) (t := t) HX.out hb1); obtain ⟨⟨l0, ⟨⟨y0, y1, y2, y3, y4, y5, y6, y7, y8⟩, yf⟩⟩, ⟨⟨x0, x1, -⟩, xf⟩, hbw, hel, heb⟩ := TK.out; have hcl2 := (hbw.cell (p := ⟨g, m * 6 + 1, none⟩) hg).trans hcl; have hta : t.a ≤ tl.b := (by rw [hIs.out.1.1]; exact HLE.out); have hd : decide (t.a ≤ tl.b) = true := decide_eq_true hta; have HBW := Lib.hid hbw; clear hbw; unfold enV)
  go_quiet (fail)
  go_wp2
  go_quiet (fail)
  go_wp2
  go_ret2
  exact ⟨rfl, below_drewN (below_drewN HBW.out _) _⟩
end Go.Proofs.YtfmkhfjdihfppaaDoor
