/- What the program's take does where no range is open: one more row. -/
/- The program's take, where it adds a row: the walk. -/
import Derived.Test.YtfakohoamgogoaaGreatDoorQt20
import Derived.Deep.RegionLaw
namespace Go.Proofs.YtfakohoamgogoaaGreatDoor.Uc
open Go.RowKit Go.Shelf Go.Sort

/-- All of a reader's cells, written. -/
def wr11 (W : World) (R : Nat) (v : Value) (o : Bool) (num : Int) (nm : ByteArray) (bare : Bool) (s : Rw) : World :=
  ((((((((((W.setCell ⟨R, 0, none⟩ v).setCell ⟨R, 1, none⟩ (.bool o)).setCell ⟨R, 2, none⟩ (.int .i64 num)).setCell ⟨R, 3, none⟩ (.string nm)).setCell ⟨R, 4, none⟩ (.bool bare)).setCell ⟨R, 5, none⟩ (.int .i64 s.a)).setCell ⟨R, 6, none⟩ (.int .i64 s.b)).setCell ⟨R, 7, none⟩ (.string (bs s.gc))).setCell ⟨R, 8, none⟩ (.int .i64 s.ccc)).setCell ⟨R, 9, none⟩ (.string (bs s.bd))).setCell ⟨R, 10, none⟩ (.slice s.dp s.dm s.dc)
theorem wr11_other {W : World} {R k : Nat} {v : Value} {o : Bool} {num : Int} {nm : ByteArray} {bare : Bool} {s : Rw} (h : k ≠ R) : (wr11 W R v o num nm bare s).heap[k]? = W.heap[k]? := by
  have e : ∀ (X : World) (i : Nat) (u : Value), (X.setCell ⟨R, i, none⟩ u).heap[k]? = X.heap[k]? := fun X i u => heap_setCell_other X ⟨R, i, none⟩ k u (fun e => h (by simpa using e))
  unfold wr11
  rw [e, e, e, e, e, e, e, e, e, e, e]
theorem wr11_size {W : World} {R : Nat} {v : Value} {o : Bool} {num : Int} {nm : ByteArray} {bare : Bool} {s : Rw} : (wr11 W R v o num nm bare s).heap.size = W.heap.size := by
  unfold wr11
  simp only [World.size_setCell]
theorem wr11_below {W w0 : World} {R B : Nat} {v : Value} {o : Bool} {num : Int} {nm : ByteArray} {bare : Bool} {s : Rw} (h : Below B w0 W) (hB : B ≤ R) : Below B w0 (wr11 W R v o num nm bare s) := by
  have e : ∀ (X : World) (i : Nat) (u : Value), Below B w0 X → Below B w0 (X.setCell ⟨R, i, none⟩ u) := fun X i u hx => hx.setCell (p := ⟨R, i, none⟩) hB u
  unfold wr11
  exact e _ _ _ (e _ _ _ (e _ _ _ (e _ _ _ (e _ _ _ (e _ _ _ (e _ _ _ (e _ _ _ (e _ _ _ (e _ _ _ (e _ _ _ h))))))))))
theorem wr11_box {W : World} {R : Nat} {v v' : Value} {o o' : Bool} {num num' : Int} {nm nm' : ByteArray} {bare bare' : Bool} {s s' : Rw} (h : RBx W R v o num nm bare s) : RBx (wr11 W R v' o' num' nm' bare' s') R v' o' num' nm' bare' s' := by
  obtain ⟨⟨h0, h1, h2, h3, h4, h5, h6, h7, h8, h9, h10⟩, hf⟩ := h
  unfold wr11
  exact ⟨⟨by simp [go_sem, h0], by simp [go_sem, h1], by simp [go_sem, h2], by simp [go_sem, h3], by simp [go_sem, h4], by simp [go_sem, h5], by simp [go_sem, h6], by simp [go_sem, h7], by simp [go_sem, h8], by simp [go_sem, h9], by simp [go_sem, h10]⟩, fun i => by simp only [World.frozen?_setCell]; exact hf i⟩
theorem is_lt {W : World} {u : Rw} {p : Pr} (h : Is W u p) (hd : 0 < u.dm) {a : Addr} (ha : u.dp = some a) : a.block < W.heap.size := by
  obtain ⟨b, off, e, hlt, -⟩ := h.2.2.2.2.2.2.2 hd
  rw [ha] at e
  cases e
  exact hlt
/-- One more row has been read. -/
theorem add_done {w W w3 : World} {R base N gg cap : Nat} {v : Value} {ls : List Rw} {t : Rw} {ps : List Pr} {num n1 : Int} {m1 : ByteArray} {b1 o nb : Bool} {s1 : Rw} {f : List (List UInt8)} {ob : Obj}
    (hx : RBx W R v o n1 m1 b1 s1) (hN : ls.length = N) (hr : RRows R base v ls ps W) (hvw : ∀ k, v.ownBlock = some k → k < w.heap.size) (hRw : R < w.heap.size) (hwW : w.heap.size ≤ W.heap.size)
    (hown : w3.ownsRow base 59 6 (.slice (some ⟨gg, 0, none⟩) (N + 1) cap) (N + 1) (rwvs ls ++ [.int .i64 t.a, .int .i64 t.b, .string (bs t.gc), .int .i64 t.ccc, .string (bs t.bd), .slice t.dp t.dm t.dc])) (hg : ((W.alloc ob).drew).grownBy w3 v.ownBlock) (hat : v.ownBlock = some gg ∨ gg = W.heap.size + 1)
    (hi : Is W t (rowVal f)) (hfr : ∀ a, t.dp = some a → w.heap.size ≤ a.block) (hnb : nb = namedB (fld f 1) nmF) :
    RdrI R base (ps ++ [rowVal f]) (if namedB (fld f 1) nmF = true then some (num, f) else none) (wr11 w3 R (.slice (some ⟨gg, 0, none⟩) (N + 1) cap) nb num (bs (fld f 1)) (decide (fld f 5 = [])) t) ∧
    Hold (GA R) W (wr11 w3 R (.slice (some ⟨gg, 0, none⟩) (N + 1) cap) nb num (bs (fld f 1)) (decide (fld f 5 = [])) t) ∧ Below R W (wr11 w3 R (.slice (some ⟨gg, 0, none⟩) (N + 1) cap) nb num (bs (fld f 1)) (decide (fld f 5 = [])) t) := by
  obtain ⟨ho, hist, hap, hRb⟩ := hr
  have hsz : W.heap.size + 1 ≤ w3.heap.size := by have := hg.size; simpa [World.drew] using this
  have blk0 : ∀ k, k < W.heap.size → v.ownBlock ≠ some k → w3.heap[k]? = W.heap[k]? := fun k hk hne => by
    rw [hg.block k (by simp [World.drew]; omega) (fun e => hne e.symm)]
    exact Below.heap_alloc W ob k hk
  have hRo : v.ownBlock ≠ some R := fun e => by have := (ho.lt R e).1; omega
  have hggR : gg ≠ R := by have := (hown.lt gg rfl).1; omega
  have hx3 : RBx w3 R v o n1 m1 b1 s1 := rbx_block hx (blk0 R (by omega) hRo)
  have hxx := wr11_box (v' := .slice (some ⟨gg, 0, none⟩) (N + 1) cap) (o' := nb) (num' := num) (nm' := bs (fld f 1)) (bare' := decide (fld f 5 = [])) (s' := t) hx3
  have blk : ∀ k, k < W.heap.size → k ≠ R → v.ownBlock ≠ some k → (wr11 w3 R (.slice (some ⟨gg, 0, none⟩) (N + 1) cap) nb num (bs (fld f 1)) (decide (fld f 5 = [])) t).heap[k]? = W.heap[k]? := fun k h1 h2 h3 => by rw [wr11_other h2, blk0 k h1 h3]
  have hapt : ∀ u ∈ ls ++ [t], 0 < u.dm → ∀ a, u.dp = some a → a.block < W.heap.size ∧ v.ownBlock ≠ some a.block ∧ R < a.block ∧ gg ≠ a.block := by
    intro u hu hd a ha
    have hlt : a.block < W.heap.size := by
      rcases List.mem_append.1 hu with h | h
      · obtain ⟨p, -, hp⟩ := ist_mem hist h
        exact is_lt hp hd ha
      · rw [List.mem_singleton.1 h] at ha hd
        exact is_lt hi hd ha
    have hother : v.ownBlock ≠ some a.block ∧ R < a.block := by
      rcases List.mem_append.1 hu with h | h
      · exact hap u h hd a ha
      · rw [List.mem_singleton.1 h] at ha
        have := hfr a ha
        exact ⟨fun e => by have := hvw _ e; omega, by omega⟩
    refine ⟨hlt, hother.1, hother.2, fun e => ?_⟩
    rcases hat with h | h
    · exact hother.1 (by rw [h, e])
    · omega
  refine ⟨⟨.slice (some ⟨gg, 0, none⟩) (N + 1) cap, ls ++ [t], num, fld f 1, decide (fld f 5 = []), t, ?_, ⟨?_, ?_, ?_, hRb⟩, ?_, ?_⟩, ?_, ?_⟩
  · have e : (if namedB (fld f 1) nmF = true then some ((num, f) : Ln) else none).isSome = nb := by
      rw [hnb]
      cases namedB (fld f 1) nmF <;> rfl
    rw [e]
    exact hxx
  · rw [List.length_append, List.length_singleton, hN, ← rwvs_snoc]
    exact own_block hown fun k e => by
      have e : some gg = some k := e
      cases e
      exact wr11_other hggR
  · exact Ist.blocks (W := W) (by rw [wr11_size]; omega) (Ist.snoc hi hist) fun u hu hd a ha _ => by
      obtain ⟨h1, h2, h3, -⟩ := hapt u hu hd a ha
      exact blk _ h1 (Nat.ne_of_gt h3) h2
  · intro u hu hd a ha
    obtain ⟨h1, h2, h3, h4⟩ := hapt u hu hd a ha
    exact ⟨fun e => by have e : some gg = some a.block := e; cases e; exact h4 rfl, h3⟩
  · intro x hxe
    split at hxe
    · cases hxe
      exact ⟨rfl, rfl, rfl, hi.1, hi.2.2.1, hi.2.2.2.1, hi.2.2.2.2.1⟩
    · cases hxe
  · intro _
    simp
  · exact hold_two hx.1.1 (by rw [wr11_size]; omega) (fun k hk h1 h2 => blk k hk h1 h2) hxx.1.1 (fun k hk e => by
      have e : some gg = some k := e
      cases e
      rcases hat with h | h
      · exact h
      · omega)
  · exact wr11_below ((below_drew ((Below.refl R W).alloc (by omega) ob)).grown hg (by simp [World.drew]; omega) (fun g e => by have := (ho.lt g e).1; omega)) (Nat.le_refl _)
end Go.Proofs.YtfakohoamgogoaaGreatDoor.Uc

namespace Go.Proofs.YtfakohoamgogoaaGreatDoor.Uc
open Go.RowKit Go.Shelf Go.Sort

theorem TkW.below {w : World} {num : Int} {R eb : Nat} {v : Value} {n1 : Int} {m1 : ByteArray} {b1 : Bool} {s1 : Rw} {nm : ByteArray} {bare : Bool} {t : Rw} {W W' : World} (h : TkW w num R eb v n1 m1 b1 s1 nm bare t W) (hb : Below W.heap.size W W') : TkW w num R eb v n1 m1 b1 s1 nm bare t W' := by
  obtain ⟨⟨l0, bx⟩, hx, hB, h1, h2⟩ := h
  exact ⟨⟨(hb.cell (p := ⟨w.heap.size, 0, none⟩) (by show w.heap.size < _; omega)).trans l0, bx.below h2 hb⟩, hx.below hb, hB.trans (hb.mono hB.size), h1, Nat.lt_of_lt_of_le h2 hb.size⟩
theorem box9_block {w w' : World} {b : Nat} {v0 v1 v2 v3 v4 v5 v6 v7 v8 : Value} (h : Box9 w b v0 v1 v2 v3 v4 v5 v6 v7 v8) (he : w'.heap[b]? = w.heap[b]?) : Box9 w' b v0 v1 v2 v3 v4 v5 v6 v7 v8 := by
  obtain ⟨⟨h0, h1, h2, h3, h4, h5, h6, h7, h8⟩, hf⟩ := h
  have c : ∀ i u, w.cell? ⟨b, i, none⟩ = some u → w'.cell? ⟨b, i, none⟩ = some u := fun i u hu => (World.cell?_of_block (a := ⟨b, i, none⟩) he).trans hu
  exact ⟨⟨c _ _ h0, c _ _ h1, c _ _ h2, c _ _ h3, c _ _ h4, c _ _ h5, c _ _ h6, c _ _ h7, c _ _ h8⟩, fun i => (World.frozen?_of_block (a := ⟨b, i, none⟩) he).trans (hf i)⟩
theorem grow_block {W w3 : World} {ob : Obj} {row : Option Nat} {R : Nat} (hg : ((W.alloc ob).drew).grownBy w3 row) (hR : R < W.heap.size) (hne : row ≠ some R) : w3.heap[R]? = W.heap[R]? :=
  (hg.block R (by simp [World.drew]; omega) (fun e => hne e.symm)).trans (Below.heap_alloc W ob R hR)
theorem grow_cell {W w3 : World} {ob : Obj} {row : Option Nat} {R i : Nat} {v : Value} (hg : ((W.alloc ob).drew).grownBy w3 row) (hR : R < W.heap.size) (hne : row ≠ some R) (hc : W.cell? ⟨R, i, none⟩ = some v) : w3.cell? ⟨R, i, none⟩ = some v := by
  have e := hg.block R (by simp [World.drew]; omega) (fun e => hne e.symm)
  exact (World.cell?_of_block (a := ⟨R, i, none⟩) (e.trans (Below.heap_alloc W ob R hR))).trans hc
theorem grow_frozen {W w3 : World} {ob : Obj} {row : Option Nat} {R i : Nat} (hg : ((W.alloc ob).drew).grownBy w3 row) (hR : R < W.heap.size) (hne : row ≠ some R) (hc : W.frozen? ⟨R, i, none⟩ = false) : w3.frozen? ⟨R, i, none⟩ = false := by
  have e := hg.block R (by simp [World.drew]; omega) (fun e => hne e.symm)
  exact (World.frozen?_of_block (a := ⟨R, i, none⟩) (e.trans (Below.heap_alloc W ob R hR))).trans hc
def TakeAdd (R base : Nat) (ps : List Pr) (y : Ln) (w : World) (e : Ending) (w' : World) : Prop :=
  e = .returned (.tuple #[.int .i64 0, .int .i64 0]) ∧ Hold (GA R) w w' ∧ Below R w w' ∧ RdrI R base (ps ++ [rowVal y.2]) (if namedB (fld y.2 1) nmF = true then some y else none) w'
theorem own_slice {w : World} {base n : Nat} {e : TypeId} {size : Nat} {v : Value} {xs : List Value} (h : w.ownsRow base e size v n xs) : ∃ A c, v = .slice A n c := by
  rcases h.2 with ⟨rfl, h0⟩ | ⟨g, cap, cur, rfl, -⟩
  · exact ⟨none, 0, by rw [h0]⟩
  · exact ⟨_, cap, rfl⟩
/-- The test of a code point told twice is passed. -/
theorem not_twice {ls : List Rw} {ps : List Pr} {w : World} {r : Pr} (hi : Ist w ls ps) (ht : ¬ twice ps r = true) : ls = [] ∨ ∃ m tl, ls = m ++ [tl] ∧ ¬ r.a ≤ tl.b := by
  rcases Nat.eq_zero_or_pos ls.length with h | h
  · exact .inl (List.eq_nil_of_length_eq_zero h)
  · obtain ⟨m, tl, rfl⟩ := snoc_of h
    obtain ⟨qs, q, rfl, -, hq⟩ := hi.unsnoc
    refine .inr ⟨m, tl, rfl, fun hle => ht ?_⟩
    unfold twice
    rw [lastB_snoc]
    exact decide_eq_true (by rw [← hq.2.1]; exact hle)
set_option maxRecDepth 100000 in
set_option maxHeartbeats 4000000 in
theorem take20_add (R base : Nat) (ps : List Pr) (num : Int) (F : Option Addr) (n : Nat) (f : List (List UInt8)) (w : World) (c34 : ∀ W, Below w.heap.size w W → Calls Tryz.prog 120 #[.agg #[.int .i64 num, .slice F n n]] W (EntOk num f W)) (hI : RdrI R base ps none w) (hp : ps.length ≤ 1000000) (hl : (fld f 1).length ≤ 1000000) (ht : ¬ twice ps (rowVal f) = true) (hbase : base ≤ w.heap.size) :
    Calls Tryz.prog 93 #[.pointer (some ⟨R, 0, none⟩), .agg #[.int .i64 num, .slice F n n]] w (TakeAdd R base ps (num, f) w) := by
  obtain ⟨i0, hi, hz0, hz1, hz2⟩ := info_parts info36
  have hb : Below w.heap.size w (w.alloc (.cells #[.int .i64 num, .slice F n n] 156)) := (Below.refl _ _).alloc (Nat.le_refl _) _
  have k34 := c34 _ hb
  unfold EntOk at k34
  obtain ⟨v, ls, n1, m1, b1, s1, hx, hr, -, -⟩ := hI
  have hlen := hr.2.1.len
  obtain ⟨A, ca, rfl⟩ := own_slice hr.1
  have hcase := not_twice hr.2.1 ht
  have hlast : ∀ m tl, ls = m ++ [tl] → ∃ g, A = some ⟨g, 0, none⟩ ∧ g < w.heap.size ∧ w.cell? ⟨g, m.length * 6 + 1, none⟩ = some (.int .i64 tl.b) := by
    rintro m tl rfl
    obtain ⟨g, cap, e, -, -⟩ := hr.1.form (by simp)
    cases e
    refine ⟨g, rfl, (hr.1.lt g rfl).2, ?_⟩
    rw [hr.1.cellAt _ (by simp; omega)]
    exact (rwvs_get (ls := m ++ [tl]) (j := m.length) (s := tl) (by simp)).2.1
  have hvw : ∀ k, (Value.slice A ls.length ca).ownBlock = some k → k < w.heap.size := fun k e => (hr.1.lt k e).2
  have hRw := hx.lt
  have hRb := hr.2.2.2
  have c36 := fun W => named36 (fld f 1) nmF W hl
  have eF : bs nmF = ⟨#[44, 32, 70, 105, 114, 115, 116, 62]⟩ := rfl
  simp only [eF] at c36
  have HX := Lib.hid hx
  have HR := Lib.hid hr
  have HVW := Lib.hid hvw
  have HLS := Lib.hid hlast
  have HDN := fun (W w3 : World) (gg cap : Nat) (t : Rw) (ob : Obj) hx hr hwW hown hg hat hi hfr => @add_done w W w3 R base ls.length gg cap (.slice A ls.length ca) ls t ps num n1 (bs m1) b1 false (namedB (fld f 1) nmF) s1 f ob hx rfl hr hvw hRw hwW hown hg hat hi hfr rfl
  have HDN := Lib.hid HDN
  obtain ⟨N, hN⟩ : ∃ N, ls.length = N := ⟨_, rfl⟩
  have hNb : N ≤ 1000000 := by omega
  have HNN := Lib.hid hN
  rw [hN] at HX HR HDN
  obtain ⟨S1, hS1⟩ : ∃ S, bs (fld f 1) = S := ⟨_, rfl⟩
  obtain ⟨B5, hB5⟩ : ∃ B, decide (fld f 5 = []) = B := ⟨_, rfl⟩
  obtain ⟨NB, hNB⟩ : ∃ B, namedB (fld f 1) nmF = B := ⟨_, rfl⟩
  rw [hS1, hB5] at k34
  simp only [hS1] at c36
  simp only [hNB] at c36
  have HS1 := Lib.hid hS1
  have HB5 := Lib.hid hB5
  have HNB := Lib.hid hNB
  have C36 := Lib.hid c36
  clear c34 hr ht hx hlen hp c36 eF hvw hlast hS1 hB5 hNB hN hb
  have m3 : N + 1 ≤ maxLen := by unfold maxLen; omega
  have m4 : (N + 1) * 80 ≤ 140737488355328 := by omega
  have hst : (N = 0 ∨ ∃ (M g : Nat) (tl : Rw), N = M + 1 ∧ A = some ⟨g, 0, none⟩ ∧ g < w.heap.size ∧ w.cell? ⟨g, M * 6 + 1, none⟩ = some (.int .i64 tl.b) ∧ ¬ (rowVal f).a ≤ tl.b) := by
    rcases hcase with rfl | ⟨m, tl, rfl, hnle⟩
    · exact .inl (by have := HNN.out; simpa using this.symm)
    · obtain ⟨g, h1, h2, h3⟩ := HLS.out m tl rfl
      exact .inr ⟨m.length, g, tl, by have := HNN.out; rw [← this]; simp, h1, h2, h3, hnle⟩
  clear hcase HLS
  rcases hst with rfl | ⟨M, g, tl, rfl, rfl, hg, hcl, hnle⟩
  · go_enter Tryz.func93, Tryz.ntmps93
    go_wp2_with (go_at_call 120; (with_reducible refine k34.mono ?_); rintro e w1 ⟨hb1, t, rfl, hIs⟩; have TK := Lib.hid (tk_first (nm := S1) (bare := B5) (t := t) HX.out hb1); obtain ⟨⟨l0, ⟨⟨y0, y1, y2, y3, y4, y5, y6, y7, y8⟩, yf⟩⟩, ⟨⟨x0, x1, -⟩, xf⟩, hbw, hel, heb⟩ := TK.out; clear hbw; unfold enV)
    go_quiet (fail)
    go_wp2_with fail
    obtain ⟨W, hW⟩ : ∃ W, (w1.alloc (.cells #[.int .i64 num, .string S1, .bool B5, .int .i64 t.a, .int .i64 t.b, .string (bs t.gc), .int .i64 t.ccc, .string (bs t.bd), .slice t.dp t.dm t.dc] 150)).drewN nq = W := ⟨_, rfl⟩
    have TK2 := Lib.hid (TK.out.below (below_drewN (Below.refl _ _) nq))
    have hb12 : Below w1.heap.size w1 ((w1.alloc (.cells #[.int .i64 num, .string S1, .bool B5, .int .i64 t.a, .int .i64 t.b, .string (bs t.gc), .int .i64 t.ccc, .string (bs t.bd), .slice t.dp t.dm t.dc] 150)).drewN nq) := below_drewN ((Below.refl _ _).alloc (Nat.le_refl _) _) nq
    rw [hW] at TK2 hb12 ⊢
    have HIS := Lib.hid (hIs.out.1.below hb12)
    have HFR : Hid (∀ a, t.dp = some a → w.heap.size ≤ a.block) := Lib.hid (fun a e => by have h1 := hIs.out.2 a e; rw [World.size_alloc] at h1; omega)
    obtain ⟨eb, heq⟩ : ∃ eb, w1.heap.size = eb := ⟨_, rfl⟩
    rw [heq] at TK2 ⊢
    clear hW heq hb12 hb1 hIs TK l0 y0 y1 y2 y3 y4 y5 y6 y7 y8 yf x0 x1 xf hel heb k34 
    obtain ⟨⟨-, hbx⟩, hxW, hbw, hel, heb⟩ := TK2.out
    have HRW := Lib.hid (HR.out.below hbw)
    have HXW := Lib.hid hxW
    have HBX := Lib.hid hbx
    have HBW := Lib.hid hbw
    obtain ⟨⟨y0, y1, y2, y3, y4, y5, y6, y7, y8⟩, yf⟩ := hbx
    obtain ⟨⟨x0, x1, x2, x3, x4, x5, x6, x7, x8, x9, x10⟩, xf⟩ := hxW
    have hown := HRW.out.1
    rw [HNN.out] at hown
    have hwl := hbw.size
    have hRe : ¬ R = eb := by omega
    have heR : ¬ eb = R := by omega
    have hRW : R < W.heap.size := by omega
    have ag : (Value.slice A 0 ca).ownBlock ≠ some eb := fun e => by have := HVW.out eb (by rw [HNN.out]; exact e); omega
    have agR : (Value.slice A 0 ca).ownBlock ≠ some R := fun e => by have := (hown.lt R e).1; omega
    have hbs : base ≤ W.heap.size := by omega
    obtain ⟨T, hT⟩ : ∃ S, bs t.gc = S := ⟨_, rfl⟩
    obtain ⟨U, hU⟩ : ∃ S, bs t.bd = S := ⟨_, rfl⟩
    rw [hT] at y5
    rw [hU] at y7
    have HT := Lib.hid hT
    have HU := Lib.hid hU
    clear hT hU hbw HR HX TK2 hel x2 x3 x4 x5 x6 x7 x8 x9 x10
    go_region_law (refine step_append_lies _ ?a0 (.tmp 56) (.tmp 59) 77 ?a01 base 59 i0 (.agg #[.int .i64 0, .int .i64 0, .string ⟨#[]⟩, .int .i64 0, .string ⟨#[]⟩, .slice none 0 0]) 6 80 ?a1 ?a2 ?a3 ?a4 ?a5 ?a6 ?a7 (.slice A 0 ca) 0 (rwvs ls) ?a8 ?a9 ⟨W.heap.size, 0, none⟩ 1 1 [.int .i64 t.a, .int .i64 t.b, .string T, .int .i64 t.ccc, .string U, .slice t.dp t.dm t.dc] ?b1 ?b2 ?b3 ?b4 ?b5 ?b6 ?b7 ?b8 (W.heap.size + 1) ?b9 ?_; (case a0 => rfl); (case a01 => rfl); (case a1 => exact Tryz.underlying77); (case a2 => exact hi); (case a3 => exact hz0); (case a4 => exact hz1); (case a5 => exact hz2); (case a6 => rfl); (case a7 => omega); (case a8 => first | rfl | (simp [Act.eval, Act.put]; done)); (case a9 => exact ((hown.alloc _).drew)); (case b1 => first | rfl | (simp [Act.eval, Act.put]; done)); (case b2 => rfl); (case b3 => exact (World.news_of_block (cs := #[.int .i64 t.a, .int .i64 t.b, .string T, .int .i64 t.ccc, .string U, .slice t.dp t.dm t.dc]) (t := 59) (fr := (0, 0)) (heap_alloc_new W _))); (case b4 => simp [Value.oneCell']; done); (case b5 => omega); (case b6 => exact m3); (case b7 => exact m4); (case b8 => simp; omega); (case b9 => simp; done); intro gg cap w3 hown3 hgrow hat hlt3; have q0 := grow_cell hgrow hRW agR x0; have qf := grow_frozen hgrow hRW agR (xf 0))
    all_goals
      have hx3 := rbx_block HXW.out (grow_block hgrow hRW agR)
      have hy3 := box9_block HBX.out (grow_block hgrow heb ag)
      have HD := Lib.hid (HDN.out W w3 gg cap t _ HXW.out HRW.out hwl (by rw [HT.out, HU.out]; exact hown3) hgrow hat HIS.out HFR.out)
      rw [HS1.out, HB5.out, HNB.out] at HD
      clear q0 qf hown3 hgrow hat x0 x1 xf y0 y1 y2 y3 y4 y5 y6 y7 y8 yf hown
      obtain ⟨⟨y0, y1, y2, y3, y4, y5, y6, y7, y8⟩, yf⟩ := hy3
      obtain ⟨⟨x0, x1, x2, x3, x4, x5, x6, x7, x8, x9, x10⟩, xf⟩ := hx3
      go_wp2_with (go_at_call 122; (with_reducible refine (C36.out _).mono ?_); rintro e w' ⟨rfl, rfl⟩)
      go_ret2
      refine ⟨rfl, (Hold.of_below (ga_lets R) HBW.out).trans ?_, (HBW.out.mono (by omega)).trans ?_, ?_⟩
      · exact HD.out.2.1
      · exact HD.out.2.2
      · rw [HNB.out]
        exact HD.out.1
  · have HNL := Lib.hid hnle
    clear hnle
    go_enter Tryz.func93, Tryz.ntmps93
    go_wp2_with (go_at_call 120; (with_reducible refine k34.mono ?_); rintro e w1 ⟨hb1, t, rfl, hIs⟩; have TK := Lib.hid (tk_first (nm := S1) (bare := B5) (t := t) HX.out hb1); obtain ⟨⟨l0, ⟨⟨y0, y1, y2, y3, y4, y5, y6, y7, y8⟩, yf⟩⟩, ⟨⟨x0, x1, -⟩, xf⟩, hbw, hel, heb⟩ := TK.out; have hcl2 := (hbw.cell (p := ⟨g, M * 6 + 1, none⟩) hg).trans hcl; have hd : decide (t.a ≤ tl.b) = false := decide_eq_false (by rw [hIs.out.1.1]; exact HNL.out); clear hbw; unfold enV)
    go_quiet (fail)
    go_wp2_with fail
    obtain ⟨W, hW⟩ : ∃ W, (w1.alloc (.cells #[.int .i64 num, .string S1, .bool B5, .int .i64 t.a, .int .i64 t.b, .string (bs t.gc), .int .i64 t.ccc, .string (bs t.bd), .slice t.dp t.dm t.dc] 150)).drewN nq = W := ⟨_, rfl⟩
    have TK2 := Lib.hid (TK.out.below (below_drewN (Below.refl _ _) nq))
    have hb12 : Below w1.heap.size w1 ((w1.alloc (.cells #[.int .i64 num, .string S1, .bool B5, .int .i64 t.a, .int .i64 t.b, .string (bs t.gc), .int .i64 t.ccc, .string (bs t.bd), .slice t.dp t.dm t.dc] 150)).drewN nq) := below_drewN ((Below.refl _ _).alloc (Nat.le_refl _) _) nq
    rw [hW] at TK2 hb12 ⊢
    have HIS := Lib.hid (hIs.out.1.below hb12)
    have HFR : Hid (∀ a, t.dp = some a → w.heap.size ≤ a.block) := Lib.hid (fun a e => by have h1 := hIs.out.2 a e; rw [World.size_alloc] at h1; omega)
    obtain ⟨eb, heq⟩ : ∃ eb, w1.heap.size = eb := ⟨_, rfl⟩
    rw [heq] at TK2 ⊢
    clear hW heq hb12 hb1 hIs TK l0 y0 y1 y2 y3 y4 y5 y6 y7 y8 yf x0 x1 xf hel heb k34 hcl hcl2 hd HNL
    obtain ⟨⟨-, hbx⟩, hxW, hbw, hel, heb⟩ := TK2.out
    have HRW := Lib.hid (HR.out.below hbw)
    have HXW := Lib.hid hxW
    have HBX := Lib.hid hbx
    have HBW := Lib.hid hbw
    obtain ⟨⟨y0, y1, y2, y3, y4, y5, y6, y7, y8⟩, yf⟩ := hbx
    obtain ⟨⟨x0, x1, x2, x3, x4, x5, x6, x7, x8, x9, x10⟩, xf⟩ := hxW
    have hown := HRW.out.1
    rw [HNN.out] at hown
    have hwl := hbw.size
    have hRe : ¬ R = eb := by omega
    have heR : ¬ eb = R := by omega
    have hRW : R < W.heap.size := by omega
    have ag : (Value.slice (some ⟨g, 0, none⟩) (M + 1) ca).ownBlock ≠ some eb := fun e => by have := HVW.out eb (by rw [HNN.out]; exact e); omega
    have agR : (Value.slice (some ⟨g, 0, none⟩) (M + 1) ca).ownBlock ≠ some R := fun e => by have := (hown.lt R e).1; omega
    have hbs : base ≤ W.heap.size := by omega
    obtain ⟨T, hT⟩ : ∃ S, bs t.gc = S := ⟨_, rfl⟩
    obtain ⟨U, hU⟩ : ∃ S, bs t.bd = S := ⟨_, rfl⟩
    rw [hT] at y5
    rw [hU] at y7
    have HT := Lib.hid hT
    have HU := Lib.hid hU
    clear hT hU hbw HR HX TK2 hel x2 x3 x4 x5 x6 x7 x8 x9 x10
    go_region_law (refine step_append_lies _ ?a0 (.tmp 56) (.tmp 59) 77 ?a01 base 59 i0 (.agg #[.int .i64 0, .int .i64 0, .string ⟨#[]⟩, .int .i64 0, .string ⟨#[]⟩, .slice none 0 0]) 6 80 ?a1 ?a2 ?a3 ?a4 ?a5 ?a6 ?a7 (.slice (some ⟨g, 0, none⟩) (M + 1) ca) (M + 1) (rwvs ls) ?a8 ?a9 ⟨W.heap.size, 0, none⟩ 1 1 [.int .i64 t.a, .int .i64 t.b, .string T, .int .i64 t.ccc, .string U, .slice t.dp t.dm t.dc] ?b1 ?b2 ?b3 ?b4 ?b5 ?b6 ?b7 ?b8 (W.heap.size + 1) ?b9 ?_; (case a0 => rfl); (case a01 => rfl); (case a1 => exact Tryz.underlying77); (case a2 => exact hi); (case a3 => exact hz0); (case a4 => exact hz1); (case a5 => exact hz2); (case a6 => rfl); (case a7 => omega); (case a8 => first | rfl | (simp [Act.eval, Act.put]; done)); (case a9 => exact ((hown.alloc _).drew)); (case b1 => first | rfl | (simp [Act.eval, Act.put]; done)); (case b2 => rfl); (case b3 => exact (World.news_of_block (cs := #[.int .i64 t.a, .int .i64 t.b, .string T, .int .i64 t.ccc, .string U, .slice t.dp t.dm t.dc]) (t := 59) (fr := (0, 0)) (heap_alloc_new W _))); (case b4 => simp [Value.oneCell']; done); (case b5 => omega); (case b6 => exact m3); (case b7 => exact m4); (case b8 => simp; omega); (case b9 => simp; done); intro gg cap w3 hown3 hgrow hat hlt3; have q0 := grow_cell hgrow hRW agR x0; have qf := grow_frozen hgrow hRW agR (xf 0))
    all_goals
      have hx3 := rbx_block HXW.out (grow_block hgrow hRW agR)
      have hy3 := box9_block HBX.out (grow_block hgrow heb ag)
      have HD := Lib.hid (HDN.out W w3 gg cap t _ HXW.out HRW.out hwl (by rw [HT.out, HU.out]; exact hown3) hgrow hat HIS.out HFR.out)
      rw [HS1.out, HB5.out, HNB.out] at HD
      clear q0 qf hown3 hgrow hat x0 x1 xf y0 y1 y2 y3 y4 y5 y6 y7 y8 yf hown
      obtain ⟨⟨y0, y1, y2, y3, y4, y5, y6, y7, y8⟩, yf⟩ := hy3
      obtain ⟨⟨x0, x1, x2, x3, x4, x5, x6, x7, x8, x9, x10⟩, xf⟩ := hx3
      go_wp2_with (go_at_call 122; (with_reducible refine (C36.out _).mono ?_); rintro e w' ⟨rfl, rfl⟩)
      go_ret2
      refine ⟨rfl, (Hold.of_below (ga_lets R) HBW.out).trans ?_, (HBW.out.mono (by omega)).trans ?_, ?_⟩
      · exact HD.out.2.1
      · exact HD.out.2.2
      · rw [HNB.out]
        exact HD.out.1
end Go.Proofs.YtfakohoamgogoaaGreatDoor.Uc
