/- What the program's take does. -/
import Derived.Test.YtfmkhfjdihfppaaDoorPend
import Derived.Deep.RegionHeld3
import Derived.Deep.AppendLies
import Derived.Deep.DeepCutAuto
namespace Go.Proofs.YtfmkhfjdihfppaaDoor
open Go.RowKit Go.Shelf Go.Sort

theorem info36 : (Tryd.prog.info? 36).map (fun i => (i.zero, i.size, i.bytes)) = some (some (.agg #[.int .i64 0, .int .i64 0, .string ⟨#[]⟩, .int .i64 0, .string ⟨#[]⟩, .slice none 0 0]), 6, 80) := by kernel_rfl
set_option maxRecDepth 100000 in
set_option maxHeartbeats 4000000 in
theorem take20_err (R : Nat) (num : Int) (F : Option Addr) (n : Nat) (f : List (List UInt8)) (w : World) (c34 : ∀ W, Below w.heap.size w W → Calls Tryd.prog 34 #[.agg #[.int .i64 num, .slice F n n]] W (EntBad f W)) (he : ¬ rowErr f = 0) :
    Calls Tryd.prog 20 #[.pointer (some ⟨R, 0, none⟩), .agg #[.int .i64 num, .slice F n n]] w fun e w' => e = .returned (.tuple #[.int .i64 (rowErr f), .int .i64 num]) ∧ Below w.heap.size w w' := by
  have hb : Below w.heap.size w (w.alloc (.cells #[.int .i64 num, .slice F n n] 56)) := (Below.refl _ _).alloc (Nat.le_refl _) _
  have k34 := c34 _ hb
  unfold EntBad enV at k34
  have e0 : bs rw0.gc = ⟨#[]⟩ := rfl
  have e1 : bs rw0.bd = ⟨#[]⟩ := rfl
  rw [e0, e1] at k34
  unfold rw0 at k34
  simp only at k34
  obtain ⟨X, hX⟩ : ∃ X, rowErr f = X := ⟨_, rfl⟩
  rw [hX] at he k34 ⊢
  have hx1 : (X == 0) = false := beq_false_of_ne he
  have hx2 : (X != 0) = true := bne_iff_ne.2 he
  have HB := Lib.hid hb
  clear hX he c34 e0 e1 hb
  go_enter Tryd.func20, Tryd.ntmps20
  go_wp2_with (go_at_call 34; (with_reducible refine k34.mono ?_); rintro e w1 ⟨rfl, hb1⟩; have HB1 := Lib.hid hb1; have hn1 := (hb1.cell (p := ⟨w.heap.size, 0, none⟩) (by show w.heap.size < _; simp)).trans (show (w.alloc (.cells #[.int .i64 num, .slice F n n] 56)).cell? ⟨w.heap.size, 0, none⟩ = some (.int .i64 num) by simp); have hl1 : w.heap.size < w1.heap.size := World.block_lt_of_cell? w1 _ hn1; clear hb1)
  go_quiet (fail)
  go_wp2
  go_ret2
  exact ⟨rfl, below_drewN (((HB.out.trans (HB1.out.mono HB.out.size))).alloc (by have := HB1.out.size; have := HB.out.size; omega) _) _⟩
/-- The entry's box, laid. -/
theorem ent_alloc {w w1 : World} {num : Int} {nm : ByteArray} {bare : Bool} {t : Rw} (h : Below w.heap.size w w1) : Below w.heap.size w (w1.alloc (.cells #[.int .i64 num, .string nm, .bool bare, .int .i64 t.a, .int .i64 t.b, .string (bs t.gc), .int .i64 t.ccc, .string (bs t.bd), .slice t.dp t.dm t.dc] 48)) := h.alloc h.size _
def TakeOpen (R base : Nat) (ps : List Pr) (x y : Ln) (w : World) (e : Ending) (w' : World) : Prop :=
  Hold (GA R) w w' ∧ Below R w w' ∧ ((joinB x.2 y.2 = false ∧ e = .returned (.tuple #[.int .i64 14, .int .i64 x.1])) ∨ (joinB x.2 y.2 = true ∧ e = .returned (.tuple #[.int .i64 0, .int .i64 0]) ∧ RdrI R base (setB ps (rowVal y.2).a) none w'))
/-- A contract of end, whatever it answers. -/
theorem end_any {R base : Nat} {ps : List Pr} {x : Ln} {num : Int} {f : List (List UInt8)} {t : Rw} {W : World} (hI : RdrI R base ps (some x) W) (hl : (fld f 1).length ≤ 1000000) (hb : ps.length ≤ 1000000) (ht : t.a = (rowVal f).a ∧ t.gc = (rowVal f).gc ∧ t.ccc = (rowVal f).ccc ∧ t.bd = (rowVal f).bd) :
    Calls Tryd.prog 35 #[.pointer (some ⟨R, 0, none⟩), enV num (bs (fld f 1)) (decide (fld f 5 = [])) t] W fun e w' => ∃ a b, e = .returned (.tuple #[.int .i64 a, .int .i64 b]) ∧ TakeOpen R base ps x (num, f) W e w' := by
  obtain ⟨v, ls, n1, nm, bare, s, hx, hr, ho, hp⟩ := hI
  have hje := join_eq (y := (num, f)) ho ht
  have hlt : R < W.heap.size := hx.lt
  cases hj : joinB x.2 f with
  | false =>
    refine (end35_bad R v true n1 num (bs nm) (fld f 1) bare (decide (fld f 5 = [])) s t W hx hl (hje.trans hj)).mono ?_
    rintro e w' ⟨rfl, hb'⟩
    exact ⟨14, n1, rfl, Hold.of_below (ga_lets R) hb', hb'.mono (Nat.le_of_lt hlt), .inl ⟨hj, by rw [(ho x rfl).1]⟩⟩
  | true =>
    have hlen := hr.2.1.len
    obtain ⟨m, tl, rfl⟩ := snoc_of (l := ls) (by rw [hlen]; exact hp rfl)
    obtain ⟨g, cap, rfl, -, -⟩ := hr.1.form (by simp)
    rw [List.length_append, List.length_singleton] at hx hr hlen
    refine (end35_ok R base g m.length cap m tl ps true n1 num nm (fld f 1) bare (decide (fld f 5 = [])) s t W hx rfl hr (by omega) hl (hje.trans hj)).mono ?_
    rintro e w' ⟨rfl, h1, h2, h3⟩
    rw [ht.1] at h1
    exact ⟨0, 0, rfl, h2, h3, .inr ⟨hj, rfl, h1⟩⟩
theorem open_cell {R base : Nat} {ps : List Pr} {x : Ln} {W : World} (h : RdrI R base ps (some x) W) : W.cell? ⟨R, 1, none⟩ = some (.bool true) := by
  obtain ⟨v, ls, n1, nm, bare, s, hx, -⟩ := h
  exact hx.1.2.1
set_option maxRecDepth 100000 in
set_option maxHeartbeats 4000000 in
theorem take20_open (R base : Nat) (ps : List Pr) (x : Ln) (num : Int) (F : Option Addr) (n : Nat) (f : List (List UInt8)) (w : World) (c34 : ∀ W, Below w.heap.size w W → Calls Tryd.prog 34 #[.agg #[.int .i64 num, .slice F n n]] W (EntOk num f W)) (hI : RdrI R base ps (some x) w) (hl : (fld f 1).length ≤ 1000000) (hp : ps.length ≤ 1000000) :
    Calls Tryd.prog 20 #[.pointer (some ⟨R, 0, none⟩), .agg #[.int .i64 num, .slice F n n]] w (TakeOpen R base ps x (num, f) w) := by
  have hb : Below w.heap.size w (w.alloc (.cells #[.int .i64 num, .slice F n n] 56)) := (Below.refl _ _).alloc (Nat.le_refl _) _
  have k34 := c34 _ hb
  unfold EntOk at k34
  have HB := Lib.hid hb
  have HI := Lib.hid hI
  have c35 := fun (t : Rw) (ht : t.a = (rowVal f).a ∧ t.gc = (rowVal f).gc ∧ t.ccc = (rowVal f).ccc ∧ t.bd = (rowVal f).bd) W (hW : Below w.heap.size w W) => end_any (num := num) (hI.below hW) hl hp ht
  have C35 := Lib.hid c35
  have hR : R < w.heap.size := by obtain ⟨v, ls, n1, nm, bare, s, hx, -⟩ := hI; exact hx.lt
  clear hI hb c34 c35
  obtain ⟨S1, hS1⟩ : ∃ S, bs (fld f 1) = S := ⟨_, rfl⟩
  obtain ⟨B5, hB5⟩ : ∃ B, decide (fld f 5 = []) = B := ⟨_, rfl⟩
  rw [hS1, hB5] at k34
  rw [hS1, hB5] at C35
  clear hS1 hB5
  go_enter Tryd.func20, Tryd.ntmps20
  go_wp2_with (first
    | (go_at_call 34; (with_reducible refine k34.mono ?_); rintro e w1 ⟨hb1, t, rfl, hIs⟩; have hb01 := Lib.hid (HB.out.trans (hb1.mono HB.out.size)); have hb02 := Lib.hid (ent_alloc (num := num) (nm := S1) (bare := B5) (t := t) hb01.out); have ho1 := open_cell (HI.out.below hb02.out); have k35 := C35.out t ⟨hIs.out.1.1, hIs.out.1.2.2.1, hIs.out.1.2.2.2.1, hIs.out.1.2.2.2.2.1⟩ _ hb02.out; unfold enV at k35 ⊢; clear hb1 hIs)
    | (go_at_call 35; (with_reducible refine k35.mono ?_); rintro e w2 ⟨a2, b2, rfl, hT⟩; have HT := Lib.hid hT; clear hT))
  go_ret2
  exact ⟨(Hold.of_below (ga_lets R) hb02.out).trans HT.out.1, (hb02.out.mono (Nat.le_of_lt hR)).trans HT.out.2.1, HT.out.2.2⟩
end Go.Proofs.YtfmkhfjdihfppaaDoor
