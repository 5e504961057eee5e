/- Two rows that say the same are told so by the document's own Same. -/
/- What the program's Parse and the document's own hand back, told alike; no walk. -/
/- What holds between two rows, where they are counted and held against the document's own; no walk. -/
import Derived.Test.YtfmkhfjdihfppaaDoorGood
import Derived.Test.YtfmkhfjdihfppaaDoorInts
import Derived.Test.YtfmkhfjdihfppaaDoorRpar
import Derived.Test.YtfmkhfjdihfppaaDoorRisp
namespace Go.Proofs.YtfmkhfjdihfppaaDoor
open Go.RowKit

set_option maxRecDepth 100000 in
set_option maxHeartbeats 2000000 in
theorem same11 (s t : Rw) (p : Pr) (w : World) (hs : Is w s p) (ht : Is w t p) (hd : p.dec.length ≤ 1000) :
    Calls Tryd.prog 11 #[rwV s, rwV t] w fun e w' => e = .returned (.bool true) ∧ Below w.heap.size w w' := by
  obtain ⟨a, b, gc, ccc, bd, dp, dm, dc⟩ := s
  obtain ⟨a', b', gc', ccc', bd', dp', dm', dc'⟩ := t
  obtain ⟨h1, h2, h3, h4, h5, h6, h7⟩ := hs
  obtain ⟨k1, k2, k3, k4, k5, k6, k7⟩ := ht
  dsimp only at h1 h2 h3 h4 h5 h6 h7 k1 k2 k3 k4 k5 k6 k7
  rw [h1, h2, h3, h4, h5, k1, k2, k3, k4, k5]
  rw [h6] at h7
  rw [k6] at k7
  have hb : ∀ o1 o2, Below w.heap.size w ((w.alloc o1).alloc o2) := fun o1 o2 => ((Below.refl _ _).alloc (Nat.le_refl _) _).alloc (by simp) _
  have c17 := fun o1 o2 => same17 dp dp' p.dec.length dc dc' (p.dec.map fun c : Nat => (c : Int)) ((w.alloc o1).alloc o2) (h7.below (hb o1 o2)) (k7.below (hb o1 o2)) (by omega)
  rw [h6, k6]
  obtain ⟨A, hA⟩ : ∃ x, p.a = x := ⟨_, rfl⟩
  obtain ⟨B, hB⟩ : ∃ x, p.b = x := ⟨_, rfl⟩
  obtain ⟨G, hG⟩ : ∃ x, bs p.gc = x := ⟨_, rfl⟩
  obtain ⟨C, hC⟩ : ∃ x, p.ccc = x := ⟨_, rfl⟩
  obtain ⟨D, hD⟩ : ∃ x, bs p.bd = x := ⟨_, rfl⟩
  obtain ⟨M, hM⟩ : ∃ x, p.dec.length = x := ⟨_, rfl⟩
  unfold rwV
  dsimp only
  rw [hM] at c17 hd
  rw [hA, hB, hG, hC, hD, hM]
  have C17 := Lib.hid c17
  have HB := Lib.hid hb
  clear c17 hb h1 h2 h3 h4 h5 h6 h7 k1 k2 k3 k4 k5 k6 k7 hA hB hG hC hD hM
  go_enter Tryd.func11, Tryd.ntmps11
  go_wp2_with (go_at_call 17; (with_reducible refine (C17.out _ _).mono ?_); rintro e w' ⟨rfl, q, rfl⟩)
  go_ret
  exact ⟨rfl, below_drewN (HB.out _ _) q⟩
end Go.Proofs.YtfmkhfjdihfppaaDoor

namespace Go.Proofs.YtfmkhfjdihfppaaDoor
open Go.RowKit Go.Shelf

theorem num_zero : ∀ (l : List Ln) (out : List Pr), (refP out l).err = 0 → (refP out l).num = 0
  | [], out => by rw [refP]; intro _; rfl
  | x :: t, out => by
    rw [refP.eq_def]
    simp only []
    split
    · rename_i h; intro h2; exact absurd h2 h
    split
    · intro h; exact absurd (show (15 : Int) = 0 from h) (by decide)
    split
    · cases t with
      | nil => intro h; exact absurd (show (14 : Int) = 0 from h) (by decide)
      | cons y t' =>
        simp only []
        split
        · rename_i h; intro h2; exact absurd h2 h
        split
        · intro h; exact absurd (show (14 : Int) = 0 from h) (by decide)
        exact num_zero t' _
    · exact num_zero t _
theorem lines_fields {l : List UInt8} {N : Nat} (hN : l.length ≤ N) : ∀ x ∈ linesIn l, ∀ f ∈ x.2, f.length ≤ N := by
  intro y h
  unfold linesIn at h
  rw [List.mem_filterMap] at h
  obtain ⟨x, hx, e⟩ := h
  obtain ⟨p, hp, hb⟩ := numbered_mem 1 _ x hx
  unfold lineOf at e
  split at e
  · cases e
  · cases e
    show ∀ f ∈ fieldsOf x.2, f.length ≤ N
    refine fields_len ?_
    rw [hb]
    have h2 := body_length p
    have h3 := cutAll_mem_length 10 l p hp
    omega
theorem lines_num {l : List UInt8} : (linesIn l).length ≤ l.length + 1 := by
  rw [← lines_pieces]
  have h1 := List.length_filterMap_le lineOf (numbered 1 (pieces l))
  rw [numbered_length] at h1
  have h2 := pieces_length l
  omega
/-- What Parse hands back: there is a table. -/
theorem parse_ok (A : Option Addr) (n c : Nat) (l : List UInt8) (w : World) (hO : Octs w A n l) (hn : n ≤ 2000) (hM : ML w) (he : (parseOf (linesIn l)).err = 0) : Calls Tryd.prog 8 #[.slice A n c] w fun e w' =>
    ∃ b A c ls, e = .returned (.tuple #[.pointer (some ⟨b, 0, none⟩), .int .i64 0, .int .i64 0]) ∧ Hid (Below w.heap.size w w' ∧ w.heap.size ≤ b ∧ TIn w' (some ⟨b, 0, none⟩) A c ls ∧ Ist w' ls (parseOf (linesIn l)).rows ∧ Fresh w.heap.size A ls) :=
  (parse8 A n c l w hO hn hM).mono (by
    rintro e w' ⟨hb, ⟨-, b, A, c, ls, rfl, hbb, hT, hI, hF⟩ | ⟨h1, -⟩⟩
    · exact ⟨b, A, c, ls, rfl, Lib.hid ⟨hb, hbb, hT, hI, hF⟩⟩
    · exact absurd he h1)
/-- There is none. -/
theorem parse_no (A : Option Addr) (n c : Nat) (l : List UInt8) (w : World) (hO : Octs w A n l) (hn : n ≤ 2000) (hM : ML w) (he : ¬ (parseOf (linesIn l)).err = 0) : Calls Tryd.prog 8 #[.slice A n c] w fun e w' =>
    ∃ A c ls, e = .returned (.tuple #[.pointer none, .int .i64 (parseOf (linesIn l)).err, .int .i64 (parseOf (linesIn l)).num]) ∧ Hid (Below w.heap.size w w' ∧ TIn w' none A c ls ∧ Ist w' ls (parseOf (linesIn l)).rows) :=
  (parse8 A n c l w hO hn hM).mono (by
    rintro e w' ⟨hb, ⟨h1, -⟩ | ⟨-, rfl⟩⟩
    · exact absurd h1 he
    · refine ⟨none, 0, [], rfl, Lib.hid ⟨hb, TIn.none _, ?_⟩⟩
      rw [show (parseOf (linesIn l)).rows = [] from err_rows _ _ he]
      exact trivial)
/-- Whatever there is. -/
theorem parse_any (A : Option Addr) (n c : Nat) (l : List UInt8) (w : World) (hO : Octs w A n l) (hn : n ≤ 2000) (hM : ML w) : Calls Tryd.prog 8 #[.slice A n c] w fun e w' =>
    ∃ p A c ls E M, e = .returned (.tuple #[.pointer p, .int .i64 E, .int .i64 M]) ∧ Hid (Below w.heap.size w w' ∧ TIn w' p A c ls ∧ Ist w' ls (parseOf (linesIn l)).rows) := by
  by_cases he : (parseOf (linesIn l)).err = 0
  · refine (parse_ok A n c l w hO hn hM he).mono ?_
    rintro e w' ⟨b, A, c, ls, rfl, h⟩
    exact ⟨_, A, c, ls, _, _, rfl, Lib.hid ⟨h.out.1, h.out.2.2.1, h.out.2.2.2.1⟩⟩
  · refine (parse_no A n c l w hO hn hM he).mono ?_
    rintro e w' ⟨A, c, ls, rfl, h⟩
    exact ⟨none, A, c, ls, _, _, rfl, h⟩
/-- The document's own. -/
theorem ref_any (l : List UInt8) (w : World) (hl : l.length ≤ 2000) : Calls Tryd.prog 9 #[.string (bs l)] w fun e w' =>
    ∃ A n c ls, e = .returned (.tuple #[.slice A n c, .int .i64 (parseOf (linesIn l)).err, .int .i64 (parseOf (linesIn l)).num]) ∧ n = (parseOf (linesIn l)).rows.length ∧ n ≤ 100000 ∧ Hid (Below w.heap.size w w' ∧ RAt w' A n ls ∧ Ist w' ls (parseOf (linesIn l)).rows) :=
  (refparse9 l w hl (lines_fields hl)).mono (by
    rintro e w' ⟨hb, A, c, ls, rfl, hR, hI⟩
    have h1 := hI.len
    have h2 := len_parse (linesIn l)
    have h3 := lines_num (l := l)
    exact ⟨A, ls.length, c, ls, rfl, h1, by omega, Lib.hid ⟨hb, hR, hI⟩⟩)
end Go.Proofs.YtfmkhfjdihfppaaDoor

namespace Go.Proofs.YtfmkhfjdihfppaaDoor
open Go.RowKit Go.Shelf Go.Sort

/-- Between two rows: so many have been gone through. -/
def UaI (most bn : Nat) (w w4 : World) (xs : List RwP) (W : World) : Prop :=
  xs.length ≤ most ∧ ((W.cell? ⟨bn, 0, none⟩ = some (.int .i64 (xs.length : Nat)) ∧ W.frozen? ⟨bn, 0, none⟩ = false) ∧ (Kept (fun k => k ≠ bn) w4 W ∧ Below w.heap.size w W))
/-- A round has left by a break. -/
def UaX (id most bn : Nat) (w w4 : World) (c : Code) (xs : List RwP) (W : World) : Prop :=
  (c = .exit id ∧ xs.length = most + 1) ∧ ((W.cell? ⟨bn, 0, none⟩ = some (.int .i64 (most : Nat)) ∧ W.frozen? ⟨bn, 0, none⟩ = false) ∧ (Kept (fun k => k ≠ bn) w4 W ∧ Below w.heap.size w W))
theorem uai_abide (most bn : Nat) (w w4 : World) (hw : w.heap.size ≤ w4.heap.size) : Abide 0 0 w4.heap.size (UaI most bn w w4) :=
  Abide.and (Abide.pure _ _ _ (fun xs : List RwP => xs.length ≤ most)) (Abide.and (abide_cell (n₀ := 0) (n₁ := 0) (fun (_ : List RwP) => ⟨bn, 0, none⟩) (fun (xs : List RwP) => .int .i64 (xs.length : Nat)) (fun _ => by omega)) (Abide.and (abide_kept _ w4 (fun k _ hk => ⟨hk, by omega⟩)) (abide_below w (.inr (by omega)) hw (Nat.le_refl _))))
theorem uax_abide (id most bn : Nat) (w w4 : World) (hw : w.heap.size ≤ w4.heap.size) (c : Code) : Abide 0 0 w4.heap.size (UaX id most bn w w4 c) :=
  Abide.and (Abide.pure _ _ _ (fun xs : List RwP => c = .exit id ∧ xs.length = most + 1)) (Abide.and (abide_cell (n₀ := 0) (n₁ := 0) (fun (_ : List RwP) => ⟨bn, 0, none⟩) (fun (_ : List RwP) => .int .i64 (most : Nat)) (fun _ => by omega)) (Abide.and (abide_kept _ w4 (fun k _ hk => ⟨hk, by omega⟩)) (abide_below w (.inr (by omega)) hw (Nat.le_refl _))))
/-- The six cells of the loop's variable. -/
def RwBx (x : RwP) (b : Nat) (W : World) : Prop :=
  W.cell? ⟨b, 0, none⟩ = some (.int .i64 x.1.a) ∧ (W.cell? ⟨b, 1, none⟩ = some (.int .i64 x.1.b) ∧ (W.cell? ⟨b, 2, none⟩ = some (.string (bs x.1.gc)) ∧ (W.cell? ⟨b, 3, none⟩ = some (.int .i64 x.1.ccc) ∧ (W.cell? ⟨b, 4, none⟩ = some (.string (bs x.1.bd)) ∧ W.cell? ⟨b, 5, none⟩ = some (.slice x.1.dp x.1.dm x.1.dc)))))
theorem rwBx_abide (x : RwP) (b B : Nat) : Abide 0 0 B (fun (_ : Unit) W => RwBx x b W) :=
  Abide.and (cell_abide _ _) (Abide.and (cell_abide _ _) (Abide.and (cell_abide _ _) (Abide.and (cell_abide _ _) (Abide.and (cell_abide _ _) (cell_abide _ _)))))
theorem ua_next {most bn : Nat} {w w4 W : World} {pre : List RwP} {x : RwP} (h : UaI most bn w w4 pre W) (hm : pre.length < most) (hb : w.heap.size ≤ bn) (d : Nat) (os : Array Obj) :
    Kept (fun k => k ≠ bn) W ((grow (redrawn W d) os).setCell ⟨bn, 0, none⟩ (.int .i64 ((pre.length : Int) + 1))) ∧ UaI most bn w w4 (pre ++ [x]) ((grow (redrawn W d) os).setCell ⟨bn, 0, none⟩ (.int .i64 ((pre.length : Int) + 1))) := by
  have hbl := below_regrown W d os
  have hk1 : Kept (fun k => k ≠ bn) W ((grow (redrawn W d) os).setCell ⟨bn, 0, none⟩ (.int .i64 ((pre.length : Int) + 1))) := (Kept.of_below hbl).trans (Kept.setCell _ _ _ (by simp))
  obtain ⟨h0, ⟨h1, h2⟩, h5, h6⟩ := h
  have hLl := World.block_lt_of_cell? W _ h1
  have c1 := cell_regrown h1 d os
  have f1 := (hbl.frozen (p := ⟨bn, 0, none⟩) hLl).trans h2
  refine ⟨hk1, by rw [List.length_append, List.length_singleton]; omega, ⟨?_, ?_⟩, h5.trans hk1, (h6.trans (hbl.mono h6.size)).setCell (p := ⟨bn, 0, none⟩) hb _⟩
  · rw [List.length_append, List.length_singleton]
    exact (World.cell?_setCell_same' _ _ _ (by rw [c1]; rfl)).trans (by simp)
  · rw [World.frozen?_setCell]; exact f1
theorem getp {ps pre : List Pr} {p : Pr} (h : pre ++ [p] <+: ps) : ps[pre.length]? = some p := by
  obtain ⟨r, rfl⟩ := h
  simp
/-- The document's own row that stands at the same place. -/
theorem ref_row {W : World} {ls : List Rw} {ps pre : List Pr} {p : Pr} {k : Nat} (hI : Ist W ls ps) (h : pre ++ [p] <+: ps) (hk : pre.length = k) : k < ps.length ∧ ∃ s, ls[k]? = some s ∧ Is W s p := by
  have h1 := getp h
  rw [hk] at h1
  have hl := (List.getElem?_eq_some_iff.1 h1).1
  refine ⟨hl, ?_⟩
  have hl2 : k < ls.length := by rw [hI.len]; exact hl
  obtain ⟨q, hq, hi⟩ := hI.get (List.getElem?_eq_getElem hl2)
  rw [h1] at hq
  cases hq
  exact ⟨_, List.getElem?_eq_getElem hl2, hi⟩
end Go.Proofs.YtfmkhfjdihfppaaDoor
