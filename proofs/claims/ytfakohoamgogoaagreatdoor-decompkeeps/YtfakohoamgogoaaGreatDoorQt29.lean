/- The program's read: what stands between its steps; no walk. -/
import Derived.Test.YtfakohoamgogoaaGreatDoorQt28
import Derived.Test.YtfakohoamgogoaaGreatDoorQt22
namespace Go.Proofs.YtfakohoamgogoaaGreatDoor
open Go.RowKit

/-- What read hands back. -/
def readP (f : Nat → List UInt8) : Nat → Nat → Wh
  | 0, _ => if (cfF f).err = 0 then ⟨0, 0, 0⟩ else ⟨7, (cfF f).num, (cfF f).err⟩
  | n + 1, i => if (prF f i).err = 0 then readP f n (i + 1) else ⟨2 + (i : Int), (prF f i).num, (prF f i).err⟩
def readOf (f : Nat → List UInt8) : Wh := if (uF f).err = 0 then readP f 5 0 else ⟨1, (uF f).num, (uF f).err⟩
theorem readp_load (f : Nat → List UInt8) (ps : List Uc.Pr) : ∀ n i, (readP f n i = ⟨0, 0, 0⟩ ∧ loadP f ps n i = load2 ps (spF f) (cfF f).rows) ∨ (¬ (readP f n i).err = 0 ∧ loadP f ps n i = (readP f n i, none))
  | 0, i => by
    by_cases h : (cfF f).err = 0
    · left; rw [readP, loadP, load1, if_pos h, if_pos h]; exact ⟨rfl, rfl⟩
    · right; rw [readP, loadP, load1, if_neg h, if_neg h]; exact ⟨h, rfl⟩
  | n + 1, i => by
    by_cases h : (prF f i).err = 0
    · rw [readP, loadP, if_pos h, if_pos h]; exact readp_load f ps n (i + 1)
    · right; rw [readP, loadP, if_neg h, if_neg h]; exact ⟨h, rfl⟩
theorem read_load (f : Nat → List UInt8) : (readOf f = ⟨0, 0, 0⟩ ∧ loadOf f = load2 (uF f).rows (spF f) (cfF f).rows) ∨ (¬ (readOf f).err = 0 ∧ loadOf f = (readOf f, none)) := by
  by_cases h : (uF f).err = 0
  · rw [readOf, loadOf, if_pos h, if_pos h]; exact readp_load f _ 5 0
  · right; rw [readOf, loadOf, if_neg h, if_neg h]; exact ⟨h, rfl⟩
def ReadPost (f : Nat → List UInt8) (w0 : World) (b : Nat) (e : Ending) (w' : World) : Prop :=
  e = .returned (whV (readOf f)) ∧ Below w0.heap.size w0 w' ∧ (readOf f = ⟨0, 0, 0⟩ → PF w' b (uF f).rows (spF f) (cfF f).rows ∧ Odd w' b ∧ w'.cell? ⟨b, 7, none⟩ = some (.map none) ∧ w'.frozen? ⟨b, 7, none⟩ = false)
/-- The bundle's cells, the result's, the data's. -/
structure RB (w0 w W : World) (bv g : Nat → Value) (b : Nat) : Prop where
  bel : Below w0.heap.size w0 W
  low : w0.heap.size ≤ b ∧ b < w.heap.size
  bun : ∀ i, i < 7 → W.cell? ⟨w.heap.size, i, none⟩ = some (bv i)
  res : ∀ i, i < 3 → W.cell? ⟨w.heap.size + 1, i, none⟩ = some (.int .i64 0)
  fro : ∀ i, W.frozen? ⟨w.heap.size + 1, i, none⟩ = false
  odd : Odd W b
  frb : ∀ i, W.frozen? ⟨b, i, none⟩ = false
  dat : ∀ i, i < 8 → W.cell? ⟨b, i, none⟩ = some (g i)
theorem RB.lt {w0 w W : World} {bv g : Nat → Value} {b : Nat} (h : RB w0 w W bv g b) : w.heap.size + 1 < W.heap.size := World.block_lt_of_cell? W _ (h.res 0 (by omega))
theorem RB.below {w0 w W W' : World} {bv g : Nat → Value} {b : Nat} (h : RB w0 w W bv g b) (hb : Below W.heap.size W W') : RB w0 w W' bv g b := by
  have hl := h.lt
  have ho := h.odd.lt
  exact ⟨h.bel.trans (hb.mono h.bel.size), h.low, fun i hi => (hb.cell (p := ⟨w.heap.size, i, none⟩) (show w.heap.size < _ by omega)).trans (h.bun i hi), fun i hi => (hb.cell (p := ⟨w.heap.size + 1, i, none⟩) hl).trans (h.res i hi), fun i => (hb.frozen (p := ⟨w.heap.size + 1, i, none⟩) hl).trans (h.fro i), h.odd.below ho hb, fun i => (hb.frozen (p := ⟨b, i, none⟩) ho).trans (h.frb i), fun i hi => (hb.cell (p := ⟨b, i, none⟩) ho).trans (h.dat i hi)⟩
theorem RB.set {w0 w W : World} {bv g : Nat → Value} {b : Nat} (h : RB w0 w W bv g b) {k : Nat} (hk : k < 8) {v : Value} (hv : PtV v) : RB w0 w (W.setCell ⟨b, k, none⟩ v) bv (put1 g k v) b := by
  have hc := chg_set W b k v
  obtain ⟨l1, l2⟩ := h.low
  refine ⟨h.bel.setCell (p := ⟨b, k, none⟩) l1 _, h.low, fun i hi => (hc.cell (p := ⟨w.heap.size, i, none⟩) (show w.heap.size ≠ b by omega)).trans (h.bun i hi), fun i hi => (hc.cell (p := ⟨w.heap.size + 1, i, none⟩) (show w.heap.size + 1 ≠ b by omega)).trans (h.res i hi), fun i => by rw [World.frozen?_setCell]; exact h.fro i, h.odd.set (h.dat k hk) hv, fun i => by rw [World.frozen?_setCell]; exact h.frb i, fun i hi => ?_⟩
  by_cases e : i = k
  · subst e
    rw [put1_at]
    exact World.cell?_setCell_same _ _ _ (h.dat i hk)
  · rw [put1_else g _ e]
    exact (World.cell?_setCell_other _ _ _ _ (by intro q; injection q with q1 q2; exact e q2.symm)).trans (h.dat i hi)
theorem RB.rs {w0 w W : World} {bv g : Nat → Value} {b : Nat} (h : RB w0 w W bv g b) : W.cell? ⟨w.heap.size + 1, 0, none⟩ = some (.int .i64 0) ∧ W.cell? ⟨w.heap.size + 1, 1, none⟩ = some (.int .i64 0) ∧ W.cell? ⟨w.heap.size + 1, 2, none⟩ = some (.int .i64 0) ∧ ∀ i, W.frozen? ⟨w.heap.size + 1, i, none⟩ = false :=
  ⟨h.res 0 (by omega), h.res 1 (by omega), h.res 2 (by omega), h.fro⟩
/-- What is read so far. -/
structure RS (f : Nat → List UInt8) (W : World) (g vv : Nat → Value) (k : Nat) : Prop where
  uni : ∃ p, g 0 = .pointer p ∧ UniT W p (uF f).rows
  prs : ∀ j, j < k → ∃ p, g (1 + j) = .pointer p ∧ PrpT W p (spF f j)
  vls : ∀ j, j < 5 → ∃ V cv, vv j = .slice V (valsOf (2 + j)).length cv ∧ Vals W V (valsOf (2 + j)).length (strs (valsOf (2 + j)))
  rst : ∀ j, k ≤ j → j < 6 → g (1 + j) = .pointer none
  mak : g 7 = .map none
theorem RS.below {f : Nat → List UInt8} {W W' : World} {g vv : Nat → Value} {k : Nat} (h : RS f W g vv k) (hb : Below W.heap.size W W') : RS f W' g vv k := by
  refine ⟨?_, fun j hj => ?_, fun j hj => ?_, h.rst, h.mak⟩
  · obtain ⟨p, h1, h2⟩ := h.uni; exact ⟨p, h1, uniT_below hb h2⟩
  · obtain ⟨p, h1, h2⟩ := h.prs j hj; exact ⟨p, h1, prpT_below hb h2⟩
  · obtain ⟨V, cv, h1, h2⟩ := h.vls j hj; exact ⟨V, cv, h1, h2.below hb⟩
theorem RS.put {f : Nat → List UInt8} {W : World} {g vv : Nat → Value} {k b : Nat} {p : Option Addr} (h : RS f W g vv k) (ho : Odd W b) (hk : k < 5) (hp : PrpT W p (spF f k)) : RS f (W.setCell ⟨b, 1 + k, none⟩ (.pointer p)) (put1 g (1 + k) (.pointer p)) vv (k + 1) := by
  have hc := chg_set W b (1 + k) (.pointer p)
  refine ⟨?_, fun j hj => ?_, fun j hj => ?_, fun j hj hj6 => ?_, ?_⟩
  · obtain ⟨q, h1, h2⟩ := h.uni; exact ⟨q, by rw [put1_else g _ (by omega)]; exact h1, uniT_odd ho hc h2⟩
  · by_cases e : j = k
    · subst e; exact ⟨p, put1_at _ _ _, prpT_odd ho hc hp⟩
    · obtain ⟨q, h1, h2⟩ := h.prs j (by omega); exact ⟨q, by rw [put1_else g _ (by omega)]; exact h1, prpT_odd ho hc h2⟩
  · obtain ⟨V, cv, h1, h2⟩ := h.vls j hj; exact ⟨V, cv, h1, strs_odd ho hc h2⟩
  · rw [put1_else g _ (by omega)]; exact h.rst j (by omega) hj6
  · rw [put1_else g _ (by omega)]; exact h.mak
/-- The result's cells are set: something is wrong. -/
theorem read_bad {f : Nat → List UInt8} {w0 w W : World} {bv g : Nat → Value} {b : Nat} {x y z : Int} (h : RB w0 w W bv g b) (hl : readOf f = ⟨x, y, z⟩) (hz : ¬ z = 0) : ReadPost f w0 b (.returned (.agg #[.int .i64 x, .int .i64 y, .int .i64 z])) (setR w W x y z) := by
  have k : w0.heap.size ≤ w.heap.size + 1 := by have := h.low; omega
  refine ⟨by rw [hl]; rfl, ((h.bel.setCell (p := ⟨w.heap.size + 1, 0, none⟩) k _).setCell (p := ⟨w.heap.size + 1, 1, none⟩) k _).setCell (p := ⟨w.heap.size + 1, 2, none⟩) k _, fun e => ?_⟩
  rw [hl] at e
  injection e with _ _ e
  exact absurd e hz
/-- A cell is set to what it holds. -/
theorem below_self {W : World} {b i : Nat} {v : Value} (n : Nat) (h : W.cell? ⟨b, i, none⟩ = some v) : Below n W (W.setCell ⟨b, i, none⟩ v) := by
  refine ⟨rfl, rfl, rfl, by simp, fun k _ => ?_⟩
  simp only [World.setCell, Array.getElem?_modify]
  split
  · rename_i e
    subst e
    unfold World.cell? at h
    cases hb : W.heap[b]? with
    | none => rfl
    | some o =>
      rw [hb] at h
      cases o with
      | cells c t fr =>
        simp at h
        simp only [Option.map_some]
        congr 2
        simp
        apply Array.ext_getElem?
        intro j
        rw [Array.getElem?_setIfInBounds]
        split
        · rename_i e
          subst e
          split
          · exact h.symm
          · rename_i hj
            rw [Array.getElem?_eq_none (by omega)]
        · rfl
      | _ => rfl
  · rfl
/-- All is read. -/
theorem read_ok {f : Nat → List UInt8} {w0 w W : World} {bv g vv : Nat → Value} {b : Nat} {p : Option Addr} (h : RB w0 w W bv g b) (hs : RS f W g vv 5) (hl : readOf f = ⟨0, 0, 0⟩) (hp : Cf.CT W p (cfF f).rows) : ReadPost f w0 b (.returned (.agg #[.int .i64 0, .int .i64 0, .int .i64 0])) (setR w (W.setCell ⟨b, 6, none⟩ (.pointer p)) 0 0 0) := by
  have hR := h.set (k := 6) (by omega) (v := .pointer p) (.inl ⟨p, rfl⟩)
  have h0 : Below W.heap.size (W.setCell ⟨b, 6, none⟩ (.pointer p)) (setR w (W.setCell ⟨b, 6, none⟩ (.pointer p)) 0 0 0) := by
    obtain ⟨r0, r1, r2, -⟩ := hR.rs
    have b1 := below_self W.heap.size r0
    have b2 := below_self W.heap.size ((b1.cell (p := ⟨w.heap.size + 1, 1, none⟩) h.lt).trans r1)
    exact (b1.trans b2).trans (below_self W.heap.size (((b1.trans b2).cell (p := ⟨w.heap.size + 1, 2, none⟩) h.lt).trans r2))
  have hsz : (W.setCell ⟨b, 6, none⟩ (.pointer p)).heap.size = W.heap.size := by simp
  rw [← hsz] at h0
  have hF := hR.below h0
  have hc := chg_set W b 6 (.pointer p)
  refine ⟨by rw [hl]; rfl, hF.bel, fun _ => ⟨⟨?_, fun i hi => ?_, ?_⟩, hF.odd, ?_, hF.frb 7⟩⟩
  · obtain ⟨q, h1, h2⟩ := hs.uni
    obtain ⟨A, c, ls, h3, h4⟩ := uniT_below h0 (uniT_odd h.odd hc h2)
    exact ⟨q, A, c, ls, by rw [hF.dat 0 (by omega), put1_else g _ (by omega), h1], h3, h4⟩
  · obtain ⟨q, h1, h2⟩ := hs.prs i hi
    obtain ⟨A, c, h3⟩ := prpT_below h0 (prpT_odd h.odd hc h2)
    exact ⟨q, A, c, by rw [hF.dat (1 + i) (by omega), put1_else g _ (by omega), h1], h3⟩
  · exact ⟨p, by rw [hF.dat 6 (by omega), put1_at], (ct_odd h.odd hc hp).below h0⟩
  · rw [hF.dat 7 (by omega), put1_else g _ (by omega), hs.mak]
end Go.Proofs.YtfakohoamgogoaaGreatDoor
