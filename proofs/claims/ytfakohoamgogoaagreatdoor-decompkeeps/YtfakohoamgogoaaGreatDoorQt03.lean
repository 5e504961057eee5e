/- A slice of octets; what the program's body of a line is, and a body's fields. -/
/- A world for the rows' witness, which holds the two tables of unicode/utf8 as Go's text lays them; what a slice of integers that came in is. -/
/- A bundle that came in, opened, with the bound on its sizes that the form itself gives (each slice takes at most 2^47 - 4096 octets). -/
/- Decompositions; no program is spoken of. -/
/- Slices that read as lists of rows; no program is spoken of. -/
/- The document's own small ones of layer 7: Korean, touches, Values, Has. -/
/- The document's own touches and Values of layer 7. -/
import Derived.Test.YtfakohoamgogoaaGreatDoorQt01
import Derived.Test.YtfakohoamgogoaaGreatDoorQt02
import Derived.Lib.SplitLaws
import Derived.Lib.Bytes
import Derived.Laws.BytesArg
import Derived.Test.YtfakohoamgogoaaGreatDoorRows
import Derived.Lib.LaidU8T
import Derived.WalkKit
import Derived.ProofKit
import Derived.OpenShut
import Derived.ShutString
import Derived.ChangeOld
import Derived.ChangeMaps5
import Derived.Below
import Derived.LaidSub
import Derived.MakeChecks
import Derived.Deep.DeepHandedRow
import Derived.Test.YtfakohoamgogoaaGreatDoorQt00
import Derived.SizedLaws
import Derived.Test.YtfakohoamgogoaaGreatDoorProg
import Derived.BigQuiet
import Derived.Handy
namespace Go.Proofs.YtfakohoamgogoaaGreatDoor
open Go.RowKit

def ints (l : List UInt8) : List Int := l.map fun c => (c.toNat : Int)
theorem ints_length (l : List UInt8) : (ints l).length = l.length := List.length_map _
theorem ints_bytes (l : List UInt8) : Lib.bytesOf (ints l) = l := by
  unfold Lib.bytesOf ints
  rw [List.map_map]
  conv => rhs; rw [← List.map_id l]
  apply List.map_congr_left
  intro c _
  simp
theorem ints_str (l : List UInt8) : strOfNums (ints l) = bs l := by
  have h := Lib.strOfNums_toList (ints l)
  rw [ints_bytes, Lib.toList_data] at h
  rw [← bs_of (strOfNums (ints l)), h]
theorem ints_range (l : List UInt8) : ∀ x ∈ ints l, 0 ≤ x ∧ x < 256 := by
  intro x hx
  unfold ints at hx
  rw [List.mem_map] at hx
  obtain ⟨c, _, rfl⟩ := hx
  have := c.toNat_lt
  omega
/-- The slice at A of length n reads as the octets l. -/
def Octs (w : World) (A : Option Addr) (n : Nat) (l : List UInt8) : Prop := Vals w A n (nums .u8 (ints l))
theorem Octs.len {w : World} {A : Option Addr} {n : Nat} {l : List UInt8} (h : Octs w A n l) : l.length = n := by
  have := h.1
  unfold nums at this
  rwa [List.length_map, ints_length] at this
theorem Octs.below {w w' : World} {A : Option Addr} {n : Nat} {l : List UInt8} (h : Octs w A n l) (hb : Below w.heap.size w w') : Octs w' A n l := Vals.below h hb
theorem Octs.bytesIn {w : World} {A : Option Addr} {n : Nat} {l : List UInt8} (h : Octs w A n l) : Lib.BytesIn w A n (ints l) := fun hn => by
  obtain ⟨b, off, rfl, _, hc⟩ := h.2 hn
  exact ⟨b, off, rfl, fun i hi => hc i _ (nums_get (by rw [ints_length, h.len]; exact hi))⟩
theorem octs_cells {w : World} {b off n : Nat} {l : List UInt8} (h : Octs w (some ⟨b, off, none⟩) n l) : ∀ j, j < n → w.cell? ⟨b, off + j, none⟩ = some (.int .u8 ((ints l).getD j 0)) := fun j hj => by
  obtain ⟨b', off', e, _, hc⟩ := h.2 (by omega)
  cases e
  exact hc j _ (nums_get (by rw [ints_length, h.len]; exact hj))
theorem octs_of {w : World} {b off n : Nat} {l : List UInt8} (hl : l.length = n) (hb : 0 < n → b < w.heap.size) (h : ∀ j, j < n → w.cell? ⟨b, off + j, none⟩ = some (.int .u8 ((ints l).getD j 0))) : Octs w (some ⟨b, off, none⟩) n l := by
  refine ⟨by unfold nums; rw [List.length_map, ints_length, hl], fun hn => ⟨b, off, rfl, hb hn, fun j v hj => ?_⟩⟩
  have hlt : j < l.length := by
    have := (List.getElem?_eq_some_iff.1 hj).1
    unfold nums at this
    rwa [List.length_map, ints_length] at this
  rw [nums_get (by rw [ints_length]; exact hlt)] at hj
  cases hj
  exact h j (by omega)
theorem ints_get (l : List UInt8) (j : Nat) : (ints l).getD j 0 = oct l j := by
  unfold ints oct
  simp [List.getD_eq_getElem?_getD, List.getElem?_map]
  cases l[j]? <;> rfl
theorem oct_take (l : List UInt8) (k j : Nat) (h : j < k) : oct (l.take k) j = oct l j := by
  unfold oct
  simp [List.getD_eq_getElem?_getD, h]
theorem oct_drop (l : List UInt8) (k j : Nat) : oct (l.drop k) j = oct l (k + j) := by
  unfold oct
  simp [List.getD_eq_getElem?_getD]
theorem Octs.take {w : World} {A : Option Addr} {n : Nat} {l : List UInt8} (h : Octs w A n l) (k : Nat) (hk : k ≤ n) : Octs w A k (l.take k) := by
  have hl := h.len
  rcases Nat.eq_zero_or_pos k with rfl | h0
  · rw [List.take_zero]; exact Vals.nil _ _
  · obtain ⟨b, off, rfl, hb, -⟩ := h.2 (by omega)
    have hc := octs_cells h
    refine octs_of (by simp; omega) (fun _ => hb) (fun j hj => ?_)
    rw [hc j (by omega), ints_get, ints_get, oct_take _ _ _ hj]
theorem octs_from {w : World} {A : Option Addr} {n c : Nat} {l : List UInt8} (h : Octs w A n l) (k : Nat) (hk : k ≤ n) (hc : n ≤ c) : Octs w (if c = k then A else A.map (fun x => x.add k)) (n - k) (l.drop k) := by
  have hl := h.len
  rcases Nat.eq_zero_or_pos (n - k) with h0 | h0
  · rw [h0, List.drop_of_length_le (by omega)]; exact Vals.nil _ _
  · obtain ⟨b, off, rfl, hb, -⟩ := h.2 (by omega)
    have hcl := octs_cells h
    have e : (if c = k then (some ⟨b, off, none⟩ : Option Addr) else (some ⟨b, off, none⟩ : Option Addr).map (fun x => x.add k)) = some ⟨b, off + k, none⟩ := by
      rw [if_neg (by omega)]
      simp [Addr.add]
    rw [e]
    refine octs_of (by simp; omega) (fun _ => hb) (fun j hj => ?_)
    rw [show off + k + j = off + (k + j) by omega, hcl (k + j) (by omega), ints_get, ints_get, oct_drop]

theorem conv22 {A : Option Addr} {n : Nat} (c : Nat) {l : List UInt8} {w : World} (h : Octs w A n l) : (convert 22 9 (.slice A n c)).run Tryz.prog w = .ok (.string (bs l)) w := by
  have hl := h.len
  rcases Nat.eq_zero_or_pos n with h0 | h0
  · subst h0
    obtain rfl : l = [] := List.eq_nil_of_length_eq_zero hl
    cases A with
    | none => exact run_convert_bytes_nil w 22 5 Tryz.underlying22 Tryz.underlying5 0 c 9 Tryz.underlying9
    | some a =>
      rw [run_convert_bytes_string w 22 9 5 _ 0 c Tryz.underlying22 Tryz.underlying5 Tryz.underlying9]
      rw [run_bytesToString w a 0 c [] (by simp [loadCells, loadCellsFrom])]
      rfl
  · obtain ⟨b, off, rfl, -, -⟩ := h.2 h0
    rw [← ints_str]
    exact run_convert_bytes_arg w 22 5 Tryz.underlying22 Tryz.underlying5 b off n c (ints l) (by rw [ints_length, hl]) (octs_cells h) 9 Tryz.underlying9

theorem one_octs (w : World) (c : UInt8) (x : Int) (hx : (c.toNat : Int) = x) : Lib.BytesIn (w.alloc (.cells #[.int .u8 x] 5)) (some ⟨w.heap.size, 0, none⟩) 1 (ints [c]) := fun _ => ⟨_, _, rfl, fun j hj => by
  obtain rfl : j = 0 := by omega
  subst hx
  simp [ints]⟩

theorem noCR_take (l : List UInt8) : noCR l = l.take (noCR l).length := by
  unfold noCR
  split
  · rw [List.length_dropLast, List.dropLast_eq_take]
  · simp
/-- What bytes.TrimSuffix of 0D hands back. -/
theorem trimCR {A : Option Addr} {n c : Nat} {l : List UInt8} {w : World} (h : Octs w A n l) : Lib.trimSuffixV A n c (ints l) (ints [13]) = .slice A (noCR l).length c := by
  have hl := h.len
  rcases Nat.eq_zero_or_pos n with h0 | h0
  · subst h0
    obtain rfl : l = [] := List.eq_nil_of_length_eq_zero hl
    have e : (noCR []).length = 0 := rfl
    rw [e]
    unfold Lib.trimSuffixV
    split
    · unfold Lib.bytesTrimSuffix
      rw [if_neg (by rw [ints_bytes, ints_bytes]; decide)]
    · rfl
  · obtain ⟨b, off, rfl, -, -⟩ := h.2 h0
    show Lib.bytesTrimSuffix b off n c (ints l) (ints [13]) = _
    unfold Lib.bytesTrimSuffix Lib.sliceTo
    rw [ints_bytes, ints_bytes]
    have e : Lib.hasSuffix l [13] = decide (l.getLast? = some 13) := by
      unfold Lib.hasSuffix
      rw [Bool.eq_iff_iff, List.isSuffixOf_iff_suffix]
      simp
      rw [List.getLast?_eq_some_iff]
      constructor
      · rintro ⟨t, rfl⟩; exact ⟨t, rfl⟩
      · rintro ⟨t, rfl⟩; exact ⟨t, rfl⟩
    rw [e]
    unfold noCR
    by_cases hh : l.getLast? = some 13
    · simp [hh, ints_length, hl]
    · simp [hh, hl]
theorem cutV_hit (A : Option Addr) (N c a : Nat) : Lib.cutV A N c 1 (a : Int) = .tuple #[.slice A a c, .slice (if c = a + 1 then A else A.map (fun x => x.add (a + 1))) (N - (a + 1)) (c - (a + 1)), .bool true] := by
  unfold Lib.cutV
  rw [if_pos (by omega)]
  rfl
theorem cutV_miss (A : Option Addr) (N c : Nat) : Lib.cutV A N c 1 (-1) = .tuple #[.slice A N c, .slice none 0 0, .bool false] := by
  unfold Lib.cutV
  rw [if_neg (by omega)]
theorem body_cut {l : List UInt8} {N c : Nat} {A : Option Addr} (hN : (noCR l).length = N) : ∃ k P2 n2 c2 f, Lib.cutV A N c 1 (Lib.index (Lib.bytesOf (ints (noCR l))) (Lib.bytesOf (ints [35]))) = .tuple #[.slice A k c, .slice P2 n2 c2, .bool f] ∧ k ≤ N ∧ bodyOf l = (noCR l).take k := by
  rw [ints_bytes, ints_bytes]
  unfold bodyOf
  by_cases h : (35 : UInt8) ∈ noCR l
  · obtain ⟨a, b, e, ha⟩ := split_at 35 _ h
    rw [e] at hN ⊢
    rw [index_one 35 a b ha, cutAll_some 35 a b ha]
    exact ⟨_, _, _, _, _, cutV_hit A N c a.length, by simp at hN; omega, by simp⟩
  · rw [index_no 35 _ h, cutAll_none 35 _ h]
    exact ⟨_, _, _, _, _, cutV_miss A N c, Nat.le_refl _, by rw [← hN]; simp⟩

/-- MaxLen holds some number. -/
def ML (w : World) : Prop := ∃ m, w.cell? ⟨1, 0, none⟩ = some (.int .i64 m)
theorem ML.lt {w : World} (h : ML w) : 1 < w.heap.size := by
  obtain ⟨m, h⟩ := h
  exact World.block_lt_of_cell? w _ h
theorem ML.below {w w' : World} (h : ML w) (hb : Below w.heap.size w w') : ML w' := by
  obtain ⟨m, hm⟩ := h
  exact ⟨m, (hb.cell (p := ⟨1, 0, none⟩) (by have := World.block_lt_of_cell? w _ hm; exact this)).trans hm⟩
set_option maxRecDepth 100000 in
set_option maxHeartbeats 1000000 in
theorem body36 (A : Option Addr) (n c : Nat) (l : List UInt8) (w : World) (hV : Octs w A n l) (hA : A = none → c = 0) (hc : n ≤ c) (hn : n ≤ 100000) (hm : ML w) :
    Calls Tryz.prog 147 #[.slice A n c] w fun e w' => e = .returned (.string (bs (bodyOf l))) ∧ Below w.heap.size w w' := by
  have b1 : Below w.heap.size w (w.alloc (.cells #[.int .u8 13] 5)) := (Below.refl _ _).alloc (Nat.le_refl _) _
  have c49 := Tryz.bytes_TrimSuffix_all A (some ⟨w.heap.size, 0, none⟩) n c 1 1 (ints l) (ints [13]) (w.alloc (.cells #[.int .u8 13] 5)) (by rw [ints_length, hV.len]) rfl hc (by omega) (hV.below b1).bytesIn (one_octs w 13 13 rfl)
  rw [trimCR hV] at c49
  have hN := noCR_length l
  have hlen := hV.len
  have hV1 := (hV.below b1).take (noCR l).length (by omega)
  rw [← noCR_take] at hV1
  obtain ⟨N, hNN⟩ : ∃ N, (noCR l).length = N := ⟨_, rfl⟩
  rw [hNN] at c49 hN hV1
  have b2 : Below (w.alloc (.cells #[.int .u8 13] 5)).heap.size (w.alloc (.cells #[.int .u8 13] 5)) ((w.alloc (.cells #[.int .u8 13] 5)).alloc (.cells #[.int .u8 35] 5)) := (Below.refl _ _).alloc (Nat.le_refl _) _
  obtain ⟨m, hmm⟩ := (hm.below b1).below b2
  have hV2 := hV1.below b2
  have c35 := Tryz.bytes_Cut_all A (some ⟨w.heap.size + 1, 0, none⟩) N c 1 1 (ints (noCR l)) (ints [35]) m ((w.alloc (.cells #[.int .u8 13] 5)).alloc (.cells #[.int .u8 35] 5)) (by rw [ints_length, hNN]) rfl (ints_range _) (ints_range _) hV2.bytesIn (by have := one_octs (w.alloc (.cells #[.int .u8 13] 5)) 35 35 rfl; simpa using this) hA (by omega) (by omega) (by omega) hmm
  obtain ⟨k, P2, n2, c2, f, hk1, hk2, hk3⟩ := body_cut (A := A) (c := c) hNN
  rw [hk1] at c35
  have hV3 := hV2.take k hk2
  rw [← hk3] at hV3
  have kc := fun q => conv22 c (w := ((w.alloc (.cells #[.int .u8 13] 5)).alloc (.cells #[.int .u8 35] 5)).drewN q) hV3
  obtain ⟨B, hB⟩ : ∃ B, bs (bodyOf l) = B := ⟨_, rfl⟩
  rw [hB] at kc ⊢
  clear hk1 hk3 hV hV1 hV2 hV3 hmm hm hNN hB
  go_enter Tryz.func147, Tryz.ntmps147
  go_wp2_with (first
    | (go_at_call 180; (with_reducible refine c49.mono ?_); rintro e w' ⟨rfl, rfl⟩)
    | (go_at_call 146; (with_reducible refine c35.mono ?_); rintro e w' ⟨rfl, q, rfl⟩))
  go_ret
  exact ⟨rfl, below_drewN (b1.trans (b2.mono (by simp))) q⟩
end Go.Proofs.YtfakohoamgogoaaGreatDoor

namespace Go.Proofs.YtfakohoamgogoaaGreatDoor
open Go.ChangeShapes Go.WideShapes Go.ChangeAt Go.RowKit

theorem own : ownKnob Tryz.prog.godebug = none := by kernel_rfl
theorem laidOut : laidOutB Tryz.prog = true := by kernel_rfl

def layCells (zs : List Int) : Obj → Obj
  | .cells _ t fz => .cells (zs.map (Value.int .u8)).toArray t fz
  | o => o
def layHan : Obj → Obj
  | .cells _ t fz => .cells #[.int .i64 4352, .int .i64 4370, .int .i64 4449, .int .i64 4469, .int .i64 4520, .int .i64 4546, .int .i64 44032, .int .i64 55203] t fz
  | o => o
/-- The settled world, with the two tables as their initialisers lay them. -/
noncomputable def laidWorld (os : Os) : World :=
  { World.holding Tryz.prog os ⟨#[], #[], []⟩ with
    heap := (((World.holding Tryz.prog os ⟨#[], #[], []⟩).heap.modify 0 layHan).modify 2 (layCells Lib.firstTab)).modify 3 (layCells ((List.range 16).flatMap fun i => [(Lib.accLo i : Int), (Lib.accHi i : Int)])) }

/-- What a slice of integers that came in is to a walk: nil, or a row of cells; each number fits its kind. -/
def IsRow (k : IntKind) (w : World) (a : Option Addr) (len cap : Nat) (zs : List Int) : Prop :=
  (a = none ∧ len = 0 ∧ cap = 0 ∧ zs = []) ∨
  ∃ x, a = some x ∧ len ≤ cap ∧ cap ≤ maxLen ∧ zs.length = cap ∧ (∀ i, i < zs.length → w.cell? (x.add i) = some (.int k (zs.getD i 0))) ∧ ∀ n ∈ zs, (Lit.int k n).wf = true

theorem IsRow.vals {k : IntKind} {w : World} {a : Option Addr} {len cap : Nat} {zs : List Int} (h : IsRow k w a len cap zs) : Vals w a len (nums k (zs.take len)) ∧ len ≤ cap ∧ (a = none → cap = 0) ∧ ∀ n ∈ zs.take len, (Lit.int k n).wf = true := by
  rcases h with ⟨rfl, rfl, rfl, rfl⟩ | ⟨x, rfl, hl, hm, hz, hcell, hwz⟩
  · exact ⟨Vals.nil _ _, Nat.le_refl _, fun _ => rfl, by simp⟩
  · refine ⟨⟨by simp [nums]; omega, fun h0 => ?_⟩, hl, fun h => (by cases h), fun n hn => hwz n (List.mem_of_mem_take hn)⟩
    obtain ⟨b, off, spot⟩ := x
    have hc := hcell 0 (by omega)
    have hspot : spot = none := by simpa [Addr.add] using World.cell?_spot hc
    subst hspot
    refine ⟨b, off, rfl, ?_, fun j v hj => ?_⟩
    · have := World.block_lt_of_cell? w _ hc
      simpa [Addr.add] using this
    · have hlt : j < len := by
        have := (List.getElem?_eq_some_iff.1 hj).1
        simp [nums] at this
        omega
      have := hcell j (by omega)
      have e : (⟨b, off, none⟩ : Addr).add j = ⟨b, off + j, none⟩ := by unfold Addr.add; split <;> simp_all
      rw [e] at this
      rw [nums_get (by simp; omega)] at hj
      cases hj
      rw [this]
      simp [List.getD_eq_getElem?_getD, hlt]
theorem wf_u8 {x : Int} (h : (Lit.int .u8 x).wf = true) : 0 ≤ x ∧ x < 256 := by
  have := bounds_u8 h
  omega
/-- A slice of octets. -/
theorem IsRow.octs {w : World} {a : Option Addr} {len cap : Nat} {zs : List Int} (h : IsRow .u8 w a len cap zs) : ∃ l : List UInt8, Octs w a len l ∧ len ≤ cap ∧ (a = none → cap = 0) := by
  obtain ⟨h1, h2, h3, h4⟩ := h.vals
  refine ⟨Lib.bytesOf (zs.take len), ?_, h2, h3⟩
  have e : ints (Lib.bytesOf (zs.take len)) = zs.take len := by
    unfold ints Lib.bytesOf
    rw [List.map_map]
    conv => rhs; rw [← List.map_id (zs.take len)]
    apply List.map_congr_left
    intro x hx
    have := wf_u8 (h4 x hx)
    simp
    omega
  unfold Octs
  rw [e]
  exact h1
end Go.Proofs.YtfakohoamgogoaaGreatDoor

namespace Go.Proofs.YtfakohoamgogoaaGreatDoor
open Go.RowKit Go.Joins Go.WideShapes Go.ChangeShapes Go.ChangeAt Go.Deep

section
variable {H : Type} {enc : TypeId × Value → H} {P : Program} {w : World} {base : Nat} {spare : Nat → Bool} {held : Bool}
theorem open_agg7w {r : Reach} {b0 : Nat} {t : TypeId} {f0 f1 f2 f3 f4 f5 f6 : Field} {v : Value} {d : DataW H} {p : List MemPlace} (hs : P.underlying t = some (.struct #[f0, f1, f2, f3, f4, f5, f6])) (hone : oneCellFields P #[f0, f1, f2, f3, f4, f5, f6] = true) (hC : P.cellsOf t = 7)
    (hv : Value.okWide P w r b0 t v) (h : DataW.Trod enc P w base spare held t v d p) :
    ∃ (v0 v1 v2 v3 v4 v5 v6 : Value) (y0 y1 y2 y3 y4 y5 y6 : DataW H × List MemPlace), v = .agg #[v0, v1, v2, v3, v4, v5, v6] ∧ d = .agg [y0.1, y1.1, y2.1, y3.1, y4.1, y5.1, y6.1] ∧
      (∃ n, DataW.trod enc P w base spare held n f0.type [v0] = some y0) ∧ (∃ n, DataW.trod enc P w base spare held n f1.type [v1] = some y1) ∧ (∃ n, DataW.trod enc P w base spare held n f2.type [v2] = some y2) ∧ (∃ n, DataW.trod enc P w base spare held n f3.type [v3] = some y3) ∧
      (∃ n, DataW.trod enc P w base spare held n f4.type [v4] = some y4) ∧ (∃ n, DataW.trod enc P w base spare held n f5.type [v5] = some y5) ∧ (∃ n, DataW.trod enc P w base spare held n f6.type [v6] = some y6) := by
  obtain ⟨cs, rfl, hsz⟩ := okWide_struct hs hv
  obtain ⟨c0, c1, c2, c3, c4, c5, c6, rfl⟩ := array7 (hsz.trans hC)
  obtain ⟨fuel, hf⟩ := h
  obtain ⟨xs, n, _, hx, hl, hlen, hf⟩ := DataW.trod_struct hs hf
  obtain ⟨y0, y1, y2, y3, y4, y5, y6, rfl⟩ : ∃ y0 y1 y2 y3 y4 y5 y6, xs = [y0, y1, y2, y3, y4, y5, y6] := by
    match xs, hlen with
    | [y0, y1, y2, y3, y4, y5, y6], _ => exact ⟨y0, y1, y2, y3, y4, y5, y6, rfl⟩
  have hd := congrArg Prod.fst hx
  obtain ⟨o0, k0⟩ := hone_of hone 0 f0 rfl
  obtain ⟨o1, k1⟩ := hone_of hone 1 f1 rfl
  obtain ⟨o2, k2⟩ := hone_of hone 2 f2 rfl
  obtain ⟨o3, k3⟩ := hone_of hone 3 f3 rfl
  obtain ⟨o4, k4⟩ := hone_of hone 4 f4 rfl
  obtain ⟨o5, k5⟩ := hone_of hone 5 f5 rfl
  obtain ⟨o6, k6⟩ := hone_of hone 6 f6 rfl
  refine ⟨c0, c1, c2, c3, c4, c5, c6, y0, y1, y2, y3, y4, y5, y6, rfl, hd, ⟨n, ?_⟩, ⟨n, ?_⟩, ⟨n, ?_⟩, ⟨n, ?_⟩, ⟨n, ?_⟩, ⟨n, ?_⟩, ⟨n, ?_⟩⟩
  · have h := hf 0 f0 rfl
    simpa [Value.cells, o0, k0] using h
  · have h := hf 1 f1 rfl
    simpa [Value.cells, o1, k1] using h
  · have h := hf 2 f2 rfl
    simpa [Value.cells, o2, k2] using h
  · have h := hf 3 f3 rfl
    simpa [Value.cells, o3, k3] using h
  · have h := hf 4 f4 rfl
    simpa [Value.cells, o4, k4] using h
  · have h := hf 5 f5 rfl
    simpa [Value.cells, o5, k5] using h
  · have h := hf 6 f6 rfl
    simpa [Value.cells, o6, k6] using h
end
theorem row_of_trodw {H : Type} {enc : TypeId × Value → H} {W : World} {base fuel : Nat} {held : Bool} {v : Value} {y : DataW H × List MemPlace} (h : DataW.trod enc Tryz.prog W base (fun _ => true) held fuel 22 [v] = some y) (hz : ∀ n ∈ y.1.weights Tryz.prog 22, n ≤ reachBytes) :
    ∃ a len cap zs, v = .slice a len cap ∧ IsRow .u8 W a len cap zs ∧ len ≤ 1000000000000000 := by
  rcases open_ints Tryz.underlying22 Tryz.underlying5 (by kernel_rfl) h with ⟨hcs, _⟩ | ⟨x, l, c, zs, hcs, _, hl, hm, hz', hy, hcell, hwz⟩
  · simp at hcs
    exact ⟨none, 0, 0, [], hcs, .inl ⟨rfl, rfl, rfl, rfl⟩, by omega⟩
  · simp at hcs hz'
    refine ⟨some x, l, c, zs, hcs, .inr ⟨_, rfl, hl, hm, hz', hcell, hwz⟩, ?_⟩
    have hb : Tryz.prog.bytesOf 5 = 1 := by kernel_rfl
    have h1 := hz ((zs.take l).length + (zs.drop l).length) (by
      rw [hy]
      simp [DataW.weights, Tryz.underlying22, hb, lits])
    have e : (zs.take l).length + (zs.drop l).length = c := by rw [← List.length_append, List.take_append_drop, hz']
    rw [e] at h1
    have : reachBytes ≤ 1000000000000000 := by decide
    omega
end Go.Proofs.YtfakohoamgogoaaGreatDoor

namespace Go.Proofs.YtfakohoamgogoaaGreatDoor

/-! Decompositions, whatever they are: what comes of going from a number to one of its parts. -/
section
variable (dec : Int → List Int)
inductive Plus : Int → Int → Prop
  | one {c x : Int} (h : x ∈ dec c) : Plus c x
  | more {c x y : Int} (h : x ∈ dec c) (t : Plus x y) : Plus c y
/-- All ways end within so many steps. -/
def Ends : Nat → Int → Prop
  | 0, c => dec c = []
  | n + 1, c => ∀ d ∈ dec c, Ends n d
variable {dec}
theorem Plus.trans {a b c : Int} (h : Plus dec a b) (k : Plus dec b c) : Plus dec a c := by
  induction h with
  | one h => exact .more h k
  | more h _ ih => exact .more h (ih k)
theorem Plus.has {c x : Int} (h : Plus dec c x) : dec c ≠ [] := by
  cases h with
  | one h => exact List.ne_nil_of_mem h
  | more h _ => exact List.ne_nil_of_mem h
theorem ends_nil {c : Int} (h : dec c = []) : ∀ n, Ends dec n c
  | 0 => h
  | n + 1 => fun d hd => by rw [h] at hd; cases hd
theorem Ends.succ : ∀ {n : Nat} {c : Int}, Ends dec n c → Ends dec (n + 1) c
  | 0, _, h => ends_nil h 1
  | _ + 1, _, h => fun d hd => Ends.succ (h d hd)
theorem Ends.mono {n m : Nat} (hm : n ≤ m) {c : Int} (h : Ends dec n c) : Ends dec m c := by
  induction hm with
  | refl => exact h
  | step _ ih => exact ih.succ
/-- A way that does not end in n steps goes through n + 1 numbers. -/
theorem long_way : ∀ (n : Nat) (c : Int), ¬ Ends dec n c → ∃ l : List Int, (l.length = n + 1 ∧ l.head? = some c) ∧ (∀ x ∈ l, dec x ≠ []) ∧ l.Pairwise (Plus dec)
  | 0, c, h => ⟨[c], ⟨rfl, rfl⟩, fun x hx => (List.mem_singleton.1 hx) ▸ h, List.pairwise_singleton _ _⟩
  | n + 1, c, h => by
    have h' : ∃ d ∈ dec c, ¬ Ends dec n d := Classical.byContradiction fun hn => h fun d hd => Classical.byContradiction fun hd' => hn ⟨d, hd, hd'⟩
    obtain ⟨d, hd, hd'⟩ := h'
    obtain ⟨l, ⟨h1, h2⟩, h3, h4⟩ := long_way n d hd'
    refine ⟨c :: l, ⟨by simp [h1], rfl⟩, fun x hx => ?_, List.pairwise_cons.2 ⟨fun y hy => ?_, h4⟩⟩
    · rcases List.mem_cons.1 hx with rfl | hx
      · exact List.ne_nil_of_mem hd
      · exact h3 x hx
    · cases l with
      | nil => cases hy
      | cons e t =>
        injection h2 with h2
        subst h2
        rcases List.mem_cons.1 hy with rfl | hy
        · exact .one hd
        · exact .more hd (List.rel_of_pairwise_cons h4 hy)
/-- Where nothing goes round, all ways end. -/
theorem all_end {K : List Int} (hK : ∀ c, dec c ≠ [] → c ∈ K) (hno : ∀ c ∈ K, ¬ Plus dec c c) (c : Int) : Ends dec K.length c := by
  refine Classical.byContradiction fun h => ?_
  obtain ⟨l, ⟨h1, -⟩, h3, h4⟩ := long_way _ c h
  have hnd : l.Nodup := by
    refine List.Pairwise.imp_of_mem (fun {a b} ha hb hab e => ?_) h4
    subst e
    exact hno a (hK a (h3 a ha)) hab
  have := List.Nodup.length_le_of_subset hnd (fun x hx => hK x (h3 x hx))
  omega
variable (dec)
/-- How many parts there are in the end. -/
def cnt : Nat → Int → Nat
  | 0, _ => 1
  | n + 1, c => if dec c = [] then 1 else ((dec c).map (cnt n)).sum
/-- The same, but the second part is let go where the first has more than 4. -/
def prt : Nat → Int → Nat
  | 0, _ => 1
  | n + 1, c => match dec c with
    | [] => 1
    | [d] => prt n d
    | d :: e :: _ => if prt n d ≤ 4 then prt n d + prt n e else prt n d
variable {dec}
theorem cnt_succ : ∀ {n : Nat} {c : Int}, Ends dec n c → cnt dec (n + 1) c = cnt dec n c
  | 0, c, h => by
    have h : dec c = [] := h
    simp [cnt, h]
  | n + 1, c, h => by
    show (if dec c = [] then 1 else ((dec c).map (cnt dec (n + 1))).sum) = (if dec c = [] then 1 else ((dec c).map (cnt dec n)).sum)
    by_cases e : dec c = []
    · rw [if_pos e, if_pos e]
    · rw [if_neg e, if_neg e, List.map_congr_left (fun d hd => cnt_succ (h d hd))]
theorem cnt_same {n m : Nat} (hm : n ≤ m) {c : Int} (h : Ends dec n c) : cnt dec m c = cnt dec n c := by
  induction hm with
  | refl => rfl
  | step hs ih => rw [cnt_succ (h.mono hs), ih]
theorem prt_pos : ∀ (n : Nat) (c : Int), 1 ≤ prt dec n c
  | 0, _ => Nat.le_refl _
  | n + 1, c => by
    rw [prt]
    match dec c with
    | [] => exact Nat.le_refl _
    | [d] => exact prt_pos n d
    | d :: e :: t =>
      simp only
      have := prt_pos n d
      split <;> omega
/-- Both tell alike whether there are more than 4. -/
theorem prt_cnt (h2 : ∀ c, (dec c).length ≤ 2) : ∀ (n : Nat) (c : Int), (prt dec n c ≤ 4 ↔ cnt dec n c ≤ 4) ∧ (prt dec n c ≤ 4 → prt dec n c = cnt dec n c)
  | 0, c => by simp [prt, cnt]
  | n + 1, c => by
    have hl := h2 c
    rw [prt, cnt]
    match hd : dec c with
    | [] => simp
    | [d] =>
      have := prt_cnt h2 n d
      simpa using this
    | [d, e] =>
      obtain ⟨i1, i2⟩ := prt_cnt h2 n d
      obtain ⟨j1, j2⟩ := prt_cnt h2 n e
      have pe := prt_pos (dec := dec) n e
      simp only [List.map_cons, List.map_nil, List.sum_cons, List.sum_nil, Nat.add_zero]
      rw [if_neg (show ¬ ([d, e] = ([] : List Int)) by simp)]
      by_cases hp : prt dec n d ≤ 4
      · rw [if_pos hp]
        have e1 := i2 hp
        by_cases hq : prt dec n e ≤ 4
        · have e2 := j2 hq
          rw [e1, e2]
          exact ⟨Iff.rfl, fun _ => rfl⟩
        · have : ¬ cnt dec n e ≤ 4 := fun h => hq (j1.2 h)
          exact ⟨⟨fun h => by omega, fun h => by omega⟩, fun h => by omega⟩
      · rw [if_neg hp]
        have : ¬ cnt dec n d ≤ 4 := fun h => hp (i1.2 h)
        exact ⟨⟨fun h => by omega, fun h => by omega⟩, fun h => by omega⟩
    | d :: e :: f :: t => rw [hd] at hl; simp at hl
end

/-! What is come to, as the document's text gathers it. -/
def addN (all : List Int) (d : Int) : List Int := if d ∈ all then all else all ++ [d]
def addL (all : List Int) (ds : List Int) : List Int := ds.foldl addN all
def rch (dec : Int → List Int) : Nat → Nat → List Int → List Int
  | 0, _, all => all
  | n + 1, i, all => match all[i]? with
    | none => all
    | some c => rch dec n (i + 1) (addL all (dec c))
theorem addN_mem {all : List Int} {d x : Int} : x ∈ addN all d ↔ x ∈ all ∨ x = d := by
  unfold addN
  split
  · rename_i h
    exact ⟨.inl, fun h' => h'.elim id (fun e => e ▸ h)⟩
  · simp
theorem addL_mem : ∀ {ds all : List Int} {x : Int}, x ∈ addL all ds ↔ x ∈ all ∨ x ∈ ds
  | [], _, _ => by simp [addL]
  | d :: ds, all, x => by
    show x ∈ addL (addN all d) ds ↔ _
    rw [addL_mem, addN_mem, List.mem_cons, or_assoc]
theorem addN_pre (all : List Int) (d : Int) : all <+: addN all d := by
  unfold addN
  split
  · exact List.prefix_refl _
  · exact List.prefix_append _ _
theorem addL_pre : ∀ (ds all : List Int), all <+: addL all ds
  | [], _ => List.prefix_refl _
  | d :: ds, all => (addN_pre all d).trans (addL_pre ds (addN all d))
/-- All: those from which it began, and others, each once, out of U. -/
def Gath (U fr all : List Int) : Prop := ∃ ex, all = fr ++ ex ∧ ex.Nodup ∧ (∀ x ∈ ex, x ∉ fr) ∧ ∀ x ∈ ex, x ∈ U
theorem gath_addN {U fr all : List Int} {d : Int} (h : Gath U fr all) (hd : d ∈ U) : Gath U fr (addN all d) := by
  obtain ⟨ex, rfl, h1, h2, h3⟩ := h
  unfold addN
  split
  · exact ⟨ex, rfl, h1, h2, h3⟩
  · rename_i hn
    rw [List.mem_append, not_or] at hn
    refine ⟨ex ++ [d], by rw [List.append_assoc], List.nodup_append.2 ⟨h1, by simp, fun a ha b hb e => ?_⟩, fun x hx => ?_, fun x hx => ?_⟩
    · rw [List.mem_singleton] at hb
      subst hb
      subst e
      exact hn.2 ha
    · rcases List.mem_append.1 hx with h | h
      · exact h2 x h
      · rw [List.mem_singleton.1 h]; exact hn.1
    · rcases List.mem_append.1 hx with h | h
      · exact h3 x h
      · rw [List.mem_singleton.1 h]; exact hd
theorem gath_addL : ∀ {ds U fr all : List Int}, Gath U fr all → (∀ d ∈ ds, d ∈ U) → Gath U fr (addL all ds)
  | [], _, _, _, h, _ => h
  | d :: ds, _, _, all, h, hd => gath_addL (ds := ds) (all := addN all d) (gath_addN h (hd d (List.mem_cons_self ..))) (fun x hx => hd x (List.mem_cons_of_mem _ hx))
theorem gath_len {U fr all : List Int} (h : Gath U fr all) : all.length ≤ fr.length + U.length := by
  obtain ⟨ex, rfl, h1, -, h3⟩ := h
  have := List.Nodup.length_le_of_subset h1 h3
  simp
  omega
/-- What holds between two steps. -/
def RchI (dec : Int → List Int) (U fr : List Int) (i : Nat) (all : List Int) : Prop :=
  Gath U fr all ∧ i ≤ all.length ∧ (∀ x ∈ all, x ∈ fr ∨ ∃ y ∈ fr, Plus dec y x) ∧ ∀ (j : Nat) (c : Int), j < i → all[j]? = some c → ∀ d ∈ dec c, d ∈ all
theorem rch_step {dec : Int → List Int} {U fr : List Int} {i : Nat} {all : List Int} {c : Int} (h : RchI dec U fr i all) (hU : ∀ c, ∀ d ∈ dec c, d ∈ U) (hc : all[i]? = some c) : RchI dec U fr (i + 1) (addL all (dec c)) := by
  obtain ⟨h1, h2, h3, h4⟩ := h
  have hi := (List.getElem?_eq_some_iff.1 hc).1
  have hp := addL_pre (dec c) all
  refine ⟨gath_addL h1 (hU c), Nat.le_trans hi hp.length_le, fun x hx => ?_, fun j e hj he d hd => ?_⟩
  · rcases addL_mem.1 hx with h | h
    · exact h3 x h
    · rcases h3 c (List.mem_of_getElem? hc) with hf | ⟨y, hy, hyc⟩
      · exact .inr ⟨c, hf, .one h⟩
      · exact .inr ⟨y, hy, hyc.trans (.one h)⟩
  · have hj' : j < all.length := by omega
    have he' : all[j]? = some e := by
      obtain ⟨t, ht⟩ := hp
      rw [← ht, List.getElem?_append_left hj'] at he
      exact he
    by_cases e1 : j = i
    · subst e1
      rw [hc] at he'
      cases he'
      exact addL_mem.2 (.inr hd)
    · exact addL_mem.2 (.inl (h4 j e (by omega) he' d hd))
theorem rch_all {dec : Int → List Int} {U fr : List Int} (hU : ∀ c, ∀ d ∈ dec c, d ∈ U) : ∀ (n i : Nat) (all : List Int), RchI dec U fr i all → fr.length + U.length < n + i → ∃ j, j = (rch dec n i all).length ∧ RchI dec U fr j (rch dec n i all)
  | 0, i, all, h, hn => by
    have := gath_len h.1
    have := h.2.1
    omega
  | n + 1, i, all, h, hn => by
    rw [rch]
    match hc : all[i]? with
    | none =>
      have h2 := h.2.1
      have := List.getElem?_eq_none_iff.1 hc
      have e : i = all.length := by omega
      exact ⟨i, e, h⟩
    | some c =>
      exact rch_all hU n (i + 1) _ (rch_step h hU hc) (by omega)
/-- All that is come to, and nothing else. -/
theorem rch_iff {dec : Int → List Int} {U fr : List Int} (hU : ∀ c, ∀ d ∈ dec c, d ∈ U) {n : Nat} (hn : fr.length + U.length < n) (x : Int) : x ∈ rch dec n 0 fr ↔ x ∈ fr ∨ ∃ y ∈ fr, Plus dec y x := by
  have h0 : RchI dec U fr 0 fr := ⟨⟨[], by simp, List.nodup_nil, fun x h => (by cases h), fun x h => (by cases h)⟩, Nat.zero_le _, fun x h => .inl h, fun j c hj => absurd hj (Nat.not_lt_zero _)⟩
  obtain ⟨j, hj, h1, -, h3, h4⟩ := rch_all hU n 0 fr h0 (by omega)
  refine ⟨h3 x, fun hx => ?_⟩
  have hcl : ∀ c ∈ rch dec n 0 fr, ∀ d ∈ dec c, d ∈ rch dec n 0 fr := fun c hc d hd => by
    obtain ⟨k, hk⟩ := List.mem_iff_getElem?.1 hc
    have := (List.getElem?_eq_some_iff.1 hk).1
    exact h4 k c (by omega) hk d hd
  have hfr : ∀ y ∈ fr, y ∈ rch dec n 0 fr := fun y hy => by
    obtain ⟨ex, he, -⟩ := h1
    rw [he]
    exact List.mem_append_left _ hy
  rcases hx with hx | ⟨y, hy, hp⟩
  · exact hfr x hx
  · have hy' := hfr y hy
    clear hy
    induction hp with
    | one h => exact hcl _ hy' _ h
    | more h _ ih => exact ih (hcl _ hy' _ h)
/-- A number goes round just if it is among what its own parts come to. -/
theorem round_iff {dec : Int → List Int} {U : List Int} (hU : ∀ c, ∀ d ∈ dec c, d ∈ U) {n : Nat} {c : Int} (hn : (dec c).length + U.length < n) : c ∈ rch dec n 0 (dec c) ↔ Plus dec c c := by
  rw [rch_iff hU hn]
  constructor
  · rintro (h | ⟨y, hy, h⟩)
    · exact .one h
    · exact .more hy h
  · intro h
    cases h with
    | one h => exact .inl h
    | more h t => exact .inr ⟨_, h, t⟩
end Go.Proofs.YtfakohoamgogoaaGreatDoor

namespace Go.Proofs.YtfakohoamgogoaaGreatDoor.Uc
open Go.RowKit

/-- A row; its decomposition as the slice that stands there. -/
structure Rw where
  a : Int
  b : Int
  gc : List UInt8
  ccc : Int
  bd : List UInt8
  dp : Option Addr
  dm : Nat
  dc : Nat
def rwv (s : Rw) : List Value := [.int .i64 s.a, .int .i64 s.b, .string (bs s.gc), .int .i64 s.ccc, .string (bs s.bd), .slice s.dp s.dm s.dc]
/-- A row as a value. -/
def rwV (s : Rw) : Value := .agg #[.int .i64 s.a, .int .i64 s.b, .string (bs s.gc), .int .i64 s.ccc, .string (bs s.bd), .slice s.dp s.dm s.dc]
/-- The row that is none. -/
def rw0 : Rw := ⟨0, 0, [], 0, [], none, 0, 0⟩
def rwvs (ls : List Rw) : List Value := ls.flatMap rwv
theorem rwvs_cons (s : Rw) (ls : List Rw) : rwvs (s :: ls) = .int .i64 s.a :: .int .i64 s.b :: .string (bs s.gc) :: .int .i64 s.ccc :: .string (bs s.bd) :: .slice s.dp s.dm s.dc :: rwvs ls := rfl
theorem rwvs_snoc (ls : List Rw) (s : Rw) : rwvs ls ++ [.int .i64 s.a, .int .i64 s.b, .string (bs s.gc), .int .i64 s.ccc, .string (bs s.bd), .slice s.dp s.dm s.dc] = rwvs (ls ++ [s]) := by unfold rwvs; rw [List.flatMap_append]; rfl
theorem rwvs_length : ∀ ls : List Rw, (rwvs ls).length = ls.length * 6
  | [] => rfl
  | s :: ls => by rw [rwvs_cons]; simp [rwvs_length ls]; omega
/-- The six values of the row at a place. -/
def Six (f : Nat → Option Value) (s : Rw) : Prop :=
  f 0 = some (.int .i64 s.a) ∧ f 1 = some (.int .i64 s.b) ∧ f 2 = some (.string (bs s.gc)) ∧ f 3 = some (.int .i64 s.ccc) ∧ f 4 = some (.string (bs s.bd)) ∧ f 5 = some (.slice s.dp s.dm s.dc)
theorem rwvs_get : ∀ {ls : List Rw} {j : Nat} {s : Rw}, ls[j]? = some s → Six (fun i => (rwvs ls)[j * 6 + i]?) s
  | [], _, _, h => by simp at h
  | x :: ls, 0, s, h => by simp at h; subst h; exact ⟨rfl, rfl, rfl, rfl, rfl, rfl⟩
  | x :: ls, j + 1, s, h => by
    have := rwvs_get (ls := ls) (j := j) (s := s) (by simpa using h)
    have e : (fun i => (rwvs (x :: ls))[(j + 1) * 6 + i]?) = fun i => (rwvs ls)[j * 6 + i]? := by
      funext i
      rw [rwvs_cons, show (j + 1) * 6 + i = j * 6 + i + 6 by omega]
      rfl
    rw [e]
    exact this
/-- The slice with address A and length n reads, in w, as the rows ls. -/
def RAt (w : World) (A : Option Addr) (n : Nat) (ls : List Rw) : Prop :=
  ls.length = n ∧ (0 < n → ∃ b off, A = some ⟨b, off, none⟩ ∧ b < w.heap.size ∧ ∀ j s, ls[j]? = some s →
    w.cell? ⟨b, off + j * 6, none⟩ = some (.int .i64 s.a) ∧ w.cell? ⟨b, off + j * 6 + 1, none⟩ = some (.int .i64 s.b) ∧ w.cell? ⟨b, off + j * 6 + 2, none⟩ = some (.string (bs s.gc)) ∧
    w.cell? ⟨b, off + j * 6 + 3, none⟩ = some (.int .i64 s.ccc) ∧ w.cell? ⟨b, off + j * 6 + 4, none⟩ = some (.string (bs s.bd)) ∧ w.cell? ⟨b, off + j * 6 + 5, none⟩ = some (.slice s.dp s.dm s.dc))
theorem RAt.below {w w' : World} {A : Option Addr} {n : Nat} {ls : List Rw} (h : RAt w A n ls) (hb : Below w.heap.size w w') : RAt w' A n ls := by
  refine ⟨h.1, fun hn => ?_⟩
  obtain ⟨b, off, rfl, hlt, hc⟩ := h.2 hn
  refine ⟨b, off, rfl, Nat.lt_of_lt_of_le hlt hb.size, fun j s hj => ?_⟩
  obtain ⟨h1, h2, h3, h4, h5, h6⟩ := hc j s hj
  exact ⟨(hb.cell (p := ⟨b, _, none⟩) hlt).trans h1, (hb.cell (p := ⟨b, _, none⟩) hlt).trans h2, (hb.cell (p := ⟨b, _, none⟩) hlt).trans h3, (hb.cell (p := ⟨b, _, none⟩) hlt).trans h4, (hb.cell (p := ⟨b, _, none⟩) hlt).trans h5, (hb.cell (p := ⟨b, _, none⟩) hlt).trans h6⟩
theorem RAt.nil (w : World) (A : Option Addr) : RAt w A 0 [] := ⟨rfl, fun h => absurd h (by omega)⟩
theorem own_rat {w : World} {base : Nat} {e : TypeId} {v : Value} {ls : List Rw} (ho : w.ownsRow base e 6 v ls.length (rwvs ls)) : ∃ A c, v = .slice A ls.length c ∧ ls.length ≤ c ∧ RAt w A ls.length ls ∧ (A = none → c = 0) := by
  rcases ho.2 with ⟨rfl, h0⟩ | ⟨g, cap, cur, rfl, _, hg, hcap, _⟩
  · exact ⟨none, 0, by rw [h0], by omega, ⟨rfl, fun h => absurd h (by omega)⟩, fun _ => rfl⟩
  · refine ⟨_, cap, rfl, hcap, ⟨rfl, fun _ => ⟨g, 0, rfl, (Array.getElem?_eq_some_iff.1 hg).1, fun j s hj => ?_⟩⟩, fun h => by cases h⟩
    obtain ⟨h1, h2, h3, h4, h5, h6⟩ := rwvs_get hj
    have k1 := ho.cells (g := g) rfl _ _ h1
    have k2 := ho.cells (g := g) rfl _ _ h2
    have k3 := ho.cells (g := g) rfl _ _ h3
    have k4 := ho.cells (g := g) rfl _ _ h4
    have k5 := ho.cells (g := g) rfl _ _ h5
    have k6 := ho.cells (g := g) rfl _ _ h6
    rw [add_at] at k1 k2 k3 k4 k5 k6
    exact ⟨k1, k2, k3, k4, k5, k6⟩
theorem getRw {ls : List Rw} {k : Nat} (h : k < ls.length) : ∃ s, ls[k]? = some s := ⟨ls[k], List.getElem?_eq_getElem h⟩

/-- The row of a code point; none: the row that is none. -/
def atOf (ls : List Rw) (c : Int) : Rw := (ls.find? fun s => decide (s.a ≤ c ∧ c ≤ s.b)).getD rw0
theorem at_take {l : List Rw} {c : Int} {k : Nat} {s : Rw} (hk : l[k]? = some s) (h : ∀ t ∈ l.take k, ¬ (t.a ≤ c ∧ c ≤ t.b)) (hs : s.a ≤ c ∧ c ≤ s.b) : atOf l c = s := by
  have hlt := (List.getElem?_eq_some_iff.1 hk).1
  have e : l[k] = s := (List.getElem?_eq_some_iff.1 hk).2
  unfold atOf
  rw [← List.take_append_drop k l, List.drop_eq_getElem_cons hlt, e, List.find?_append, List.find?_eq_none.2 (fun t ht => by simpa using h t ht)]
  rw [Option.none_or, List.find?_cons_of_pos (by simpa using hs)]
  rfl
theorem at_gap {l : List Rw} {c : Int} (h : ∀ t ∈ l, ¬ (t.a ≤ c ∧ c ≤ t.b)) : atOf l c = rw0 := by
  unfold atOf
  rw [List.find?_eq_none.2 (fun t ht => by simpa using h t ht)]
  rfl
end Go.Proofs.YtfakohoamgogoaaGreatDoor.Uc

namespace Go.Proofs.YtfakohoamgogoaaGreatDoor
open Go.RowKit
attribute [local go_sem] Oper.semAt_some

/-- Is it a Hangul code point? -/
def korB (c : Int) : Bool := decide ((4352 ≤ c ∧ c ≤ 4370) ∨ (4449 ≤ c ∧ c ≤ 4469) ∨ (4520 ≤ c ∧ c ≤ 4546) ∨ (44032 ≤ c ∧ c ≤ 55203))
end Go.Proofs.YtfakohoamgogoaaGreatDoor

namespace Go.Proofs.YtfakohoamgogoaaGreatDoor
open Go.RowKit
attribute [local go_sem] Oper.semAt_some

def kors : List Int := [4352, 4449, 4520, 44032]
/-- Has a row a Hangul code point? -/
def touB (a b : Int) : Bool := (korB a || korB b) || kors.any fun x => decide (a ≤ x ∧ x ≤ b)
end Go.Proofs.YtfakohoamgogoaaGreatDoor
