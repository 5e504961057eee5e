/- A slice of octets; what the program's body of a line is, and a body's fields. -/
/- The fields of a body, as the program makes them. -/
/- The program's going through the bodies of a file's lines. -/
import Derived.Test.YtdbnegllncjhkaaGreatDoorShelf
import Derived.Test.YtdbnegllncjhkaaGreatDoorRlines
import Derived.Lib.SplitLaws
import Derived.Lib.Bytes
import Derived.Laws.BytesArg
import Derived.Shelf.Abstract
import Derived.Shelf.RegionOpen
import Derived.OwnWalkIn
import Derived.TacticsInMore
import Derived.LoopNIn
import Derived.LoopIn
namespace Go.Proofs.YtdbnegllncjhkaaGreatDoor
open Go.RowKit

def ints (l : List UInt8) : List Int := l.map fun c => (c.toNat : Int)
theorem ints_length (l : List UInt8) : (ints l).length = l.length := List.length_map _
theorem ints_bytes (l : List UInt8) : Lib.bytesOf (ints l) = l := by
  unfold Lib.bytesOf ints
  rw [List.map_map]
  conv => rhs; rw [← List.map_id l]
  apply List.map_congr_left
  intro c _
  simp
theorem ints_str (l : List UInt8) : strOfNums (ints l) = bs l := by
  have h := Lib.strOfNums_toList (ints l)
  rw [ints_bytes, Lib.toList_data] at h
  rw [← bs_of (strOfNums (ints l)), h]
theorem ints_range (l : List UInt8) : ∀ x ∈ ints l, 0 ≤ x ∧ x < 256 := by
  intro x hx
  unfold ints at hx
  rw [List.mem_map] at hx
  obtain ⟨c, _, rfl⟩ := hx
  have := c.toNat_lt
  omega
/-- The slice at A of length n reads as the octets l. -/
def Octs (w : World) (A : Option Addr) (n : Nat) (l : List UInt8) : Prop := Vals w A n (nums .u8 (ints l))
theorem Octs.len {w : World} {A : Option Addr} {n : Nat} {l : List UInt8} (h : Octs w A n l) : l.length = n := by
  have := h.1
  unfold nums at this
  rwa [List.length_map, ints_length] at this
theorem Octs.below {w w' : World} {A : Option Addr} {n : Nat} {l : List UInt8} (h : Octs w A n l) (hb : Below w.heap.size w w') : Octs w' A n l := Vals.below h hb
theorem Octs.bytesIn {w : World} {A : Option Addr} {n : Nat} {l : List UInt8} (h : Octs w A n l) : Lib.BytesIn w A n (ints l) := fun hn => by
  obtain ⟨b, off, rfl, _, hc⟩ := h.2 hn
  exact ⟨b, off, rfl, fun i hi => hc i _ (nums_get (by rw [ints_length, h.len]; exact hi))⟩
theorem octs_cells {w : World} {b off n : Nat} {l : List UInt8} (h : Octs w (some ⟨b, off, none⟩) n l) : ∀ j, j < n → w.cell? ⟨b, off + j, none⟩ = some (.int .u8 ((ints l).getD j 0)) := fun j hj => by
  obtain ⟨b', off', e, _, hc⟩ := h.2 (by omega)
  cases e
  exact hc j _ (nums_get (by rw [ints_length, h.len]; exact hj))
theorem octs_of {w : World} {b off n : Nat} {l : List UInt8} (hl : l.length = n) (hb : 0 < n → b < w.heap.size) (h : ∀ j, j < n → w.cell? ⟨b, off + j, none⟩ = some (.int .u8 ((ints l).getD j 0))) : Octs w (some ⟨b, off, none⟩) n l := by
  refine ⟨by unfold nums; rw [List.length_map, ints_length, hl], fun hn => ⟨b, off, rfl, hb hn, fun j v hj => ?_⟩⟩
  have hlt : j < l.length := by
    have := (List.getElem?_eq_some_iff.1 hj).1
    unfold nums at this
    rwa [List.length_map, ints_length] at this
  rw [nums_get (by rw [ints_length]; exact hlt)] at hj
  cases hj
  exact h j (by omega)
theorem ints_get (l : List UInt8) (j : Nat) : (ints l).getD j 0 = oct l j := by
  unfold ints oct
  simp [List.getD_eq_getElem?_getD, List.getElem?_map]
  cases l[j]? <;> rfl
theorem oct_take (l : List UInt8) (k j : Nat) (h : j < k) : oct (l.take k) j = oct l j := by
  unfold oct
  simp [List.getD_eq_getElem?_getD, h]
theorem oct_drop (l : List UInt8) (k j : Nat) : oct (l.drop k) j = oct l (k + j) := by
  unfold oct
  simp [List.getD_eq_getElem?_getD]
theorem Octs.take {w : World} {A : Option Addr} {n : Nat} {l : List UInt8} (h : Octs w A n l) (k : Nat) (hk : k ≤ n) : Octs w A k (l.take k) := by
  have hl := h.len
  rcases Nat.eq_zero_or_pos k with rfl | h0
  · rw [List.take_zero]; exact Vals.nil _ _
  · obtain ⟨b, off, rfl, hb, -⟩ := h.2 (by omega)
    have hc := octs_cells h
    refine octs_of (by simp; omega) (fun _ => hb) (fun j hj => ?_)
    rw [hc j (by omega), ints_get, ints_get, oct_take _ _ _ hj]
theorem octs_from {w : World} {A : Option Addr} {n c : Nat} {l : List UInt8} (h : Octs w A n l) (k : Nat) (hk : k ≤ n) (hc : n ≤ c) : Octs w (if c = k then A else A.map (fun x => x.add k)) (n - k) (l.drop k) := by
  have hl := h.len
  rcases Nat.eq_zero_or_pos (n - k) with h0 | h0
  · rw [h0, List.drop_of_length_le (by omega)]; exact Vals.nil _ _
  · obtain ⟨b, off, rfl, hb, -⟩ := h.2 (by omega)
    have hcl := octs_cells h
    have e : (if c = k then (some ⟨b, off, none⟩ : Option Addr) else (some ⟨b, off, none⟩ : Option Addr).map (fun x => x.add k)) = some ⟨b, off + k, none⟩ := by
      rw [if_neg (by omega)]
      simp [Addr.add]
    rw [e]
    refine octs_of (by simp; omega) (fun _ => hb) (fun j hj => ?_)
    rw [show off + k + j = off + (k + j) by omega, hcl (k + j) (by omega), ints_get, ints_get, oct_drop]

theorem conv22 {A : Option Addr} {n : Nat} (c : Nat) {l : List UInt8} {w : World} (h : Octs w A n l) : (convert 22 9 (.slice A n c)).run Tryz.prog w = .ok (.string (bs l)) w := by
  have hl := h.len
  rcases Nat.eq_zero_or_pos n with h0 | h0
  · subst h0
    obtain rfl : l = [] := List.eq_nil_of_length_eq_zero hl
    cases A with
    | none => exact run_convert_bytes_nil w 22 5 Tryz.underlying22 Tryz.underlying5 0 c 9 Tryz.underlying9
    | some a =>
      rw [run_convert_bytes_string w 22 9 5 _ 0 c Tryz.underlying22 Tryz.underlying5 Tryz.underlying9]
      rw [run_bytesToString w a 0 c [] (by simp [loadCells, loadCellsFrom])]
      rfl
  · obtain ⟨b, off, rfl, -, -⟩ := h.2 h0
    rw [← ints_str]
    exact run_convert_bytes_arg w 22 5 Tryz.underlying22 Tryz.underlying5 b off n c (ints l) (by rw [ints_length, hl]) (octs_cells h) 9 Tryz.underlying9

theorem one_octs (w : World) (c : UInt8) (x : Int) (hx : (c.toNat : Int) = x) : Lib.BytesIn (w.alloc (.cells #[.int .u8 x] 5)) (some ⟨w.heap.size, 0, none⟩) 1 (ints [c]) := fun _ => ⟨_, _, rfl, fun j hj => by
  obtain rfl : j = 0 := by omega
  subst hx
  simp [ints]⟩

theorem noCR_take (l : List UInt8) : noCR l = l.take (noCR l).length := by
  unfold noCR
  split
  · rw [List.length_dropLast, List.dropLast_eq_take]
  · simp
/-- What bytes.TrimSuffix of 0D hands back. -/
theorem trimCR {A : Option Addr} {n c : Nat} {l : List UInt8} {w : World} (h : Octs w A n l) : Lib.trimSuffixV A n c (ints l) (ints [13]) = .slice A (noCR l).length c := by
  have hl := h.len
  rcases Nat.eq_zero_or_pos n with h0 | h0
  · subst h0
    obtain rfl : l = [] := List.eq_nil_of_length_eq_zero hl
    have e : (noCR []).length = 0 := rfl
    rw [e]
    unfold Lib.trimSuffixV
    split
    · unfold Lib.bytesTrimSuffix
      rw [if_neg (by rw [ints_bytes, ints_bytes]; decide)]
    · rfl
  · obtain ⟨b, off, rfl, -, -⟩ := h.2 h0
    show Lib.bytesTrimSuffix b off n c (ints l) (ints [13]) = _
    unfold Lib.bytesTrimSuffix Lib.sliceTo
    rw [ints_bytes, ints_bytes]
    have e : Lib.hasSuffix l [13] = decide (l.getLast? = some 13) := by
      unfold Lib.hasSuffix
      rw [Bool.eq_iff_iff, List.isSuffixOf_iff_suffix]
      simp
      rw [List.getLast?_eq_some_iff]
      constructor
      · rintro ⟨t, rfl⟩; exact ⟨t, rfl⟩
      · rintro ⟨t, rfl⟩; exact ⟨t, rfl⟩
    rw [e]
    unfold noCR
    by_cases hh : l.getLast? = some 13
    · simp [hh, ints_length, hl]
    · simp [hh, hl]
theorem cutV_hit (A : Option Addr) (N c a : Nat) : Lib.cutV A N c 1 (a : Int) = .tuple #[.slice A a c, .slice (if c = a + 1 then A else A.map (fun x => x.add (a + 1))) (N - (a + 1)) (c - (a + 1)), .bool true] := by
  unfold Lib.cutV
  rw [if_pos (by omega)]
  rfl
theorem cutV_miss (A : Option Addr) (N c : Nat) : Lib.cutV A N c 1 (-1) = .tuple #[.slice A N c, .slice none 0 0, .bool false] := by
  unfold Lib.cutV
  rw [if_neg (by omega)]
theorem body_cut {l : List UInt8} {N c : Nat} {A : Option Addr} (hN : (noCR l).length = N) : ∃ k P2 n2 c2 f, Lib.cutV A N c 1 (Lib.index (Lib.bytesOf (ints (noCR l))) (Lib.bytesOf (ints [35]))) = .tuple #[.slice A k c, .slice P2 n2 c2, .bool f] ∧ k ≤ N ∧ bodyOf l = (noCR l).take k := by
  rw [ints_bytes, ints_bytes]
  unfold bodyOf
  by_cases h : (35 : UInt8) ∈ noCR l
  · obtain ⟨a, b, e, ha⟩ := split_at 35 _ h
    rw [e] at hN ⊢
    rw [index_one 35 a b ha, cutAll_some 35 a b ha]
    exact ⟨_, _, _, _, _, cutV_hit A N c a.length, by simp at hN; omega, by simp⟩
  · rw [index_no 35 _ h, cutAll_none 35 _ h]
    exact ⟨_, _, _, _, _, cutV_miss A N c, Nat.le_refl _, by rw [← hN]; simp⟩

/-- MaxLen holds some number. -/
def ML (w : World) : Prop := ∃ m, w.cell? ⟨0, 0, none⟩ = some (.int .i64 m)
theorem ML.below {w w' : World} (h : ML w) (hb : Below w.heap.size w w') : ML w' := by
  obtain ⟨m, hm⟩ := h
  exact ⟨m, (hb.cell (p := ⟨0, 0, none⟩) (by have := World.block_lt_of_cell? w _ hm; exact this)).trans hm⟩
theorem ML.kept {A : Nat → Prop} {w w' : World} (h : ML w) (hk : Kept A w w') (h0 : A 0) : ML w' := by
  obtain ⟨m, hm⟩ := h
  exact ⟨m, hk.cell (a := ⟨0, 0, none⟩) h0 hm⟩

set_option maxRecDepth 100000 in
set_option maxHeartbeats 1000000 in
theorem body36 (A : Option Addr) (n c : Nat) (l : List UInt8) (w : World) (hV : Octs w A n l) (hA : A = none → c = 0) (hc : n ≤ c) (hn : n ≤ 100000) (hm : ML w) :
    Calls Tryz.prog 64 #[.slice A n c] w fun e w' => e = .returned (.string (bs (bodyOf l))) ∧ Below w.heap.size w w' := by
  have b1 : Below w.heap.size w (w.alloc (.cells #[.int .u8 13] 5)) := (Below.refl _ _).alloc (Nat.le_refl _) _
  have c49 := Tryz.bytes_TrimSuffix_all A (some ⟨w.heap.size, 0, none⟩) n c 1 1 (ints l) (ints [13]) (w.alloc (.cells #[.int .u8 13] 5)) (by rw [ints_length, hV.len]) rfl hc (by omega) (hV.below b1).bytesIn (one_octs w 13 13 rfl)
  rw [trimCR hV] at c49
  have hN := noCR_length l
  have hlen := hV.len
  have hV1 := (hV.below b1).take (noCR l).length (by omega)
  rw [← noCR_take] at hV1
  obtain ⟨N, hNN⟩ : ∃ N, (noCR l).length = N := ⟨_, rfl⟩
  rw [hNN] at c49 hN hV1
  have b2 : Below (w.alloc (.cells #[.int .u8 13] 5)).heap.size (w.alloc (.cells #[.int .u8 13] 5)) ((w.alloc (.cells #[.int .u8 13] 5)).alloc (.cells #[.int .u8 35] 5)) := (Below.refl _ _).alloc (Nat.le_refl _) _
  obtain ⟨m, hmm⟩ := (hm.below b1).below b2
  have hV2 := hV1.below b2
  have c35 := Tryz.bytes_Cut_all A (some ⟨w.heap.size + 1, 0, none⟩) N c 1 1 (ints (noCR l)) (ints [35]) m ((w.alloc (.cells #[.int .u8 13] 5)).alloc (.cells #[.int .u8 35] 5)) (by rw [ints_length, hNN]) rfl (ints_range _) (ints_range _) hV2.bytesIn (by have := one_octs (w.alloc (.cells #[.int .u8 13] 5)) 35 35 rfl; simpa using this) hA (by omega) (by omega) (by omega) hmm
  obtain ⟨k, P2, n2, c2, f, hk1, hk2, hk3⟩ := body_cut (A := A) (c := c) hNN
  rw [hk1] at c35
  have hV3 := hV2.take k hk2
  rw [← hk3] at hV3
  have kc := fun q => conv22 c (w := ((w.alloc (.cells #[.int .u8 13] 5)).alloc (.cells #[.int .u8 35] 5)).drewN q) hV3
  obtain ⟨B, hB⟩ : ∃ B, bs (bodyOf l) = B := ⟨_, rfl⟩
  rw [hB] at kc ⊢
  clear hk1 hk3 hV hV1 hV2 hV3 hmm hm hNN hB
  go_enter Tryz.func64, Tryz.ntmps64
  go_wp2_with (first
    | (go_at_call 94; (with_reducible refine c49.mono ?_); rintro e w' ⟨rfl, rfl⟩)
    | (go_at_call 63; (with_reducible refine c35.mono ?_); rintro e w' ⟨rfl, q, rfl⟩))
  go_ret
  exact ⟨rfl, below_drewN (b1.trans (b2.mono (by simp))) q⟩
end Go.Proofs.YtdbnegllncjhkaaGreatDoor

namespace Go.Proofs.YtdbnegllncjhkaaGreatDoor
open Go.RowKit

theorem trim25 (l : List UInt8) (w : World) (hl : l.length ≤ 1000000) : Calls Tryz.prog 41 #[.string (bs l), .string ⟨#[32, 9]⟩] w fun e w' => e = .returned (.string (bs (trim l))) ∧ Below w.heap.size w w' := by
  have c := Tryz.strings_Trim (bs l) ⟨#[32, 9]⟩ w (by rw [bs_size]; omega) (by decide) (ascii_of_all (by decide))
  refine c.mono fun e w' ⟨h1, h2⟩ => ⟨h1.trans ?_, h2⟩
  rw [bs_data, ← trimS_eq]
  rfl

theorem splitB_cut (c : UInt8) : ∀ (n : Nat) (b : List UInt8), b.length ≤ n → Lib.splitB (bs [c]) 0 (Lib.countB (bs b) (bs [c])) (bs b) = (cutAll c b).map bs
  | n, b, hn => by
    have hsz : (bs [c]).size = 1 := by rw [bs_size]; rfl
    by_cases h : c ∈ b
    · obtain ⟨a, t, rfl, ha⟩ := split_at c b h
      have hidx : Lib.indexB (bs (a ++ c :: t)) (bs [c]) = a.length := by
        show Lib.index _ _ = _
        rw [bs_data, bs_data, index_one c a t ha]
      have hext : (bs (a ++ c :: t)).extract (a.length + (bs [c]).size) (bs (a ++ c :: t)).size = bs t := by
        rw [bs_ext, hsz, bs_size]
        congr 1
        rw [List.drop_append]
        simp
        rw [List.drop_of_length_le (by omega), List.nil_append, List.take_of_length_le (by omega)]
      rw [Lib.countB_hit _ _ a.length (by rw [hsz]; exact Nat.le_refl _) hidx, hext, Nat.add_comm, Lib.splitB_hit _ _ _ _ a.length hidx, hext, cutAll_some c a t ha, List.map_cons]
      cases n with
      | zero => simp at hn
      | succ n =>
        rw [splitB_cut c n t (by simp at hn; omega)]
        congr 1
        rw [bs_ext]
        simp
    · have hidx : Lib.indexB (bs b) (bs [c]) = -1 := by
        show Lib.index _ _ = _
        rw [bs_data, bs_data, index_no c b h]
      rw [Lib.splitB_miss _ _ _ _ hidx, cutAll_none c b h]
      rfl
theorem countB_cut (c : UInt8) (b : List UInt8) : Lib.countB (bs b) (bs [c]) + 1 = (cutAll c b).length := by
  have h := Lib.splitB_all (bs [c]) (by rw [bs_size]; exact Nat.le_refl _) 0 _ (bs b) rfl
  rw [splitB_cut c _ b (Nat.le_refl _), List.length_map] at h
  exact h.symm
theorem split44 (b : List UInt8) (w : World) (hb : b.length ≤ 1000000) (hm : ML w) : Calls Tryz.prog 72 #[.string (bs b), .string ⟨#[59]⟩] w fun e w' =>
    e = .returned (.slice (some ⟨w.heap.size, 0, none⟩) (cutAll 59 b).length (cutAll 59 b).length) ∧ w' = w.alloc (.cells (strs (cutAll 59 b)).toArray 9) := by
  obtain ⟨m, hm⟩ := hm
  have c := Tryz.strings_Split (bs b) (bs [59]) m w (by rw [bs_size]; omega) hm (by rw [bs_size]; exact Nat.le_refl _)
  rw [countB_cut 59 b, splitB_cut 59 _ b (Nat.le_refl _), List.map_map] at c
  exact c

def SplRel (P : List (List UInt8)) (w : World) (i : Value) (wr : World) : Prop :=
  Below w.heap.size w wr ∧ w.heap.size < wr.heap.size ∧ ∃ k : Nat, i = .int .i64 k ∧ k ≤ P.length ∧ ∀ j, j < P.length → wr.cell? ⟨w.heap.size, j, none⟩ = some (.string (bs (if j < k then trim (P.getD j []) else P.getD j []))) ∧ wr.frozen? ⟨w.heap.size, j, none⟩ = false
theorem spl_start (P : List (List UInt8)) (w : World) : SplRel P w (.int .i64 0) (w.alloc (.cells (strs P).toArray 9)) := by
  refine ⟨(Below.refl _ _).alloc (Nat.le_refl _) _, by simp, 0, rfl, Nat.zero_le _, fun j hj => ⟨?_, ?_⟩⟩
  · have := lit_cells w (strs P) 9 j _ (strs_get hj)
    rw [add_at, Nat.zero_add] at this
    simpa using this
  · have h := World.alloc_heap_new w (.cells (strs P).toArray 9)
    simp only [World.frozen?]
    rw [h]
    simp
theorem spl_step {P : List (List UInt8)} {w wr w1 : World} {k : Nat} (hk : k < P.length) (hb : Below w.heap.size w wr) (hlt : w.heap.size < wr.heap.size)
    (hc : ∀ j, j < P.length → wr.cell? ⟨w.heap.size, j, none⟩ = some (.string (bs (if j < k then trim (P.getD j []) else P.getD j []))) ∧ wr.frozen? ⟨w.heap.size, j, none⟩ = false)
    (h1 : Below wr.heap.size wr w1) : SplRel P w (.int .i64 ((k : Int) + 1)) (w1.setCell ⟨w.heap.size, k, none⟩ (.string (bs (trim (P.getD k []))))) := by
  have hb1 := hb.trans (h1.mono hb.size)
  have hcell : ∀ j, w1.cell? ⟨w.heap.size, j, none⟩ = wr.cell? ⟨w.heap.size, j, none⟩ := fun j => h1.cell (p := ⟨w.heap.size, j, none⟩) hlt
  have hfz : ∀ j, w1.frozen? ⟨w.heap.size, j, none⟩ = wr.frozen? ⟨w.heap.size, j, none⟩ := fun j => by
    unfold World.frozen?
    rw [h1.block _ hlt]
  refine ⟨hb1.setCell (p := ⟨w.heap.size, k, none⟩) (Nat.le_refl _) _, ?_, k + 1, by go_num, hk, fun j hj => ⟨?_, ?_⟩⟩
  · rw [World.size_setCell]; exact Nat.lt_of_lt_of_le hlt h1.size
  · by_cases e : j = k
    · subst e
      rw [World.cell?_setCell_same' _ _ _ (by rw [hcell, (hc j hj).1]; rfl), if_pos (by omega)]
    · rw [World.cell?_setCell_other _ _ _ _ (by simp), hcell, (hc j hj).1]
      by_cases h : j < k
      · rw [if_pos h, if_pos (by omega)]
      · rw [if_neg h, if_neg (by omega)]
  · rw [World.frozen?_setCell, hfz]; exact (hc j hj).2

def FieldsPost (b : List UInt8) (w : World) (e : Ending) (w' : World) : Prop :=
  Below w.heap.size w w' ∧ ∃ A, e = .returned (.slice A (fieldsOf b).length (fieldsOf b).length) ∧ Vals w' A (fieldsOf b).length (strs (fieldsOf b))

set_option maxRecDepth 100000 in
set_option maxHeartbeats 1000000 in
theorem split26 (b : List UInt8) (w : World) (hb : b.length ≤ 100000) (hm : ML w) : Calls Tryz.prog 42 #[.string (bs b)] w (FieldsPost b w) := by
  have c44 := split44 b w (by omega) hm
  have hPl := cutAll_length 59 b
  have hPp := fun k (h : k < (cutAll 59 b).length) => cutAll_mem_length 59 b _ (getD_mem (d := []) h)
  have hfin : Hid ((cutAll 59 b).map trim = fieldsOf b) := Lib.hid rfl
  obtain ⟨P, hP⟩ : ∃ P, cutAll 59 b = P := ⟨_, rfl⟩
  rw [hP] at c44 hPl hPp hfin
  obtain ⟨n, hn⟩ : ∃ n, P.length = n := ⟨_, rfl⟩
  rw [hn] at c44 hPl
  have HN := Lib.hid hn
  have HPP := Lib.hid hPp
  have hst := Lib.hid (spl_start P w)
  clear hP hn hPp hm
  obtain ⟨W, hW⟩ : ∃ W, w.alloc (.cells (strs P).toArray 9) = W := ⟨_, rfl⟩
  rw [hW] at c44 hst
  clear hW
  go_enter Tryz.func42, Tryz.ntmps42
  go_wp2_with (go_at_call 72; (with_reducible refine c44.mono ?_); rintro e w' ⟨rfl, rfl⟩)
  go_loopw [10] (fun i wr => SplRel P w i wr) (fun i _ => n - (intOf i).toNat)
  case atStart => exact hst.out
  case round =>
    obtain ⟨hbel, hlt, k, rfl, hkP, hc⟩ := hrel
    by_cases hk : k < n
    · have hk' : k < P.length := by rw [HN.out]; exact hk
      have hck := (hc k hk').1
      rw [if_neg (Nat.lt_irrefl k)] at hck
      have hfk := (hc k hk').2
      have c25 := trim25 (P.getD k []) wr (by have := HPP.out k hk'; omega)
      have hstep := fun w1 h1 => @spl_step P w wr w1 k hk' hbel hlt hc h1
      obtain ⟨p, hp⟩ : ∃ p, P.getD k [] = p := ⟨_, rfl⟩
      rw [hp] at hck c25 hstep
      have HST := Lib.hid hstep
      clear hc hstep hp hk' hkP
      have hfr : ∀ w1, Below wr.heap.size wr w1 → w1.frozen? ⟨w.heap.size, k, none⟩ = false ∧ w1.cell? ⟨w.heap.size, k, none⟩ = some (.string (bs p)) := fun w1 h1 => by
        refine ⟨?_, (h1.cell (p := ⟨w.heap.size, k, none⟩) hlt).trans hck⟩
        have := hfk
        unfold World.frozen? at this ⊢
        rw [h1.block _ hlt]
        exact this
      have HFR := Lib.hid hfr
      clear hfr
      go_wp2_with (go_at_call 41; (with_reducible refine c25.mono ?_); rintro e w1 ⟨rfl, hb1⟩; obtain ⟨hf1, hc1⟩ := HFR.out w1 hb1)
      go_roundw
      case rel => exact HST.out w1 hb1
      case measure => simp [intOf]; omega
    · have hke : k = n := by have := HN.out; omega
      subst hke
      have hres : Hid (Vals wr (some ⟨w.heap.size, 0, none⟩) (fieldsOf b).length (strs (fieldsOf b))) := by
        refine ⟨strs_length _, fun _ => ⟨_, _, rfl, hlt, fun j v hj => ?_⟩⟩
        rw [← hfin.out] at hj
        have hj' : j < P.length := by
          have := (List.getElem?_eq_some_iff.1 hj).1
          rwa [strs_length, List.length_map] at this
        rw [strs_get (by rw [List.length_map]; exact hj')] at hj
        cases hj
        rw [Nat.zero_add, (hc j hj').1, if_pos (by rw [← HN.out]; exact hj')]
        simp [List.getD_eq_getElem?_getD, List.getElem?_eq_getElem hj']
      have hle : Hid ((fieldsOf b).length = k) := by rw [← hfin.out, List.length_map, HN.out]; exact Lib.hid rfl
      clear hc hkP
      go_wp2
      go_ret
      have H := hres.out
      exact ⟨hbel, some ⟨w.heap.size, 0, none⟩, by rw [hle.out]; rfl, H⟩
end Go.Proofs.YtdbnegllncjhkaaGreatDoor

namespace Go.Proofs.YtdbnegllncjhkaaGreatDoor
open Go.RowKit Go.Shelf
attribute [local go_sem] Oper.semAt_some

def lenOf : Value → Nat
  | .slice _ n _ => n
  | _ => 0
theorem lenOf_slice (A : Option Addr) (n c : Nat) : lenOf (.slice A n c) = n := rfl

set_option maxHeartbeats 1000000 in
theorem bodies24 (A : Option Addr) (n c : Nat) (w : World) : Calls Tryz.prog 40 #[.slice A n c] w fun e w' => e = .returned (.func (.func 62) #[] #[.pointer (some ⟨w.heap.size, 0, none⟩)]) ∧ w' = w.alloc (.cells #[.slice A n c] 22) := by
  go_enter Tryz.func40, Tryz.ntmps40
  go_wp2
  go_ret
  exact ⟨rfl, rfl⟩

/-- Where the going through stands. -/
def BodRel (L : List UInt8) (A : Nat → Prop) (n : Nat) (W : World) (J : List (Int × List UInt8) → World → Prop) (r i : Value) (wr : World) : Prop :=
  ∃ (pre : List (Int × List UInt8)) (rest : List UInt8) (P : Option Addr) (n' c' k : Nat), r = .slice P n' c' ∧ i = .int .i64 ((k : Int) + 1) ∧ Octs wr P n' rest ∧ (P = none → c' = 0) ∧ n' ≤ c' ∧ (∀ a, P = some a → A a.block) ∧
    numbered 1 (pieces L) = pre ++ numbered ((k : Int) + 1) (pieces rest) ∧ pre.length = k ∧ k + n' ≤ n ∧ J pre wr ∧ Kept A W wr

theorem rest_none {l : List UInt8} {n : Nat} (h : l.length = n) (h0 : 0 < n) (hn : (10 : UInt8) ∉ l) : pieces l = [l] := pieces_none hn (by rintro rfl; simp at h; omega)
theorem numbered_one (k : Int) (l : List UInt8) : numbered k [l] = [(k, bodyOf l)] := rfl

/-- What bytes.Cut of 0A hands back for what is left: the first line, and what is left behind it. -/
theorem line_cut {P : Option Addr} {n c : Nat} {rest : List UInt8} {w : World} (hO : Octs w P n rest) (h0 : 0 < n) (hc : n ≤ c) :
    ∃ (k : Nat) (Q : Option Addr) (n2 c2 : Nat) (f : Bool) (t : List UInt8), Lib.cutV P n c 1 (Lib.index (Lib.bytesOf (ints rest)) (Lib.bytesOf (ints [10]))) = .tuple #[.slice P k c, .slice Q n2 c2, .bool f] ∧ k ≤ n ∧ n2 < n ∧ n2 ≤ c2 ∧ (Q = none → c2 = 0) ∧
      (∀ a, Q = some a → ∃ a', P = some a' ∧ a.block = a'.block) ∧ Octs w Q n2 t ∧ pieces rest = rest.take k :: pieces t := by
  have hl := hO.len
  rw [ints_bytes, ints_bytes]
  obtain ⟨b, off, rfl, -, -⟩ := hO.2 h0
  by_cases h : (10 : UInt8) ∈ rest
  · obtain ⟨a, t, rfl, ha⟩ := split_at 10 rest h
    rw [index_one 10 a t ha]
    have hlen : a.length + 1 ≤ n := by simp at hl; omega
    refine ⟨_, _, _, _, _, t, cutV_hit _ n c a.length, by omega, by omega, by omega, ?_, ?_, ?_, ?_⟩
    · intro h
      split at h
      · cases h
      · simp at h
    · intro x hx
      split at hx
      · exact ⟨x, hx, rfl⟩
      · simp at hx
        subst hx
        exact ⟨_, rfl, by simp [Addr.add]⟩
    · have := octs_from hO (a.length + 1) hlen hc
      rw [List.drop_append, List.drop_of_length_le (by omega)] at this
      simpa using this
    · rw [pieces_some ha]
      simp
  · rw [index_no 10 rest h]
    exact ⟨_, _, _, _, _, [], cutV_miss _ n c, Nat.le_refl _, h0, Nat.le_refl _, fun _ => rfl, fun a e => (by cases e), Vals.nil _ _, by rw [rest_none hl h0 h, pieces_nil, List.take_of_length_le (by omega)]⟩

set_option maxRecDepth 100000 in
set_option maxHeartbeats 4000000 in
theorem iter34 (m l B n c : Nat) (P0 : Option Addr) (L : List UInt8) (A : Nat → Prop) (hm : 1 ≤ m) (hn : n ≤ 100000) (J Jx : List (Int × List UInt8) → World → Prop) (hJ : ∀ s W W', J s W → Below W.heap.size W W' → J s W')
    (hY : ∀ pre x W, J pre W → x.2.length ≤ 100000 → pre.length < 200000 → YieldAt Fence.wide (m - 1) Tryz.prog l #[.int .i64 x.1, .string (bs x.2)] W fun e W' =>
      ((e = .returned (.bool true) ∧ J (pre ++ [x]) W') ∨ (e = .returned (.bool false) ∧ Jx (pre ++ [x]) W')) ∧ Kept A W W')
    (W : World) (hBs : W.cell? ⟨B, 0, none⟩ = some (.slice P0 n c)) (hO : Octs W P0 n L) (hP : ∀ a, P0 = some a → A a.block) (hA0 : A 0) (hM : ML W) (hPc : P0 = none → c = 0) (hc : n ≤ c) (h0 : J [] W) :
    CallsIn Fence.wide m Tryz.prog 62 #[.func (.yield l) #[] #[], .pointer (some ⟨B, 0, none⟩)] W fun e W' => (∃ v, e = .returned v) ∧
      ((∃ ys, ys = numbered 1 (pieces L) ∧ J ys W') ∨ (∃ pre, pre <+: numbered 1 (pieces L) ∧ Jx pre W')) := by
  refine callsIn_of_wp Tryz.func62 rfl trivial ?_ rfl
  simp only [Tryz.ntmps62, List.size_toArray, List.length_cons, List.length_nil, Nat.reduceAdd, Nat.reduceSub, Array.replicate_succ, Array.replicate_zero, List.push_toArray, List.append_toArray, List.nil_append, List.cons_append]
  gi_wp2
  gi_loopw [3, 4] (fun r i wr => BodRel L A n W J r i wr) (fun r _ _ => lenOf r)
  case atStart => exact ⟨[], L, P0, n, c, 0, rfl, rfl, hO, hPc, hc, hP, by simp, rfl, by omega, h0, Kept.refl _ _⟩
  case round =>
    clear hBs hO hP h0 hPc hc
    obtain ⟨pre, rest, P, n', c', k, rfl, rfl, hOr, hPr, hcr, hAr, hnum, hpre, hkn, hJr, hKr⟩ := hrel
    by_cases hpos : 0 < n'
    · have b1 : Below wr.heap.size wr (wr.alloc (.cells #[.int .u8 10] 5)) := (Below.refl _ _).alloc (Nat.le_refl _) _
      have hO1 := hOr.below b1
      obtain ⟨mm, hmm⟩ := (hM.kept hKr hA0).below b1
      have c35 := Tryz.bytes_Cut_all P (some ⟨wr.heap.size, 0, none⟩) n' c' 1 1 (ints rest) (ints [10]) mm (wr.alloc (.cells #[.int .u8 10] 5)) (by rw [ints_length, hOr.len]) rfl (ints_range _) (ints_range _) hO1.bytesIn (one_octs wr 10 10 rfl) hPr hcr (by omega) (by omega) hmm
      obtain ⟨k1, Q, n2, c2, f, t, e1, hk1, hn2, hc2, hQc, hQb, hOt, hpc⟩ := line_cut hOr hpos hcr
      rw [e1] at c35
      have hOl := hO1.take k1 hk1
      have c36 := fun q => callsIn_wide (n := m - 1) |>.2 (body36 P k1 c' (rest.take k1) ((wr.alloc (.cells #[.int .u8 10] 5)).drewN q) hOl hPr (by omega) (by omega) ⟨mm, hmm⟩)
      have c35 := callsIn_wide (n := m - 1) |>.2 c35
      have hQA : ∀ a, Q = some a → A a.block := fun a e => by obtain ⟨a', e', h'⟩ := hQb a e; rw [h']; exact hAr a' e'
      have hx : pre ++ numbered ((k : Int) + 1) (pieces rest) = (pre ++ [((k : Int) + 1, bodyOf (rest.take k1))]) ++ numbered (((k + 1 : Nat) : Int) + 1) (pieces t) := by
        rw [hpc, numbered, List.append_assoc]
        simp
      rw [hx] at hnum
      have hY2 := fun w1 (hb1 : Below wr.heap.size wr w1) => hY pre ((k : Int) + 1, bodyOf (rest.take k1)) w1 (hJ _ _ _ hJr hb1) (by have h1 := body_length (rest.take k1); have h2 : (rest.take k1).length ≤ k1 := List.length_take_le _ _; dsimp only; omega) (by omega)
      obtain ⟨bd, hbd⟩ : ∃ bd, bodyOf (rest.take k1) = bd := ⟨_, rfl⟩
      rw [hbd] at hY2 hnum
      simp only [hbd] at c36
      have hend := fun w1 W3 (hb1 : Below wr.heap.size wr w1) (hk3 : Kept A w1 W3) (hJ3 : J (pre ++ [((k : Int) + 1, bd)]) W3) => show BodRel L A n W J (.slice Q n2 c2) (.int .i64 ((k : Int) + 1 + 1)) W3 from
        ⟨_, t, Q, n2, c2, k + 1, rfl, by go_num, Vals.kept hOt ((Kept.of_below (A := A) hb1).trans hk3) hQA, hQc, hc2, hQA, hnum, by simp [hpre], by omega, hJ3, hKr.trans ((Kept.of_below hb1).trans hk3)⟩
      have hstop : Hid (pre ++ [((k : Int) + 1, bd)] <+: numbered 1 (pieces L)) := Lib.hid ⟨_, hnum.symm⟩
      have hbb := fun q w1 (hb : Below ((wr.alloc (.cells #[.int .u8 10] 5)).drewN q).heap.size ((wr.alloc (.cells #[.int .u8 10] 5)).drewN q) w1) => show Below wr.heap.size wr w1 from (below_drewN b1 q).trans (hb.mono b1.size)
      have HBB := Lib.hid hbb
      have C36 := Lib.hid c36
      have HE := Lib.hid hend
      have HY2 := Lib.hid hY2
      have HJ := Lib.hid hJ
      have HYY := Lib.hid hY
      have HQA := Lib.hid hQA
      have HQB := Lib.hid hQb
      have HAR := Lib.hid hAr
      have HNUM := Lib.hid hnum
      have HQC := Lib.hid hQc
      have HPR := Lib.hid hPr
      have HOR := Lib.hid hOr
      clear hbb c36 hend hY2 hJ hY hQA hQb hAr hnum hQc hPr hOr hO1 hOl hOt hpc hx hmm hM hJr hbd e1
      have hlen : lenOf (.slice P n' c') = n' := rfl
      gi_wp2_with (first
        | (refine ⟨trivial, ?_⟩; gi_at_call 63; (with_reducible refine c35.mono ?_); rintro e w' ⟨rfl, q, rfl⟩)
        | (refine ⟨trivial, ?_⟩; gi_at_call 64; (with_reducible refine (C36.out q).mono ?_); rintro e w1 ⟨rfl, hb1⟩; have hb1' := HBB.out q w1 hb1; obtain ⟨fn, tmps, assign, body, hy, hR⟩ := HY2.out w1 hb1'))
      refine hR.mono ?_
      rintro e W3 ⟨⟨rfl, hJ3⟩ | ⟨rfl, hJx3⟩, hk3⟩
      · gi_wp2
        go_roundw
        case rel => exact HE.out w1 W3 hb1' hk3 hJ3
        case measure => rw [lenOf_slice, lenOf_slice]; exact hn2
      · gi_wp2
        refine bodyPost_ret (results_none rfl _ _ _) rfl ?_
        exact ⟨⟨_, rfl⟩, .inr ⟨_, hstop.out, hJx3⟩⟩
    · obtain rfl : n' = 0 := by omega
      have hr : rest = [] := List.eq_nil_of_length_eq_zero hOr.len
      rw [hr, pieces_nil] at hnum
      have HE : Hid (pre = numbered 1 (pieces L)) := by rw [hnum]; simp [numbered]; trivial
      have HJR := Lib.hid hJr
      have HPR := Lib.hid hPr
      clear hnum hOr hAr hJr hPr hJ hY hM hr
      gi_wp2
      go_end0
      exact ⟨⟨_, rfl⟩, .inl ⟨_, HE.out, HJR.out⟩⟩
end Go.Proofs.YtdbnegllncjhkaaGreatDoor
