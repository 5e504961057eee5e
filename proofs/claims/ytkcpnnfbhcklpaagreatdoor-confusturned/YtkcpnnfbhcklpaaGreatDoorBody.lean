/- A slice of octets; what the program's body of a line is, and a body's fields. -/
import Derived.Test.YtkcpnnfbhcklpaaGreatDoorShelf
import Derived.Test.YtkcpnnfbhcklpaaGreatDoorShelc
import Derived.Test.YtkcpnnfbhcklpaaGreatDoorRlines
import Derived.Lib.SplitLaws
import Derived.Lib.Bytes
import Derived.Laws.BytesArg
namespace Go.Proofs.YtkcpnnfbhcklpaaGreatDoor
open Go.RowKit

def ints (l : List UInt8) : List Int := l.map fun c => (c.toNat : Int)
theorem ints_length (l : List UInt8) : (ints l).length = l.length := List.length_map _
theorem ints_bytes (l : List UInt8) : Lib.bytesOf (ints l) = l := by
  unfold Lib.bytesOf ints
  rw [List.map_map]
  conv => rhs; rw [← List.map_id l]
  apply List.map_congr_left
  intro c _
  simp
theorem ints_str (l : List UInt8) : strOfNums (ints l) = bs l := by
  have h := Lib.strOfNums_toList (ints l)
  rw [ints_bytes, Lib.toList_data] at h
  rw [← bs_of (strOfNums (ints l)), h]
theorem ints_range (l : List UInt8) : ∀ x ∈ ints l, 0 ≤ x ∧ x < 256 := by
  intro x hx
  unfold ints at hx
  rw [List.mem_map] at hx
  obtain ⟨c, _, rfl⟩ := hx
  have := c.toNat_lt
  omega
/-- The slice at A of length n reads as the octets l. -/
def Octs (w : World) (A : Option Addr) (n : Nat) (l : List UInt8) : Prop := Vals w A n (nums .u8 (ints l))
theorem Octs.len {w : World} {A : Option Addr} {n : Nat} {l : List UInt8} (h : Octs w A n l) : l.length = n := by
  have := h.1
  unfold nums at this
  rwa [List.length_map, ints_length] at this
theorem Octs.below {w w' : World} {A : Option Addr} {n : Nat} {l : List UInt8} (h : Octs w A n l) (hb : Below w.heap.size w w') : Octs w' A n l := Vals.below h hb
theorem Octs.bytesIn {w : World} {A : Option Addr} {n : Nat} {l : List UInt8} (h : Octs w A n l) : Lib.BytesIn w A n (ints l) := fun hn => by
  obtain ⟨b, off, rfl, _, hc⟩ := h.2 hn
  exact ⟨b, off, rfl, fun i hi => hc i _ (nums_get (by rw [ints_length, h.len]; exact hi))⟩
theorem octs_cells {w : World} {b off n : Nat} {l : List UInt8} (h : Octs w (some ⟨b, off, none⟩) n l) : ∀ j, j < n → w.cell? ⟨b, off + j, none⟩ = some (.int .u8 ((ints l).getD j 0)) := fun j hj => by
  obtain ⟨b', off', e, _, hc⟩ := h.2 (by omega)
  cases e
  exact hc j _ (nums_get (by rw [ints_length, h.len]; exact hj))
theorem octs_of {w : World} {b off n : Nat} {l : List UInt8} (hl : l.length = n) (hb : 0 < n → b < w.heap.size) (h : ∀ j, j < n → w.cell? ⟨b, off + j, none⟩ = some (.int .u8 ((ints l).getD j 0))) : Octs w (some ⟨b, off, none⟩) n l := by
  refine ⟨by unfold nums; rw [List.length_map, ints_length, hl], fun hn => ⟨b, off, rfl, hb hn, fun j v hj => ?_⟩⟩
  have hlt : j < l.length := by
    have := (List.getElem?_eq_some_iff.1 hj).1
    unfold nums at this
    rwa [List.length_map, ints_length] at this
  rw [nums_get (by rw [ints_length]; exact hlt)] at hj
  cases hj
  exact h j (by omega)
theorem ints_get (l : List UInt8) (j : Nat) : (ints l).getD j 0 = oct l j := by
  unfold ints oct
  simp [List.getD_eq_getElem?_getD, List.getElem?_map]
  cases l[j]? <;> rfl
theorem oct_take (l : List UInt8) (k j : Nat) (h : j < k) : oct (l.take k) j = oct l j := by
  unfold oct
  simp [List.getD_eq_getElem?_getD, h]
theorem oct_drop (l : List UInt8) (k j : Nat) : oct (l.drop k) j = oct l (k + j) := by
  unfold oct
  simp [List.getD_eq_getElem?_getD]
theorem Octs.take {w : World} {A : Option Addr} {n : Nat} {l : List UInt8} (h : Octs w A n l) (k : Nat) (hk : k ≤ n) : Octs w A k (l.take k) := by
  have hl := h.len
  rcases Nat.eq_zero_or_pos k with rfl | h0
  · rw [List.take_zero]; exact Vals.nil _ _
  · obtain ⟨b, off, rfl, hb, -⟩ := h.2 (by omega)
    have hc := octs_cells h
    refine octs_of (by simp; omega) (fun _ => hb) (fun j hj => ?_)
    rw [hc j (by omega), ints_get, ints_get, oct_take _ _ _ hj]
theorem octs_from {w : World} {A : Option Addr} {n c : Nat} {l : List UInt8} (h : Octs w A n l) (k : Nat) (hk : k ≤ n) (hc : n ≤ c) : Octs w (if c = k then A else A.map (fun x => x.add k)) (n - k) (l.drop k) := by
  have hl := h.len
  rcases Nat.eq_zero_or_pos (n - k) with h0 | h0
  · rw [h0, List.drop_of_length_le (by omega)]; exact Vals.nil _ _
  · obtain ⟨b, off, rfl, hb, -⟩ := h.2 (by omega)
    have hcl := octs_cells h
    have e : (if c = k then (some ⟨b, off, none⟩ : Option Addr) else (some ⟨b, off, none⟩ : Option Addr).map (fun x => x.add k)) = some ⟨b, off + k, none⟩ := by
      rw [if_neg (by omega)]
      simp [Addr.add]
    rw [e]
    refine octs_of (by simp; omega) (fun _ => hb) (fun j hj => ?_)
    rw [show off + k + j = off + (k + j) by omega, hcl (k + j) (by omega), ints_get, ints_get, oct_drop]

theorem conv22 {A : Option Addr} {n : Nat} (c : Nat) {l : List UInt8} {w : World} (h : Octs w A n l) : (convert 22 9 (.slice A n c)).run Tryz.prog w = .ok (.string (bs l)) w := by
  have hl := h.len
  rcases Nat.eq_zero_or_pos n with h0 | h0
  · subst h0
    obtain rfl : l = [] := List.eq_nil_of_length_eq_zero hl
    cases A with
    | none => exact run_convert_bytes_nil w 22 5 Tryz.underlying22 Tryz.underlying5 0 c 9 Tryz.underlying9
    | some a =>
      rw [run_convert_bytes_string w 22 9 5 _ 0 c Tryz.underlying22 Tryz.underlying5 Tryz.underlying9]
      rw [run_bytesToString w a 0 c [] (by simp [loadCells, loadCellsFrom])]
      rfl
  · obtain ⟨b, off, rfl, -, -⟩ := h.2 h0
    rw [← ints_str]
    exact run_convert_bytes_arg w 22 5 Tryz.underlying22 Tryz.underlying5 b off n c (ints l) (by rw [ints_length, hl]) (octs_cells h) 9 Tryz.underlying9

theorem one_octs (w : World) (c : UInt8) (x : Int) (hx : (c.toNat : Int) = x) : Lib.BytesIn (w.alloc (.cells #[.int .u8 x] 5)) (some ⟨w.heap.size, 0, none⟩) 1 (ints [c]) := fun _ => ⟨_, _, rfl, fun j hj => by
  obtain rfl : j = 0 := by omega
  subst hx
  simp [ints]⟩

theorem noCR_take (l : List UInt8) : noCR l = l.take (noCR l).length := by
  unfold noCR
  split
  · rw [List.length_dropLast, List.dropLast_eq_take]
  · simp
/-- What bytes.TrimSuffix of 0D hands back. -/
theorem trimCR {A : Option Addr} {n c : Nat} {l : List UInt8} {w : World} (h : Octs w A n l) : Lib.trimSuffixV A n c (ints l) (ints [13]) = .slice A (noCR l).length c := by
  have hl := h.len
  rcases Nat.eq_zero_or_pos n with h0 | h0
  · subst h0
    obtain rfl : l = [] := List.eq_nil_of_length_eq_zero hl
    have e : (noCR []).length = 0 := rfl
    rw [e]
    unfold Lib.trimSuffixV
    split
    · unfold Lib.bytesTrimSuffix
      rw [if_neg (by rw [ints_bytes, ints_bytes]; decide)]
    · rfl
  · obtain ⟨b, off, rfl, -, -⟩ := h.2 h0
    show Lib.bytesTrimSuffix b off n c (ints l) (ints [13]) = _
    unfold Lib.bytesTrimSuffix Lib.sliceTo
    rw [ints_bytes, ints_bytes]
    have e : Lib.hasSuffix l [13] = decide (l.getLast? = some 13) := by
      unfold Lib.hasSuffix
      rw [Bool.eq_iff_iff, List.isSuffixOf_iff_suffix]
      simp
      rw [List.getLast?_eq_some_iff]
      constructor
      · rintro ⟨t, rfl⟩; exact ⟨t, rfl⟩
      · rintro ⟨t, rfl⟩; exact ⟨t, rfl⟩
    rw [e]
    unfold noCR
    by_cases hh : l.getLast? = some 13
    · simp [hh, ints_length, hl]
    · simp [hh, hl]
theorem cutV_hit (A : Option Addr) (N c a : Nat) : Lib.cutV A N c 1 (a : Int) = .tuple #[.slice A a c, .slice (if c = a + 1 then A else A.map (fun x => x.add (a + 1))) (N - (a + 1)) (c - (a + 1)), .bool true] := by
  unfold Lib.cutV
  rw [if_pos (by omega)]
  rfl
theorem cutV_miss (A : Option Addr) (N c : Nat) : Lib.cutV A N c 1 (-1) = .tuple #[.slice A N c, .slice none 0 0, .bool false] := by
  unfold Lib.cutV
  rw [if_neg (by omega)]
theorem body_cut {l : List UInt8} {N c : Nat} {A : Option Addr} (hN : (noCR l).length = N) : ∃ k P2 n2 c2 f, Lib.cutV A N c 1 (Lib.index (Lib.bytesOf (ints (noCR l))) (Lib.bytesOf (ints [35]))) = .tuple #[.slice A k c, .slice P2 n2 c2, .bool f] ∧ k ≤ N ∧ bodyOf l = (noCR l).take k := by
  rw [ints_bytes, ints_bytes]
  unfold bodyOf
  by_cases h : (35 : UInt8) ∈ noCR l
  · obtain ⟨a, b, e, ha⟩ := split_at 35 _ h
    rw [e] at hN ⊢
    rw [index_one 35 a b ha, cutAll_some 35 a b ha]
    exact ⟨_, _, _, _, _, cutV_hit A N c a.length, by simp at hN; omega, by simp⟩
  · rw [index_no 35 _ h, cutAll_none 35 _ h]
    exact ⟨_, _, _, _, _, cutV_miss A N c, Nat.le_refl _, by rw [← hN]; simp⟩

/-- MaxLen holds some number. -/
def ML (w : World) : Prop := ∃ m, w.cell? ⟨0, 0, none⟩ = some (.int .i64 m)
theorem ML.below {w w' : World} (h : ML w) (hb : Below w.heap.size w w') : ML w' := by
  obtain ⟨m, hm⟩ := h
  exact ⟨m, (hb.cell (p := ⟨0, 0, none⟩) (by have := World.block_lt_of_cell? w _ hm; exact this)).trans hm⟩
theorem ML.kept {A : Nat → Prop} {w w' : World} (h : ML w) (hk : Kept A w w') (h0 : A 0) : ML w' := by
  obtain ⟨m, hm⟩ := h
  exact ⟨m, hk.cell (a := ⟨0, 0, none⟩) h0 hm⟩

set_option maxRecDepth 100000 in
set_option maxHeartbeats 1000000 in
theorem body36 (A : Option Addr) (n c : Nat) (l : List UInt8) (w : World) (hV : Octs w A n l) (hA : A = none → c = 0) (hc : n ≤ c) (hn : n ≤ 100000) (hm : ML w) :
    Calls Tryz.prog 42 #[.slice A n c] w fun e w' => e = .returned (.string (bs (bodyOf l))) ∧ Below w.heap.size w w' := by
  have b1 : Below w.heap.size w (w.alloc (.cells #[.int .u8 13] 5)) := (Below.refl _ _).alloc (Nat.le_refl _) _
  have c49 := Tryz.bytes_TrimSuffix_all A (some ⟨w.heap.size, 0, none⟩) n c 1 1 (ints l) (ints [13]) (w.alloc (.cells #[.int .u8 13] 5)) (by rw [ints_length, hV.len]) rfl hc (by omega) (hV.below b1).bytesIn (one_octs w 13 13 rfl)
  rw [trimCR hV] at c49
  have hN := noCR_length l
  have hlen := hV.len
  have hV1 := (hV.below b1).take (noCR l).length (by omega)
  rw [← noCR_take] at hV1
  obtain ⟨N, hNN⟩ : ∃ N, (noCR l).length = N := ⟨_, rfl⟩
  rw [hNN] at c49 hN hV1
  have b2 : Below (w.alloc (.cells #[.int .u8 13] 5)).heap.size (w.alloc (.cells #[.int .u8 13] 5)) ((w.alloc (.cells #[.int .u8 13] 5)).alloc (.cells #[.int .u8 35] 5)) := (Below.refl _ _).alloc (Nat.le_refl _) _
  obtain ⟨m, hmm⟩ := (hm.below b1).below b2
  have hV2 := hV1.below b2
  have c35 := Tryz.bytes_Cut_all A (some ⟨w.heap.size + 1, 0, none⟩) N c 1 1 (ints (noCR l)) (ints [35]) m ((w.alloc (.cells #[.int .u8 13] 5)).alloc (.cells #[.int .u8 35] 5)) (by rw [ints_length, hNN]) rfl (ints_range _) (ints_range _) hV2.bytesIn (by have := one_octs (w.alloc (.cells #[.int .u8 13] 5)) 35 35 rfl; simpa using this) hA (by omega) (by omega) (by omega) hmm
  obtain ⟨k, P2, n2, c2, f, hk1, hk2, hk3⟩ := body_cut (A := A) (c := c) hNN
  rw [hk1] at c35
  have hV3 := hV2.take k hk2
  rw [← hk3] at hV3
  have kc := fun q => conv22 c (w := ((w.alloc (.cells #[.int .u8 13] 5)).alloc (.cells #[.int .u8 35] 5)).drewN q) hV3
  obtain ⟨B, hB⟩ : ∃ B, bs (bodyOf l) = B := ⟨_, rfl⟩
  rw [hB] at kc ⊢
  clear hk1 hk3 hV hV1 hV2 hV3 hmm hm hNN hB
  go_enter Tryz.func42, Tryz.ntmps42
  go_wp2_with (first
    | (go_at_call 58; (with_reducible refine c49.mono ?_); rintro e w' ⟨rfl, rfl⟩)
    | (go_at_call 41; (with_reducible refine c35.mono ?_); rintro e w' ⟨rfl, q, rfl⟩))
  go_ret
  exact ⟨rfl, below_drewN (b1.trans (b2.mono (by simp))) q⟩
end Go.Proofs.YtkcpnnfbhcklpaaGreatDoor
