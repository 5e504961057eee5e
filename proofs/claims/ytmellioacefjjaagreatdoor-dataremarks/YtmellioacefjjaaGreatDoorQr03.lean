/- Slices that read as lists of values; rows of the call's own, and what append makes of them; no program is spoken of. -/
/- What the document's own Lines hands back. -/
/- A slice of octets; what the program's body of a line is, and a body's fields. -/
/- A world for the rows' witness, which holds the two tables of unicode/utf8 as Go's text lays them; what a slice of integers that came in is. -/
/- A bundle that came in, opened, with the bound on its sizes that the form itself gives (each slice takes at most 2^47 - 4096 octets). -/
import Derived.Test.YtmellioacefjjaaGreatDoorQr02
import Derived.Lib.FrozenHead
import Derived.Laws.OwnMore
import Derived.OwnWalkIn
import Derived.Test.YtmellioacefjjaaGreatDoorProg
import Derived.BigQuiet
import Derived.Test.YtmellioacefjjaaGreatDoorQr01
import Derived.Lib.SplitLaws
import Derived.Lib.Bytes
import Derived.Laws.BytesArg
import Derived.Test.YtmellioacefjjaaGreatDoorRows
import Derived.Lib.LaidU8T
import Derived.WalkKit
import Derived.ProofKit
import Derived.OpenShut
import Derived.ShutString
import Derived.ChangeOld
import Derived.ChangeMaps5
import Derived.Below
import Derived.LaidSub
import Derived.MakeChecks
import Derived.Deep.DeepHandedRow
import Derived.Test.YtmellioacefjjaaGreatDoorQr00
import Derived.SizedLaws
namespace Go.Proofs.YtmellioacefjjaaGreatDoor
open Go.RowKit

/-- The slice value with address A and length n reads, in w, as the values vs. -/
def Vals (w : World) (A : Option Addr) (n : Nat) (vs : List Value) : Prop :=
  vs.length = n ∧ (0 < n → ∃ b off, A = some ⟨b, off, none⟩ ∧ b < w.heap.size ∧ ∀ j v, vs[j]? = some v → w.cell? ⟨b, off + j, none⟩ = some v)
theorem Vals.below {w w' : World} {A : Option Addr} {n : Nat} {vs : List Value} (h : Vals w A n vs) (hb : Below w.heap.size w w') : Vals w' A n vs := by
  refine ⟨h.1, fun hn => ?_⟩
  obtain ⟨b, off, rfl, hlt, hc⟩ := h.2 hn
  exact ⟨b, off, rfl, Nat.lt_of_lt_of_le hlt hb.size, fun j v hj => (hb.cell (p := ⟨b, off + j, none⟩) hlt).trans (hc j v hj)⟩
theorem Vals.nil (w : World) (A : Option Addr) : Vals w A 0 [] := ⟨rfl, fun h => absurd h (by omega)⟩
def nums (k : IntKind) (zs : List Int) : List Value := zs.map (Value.int k)
def strs (ls : List (List UInt8)) : List Value := ls.map fun l => Value.string (bs l)
theorem strs_length (ls : List (List UInt8)) : (strs ls).length = ls.length := List.length_map _
theorem strs_get {ls : List (List UInt8)} {j : Nat} (h : j < ls.length) : (strs ls)[j]? = some (.string (bs (ls.getD j []))) := by
  unfold strs
  rw [List.getElem?_map, List.getElem?_eq_getElem h]
  simp [List.getD_eq_getElem?_getD, List.getElem?_eq_getElem h]
theorem nums_get {k : IntKind} {zs : List Int} {j : Nat} (h : j < zs.length) : (nums k zs)[j]? = some (.int k (zs.getD j 0)) := by
  unfold nums
  rw [List.getElem?_map, List.getElem?_eq_getElem h]
  simp [List.getD_eq_getElem?_getD, List.getElem?_eq_getElem h]

theorem own_below {w w' : World} {base B : Nat} {e : TypeId} {size n : Nat} {v : Value} {xs : List Value} (h : w.ownsRow base e size v n xs) (hb : Below B w w') (hB : w.heap.size ≤ B) : w'.ownsRow base e size v n xs := by
  refine ⟨h.1, ?_⟩
  rcases h.2 with hn | ⟨g, cap, cur, rfl, hg, hgg, rest⟩
  · exact .inl hn
  · refine .inr ⟨g, cap, cur, rfl, hg, ?_, rest⟩
    have hlt := (Array.getElem?_eq_some_iff.1 hgg).1
    rw [hb.block g (by omega)]
    exact hgg
theorem add_at (g j : Nat) : (⟨g, 0, none⟩ : Addr).add j = ⟨g, 0 + j, none⟩ := by unfold Addr.add; split <;> simp_all
theorem own_vals {w : World} {base : Nat} {e : TypeId} {n : Nat} {v : Value} {vs : List Value} (h : w.ownsRow base e 1 v n vs) : ∃ A c, v = .slice A n c ∧ n ≤ c ∧ Vals w A n vs ∧ (A = none → c = 0) := by
  have hl : vs.length = n := by have := h.1; simpa using this
  rcases h.2 with ⟨rfl, rfl⟩ | ⟨g, cap, cur, rfl, _, hg, hc, _⟩
  · exact ⟨none, 0, rfl, Nat.le_refl _, ⟨hl, fun h0 => absurd h0 (by omega)⟩, fun _ => rfl⟩
  · refine ⟨some ⟨g, 0, none⟩, cap, rfl, hc, ⟨hl, fun _ => ⟨g, 0, rfl, (Array.getElem?_eq_some_iff.1 hg).1, fun j v hj => ?_⟩⟩, fun h => by cases h⟩
    have := h.cells (g := g) rfl j v hj
    rwa [add_at] at this
/-- What append of one element leaves behind. -/
def Grew (base : Nat) (w w' : World) : Prop := ∀ B w0, Below B w0 w → B ≤ base → Below B w0 w'
theorem grew_of {w w' : World} {base : Nat} {o : Obj} {e : TypeId} {size n : Nat} {v : Value} {xs : List Value} (ho : w.ownsRow base e size v n xs) (hbase : base ≤ w.heap.size) (hg : (w.alloc o).grownBy w' v.ownBlock) : Grew base w w' :=
  fun B w0 h hB => (h.alloc (Nat.le_trans hB hbase) o).grown hg (by simp; omega) (fun g hgv => Nat.le_trans hB (ho.lt g hgv).1)

theorem lit_cells (w : World) (us : List Value) (e : TypeId) : ∀ j u, us[j]? = some u → (w.alloc (.cells us.toArray e)).cell? ((⟨w.heap.size, 0, none⟩ : Addr).add j) = some u := by
  intro j u hj
  rw [add_at, Nat.zero_add]
  simp [hj]
theorem append_lit_in {F : Fence} {m : Nat} {P : Program} {w : World} {ops : Array Oper} {rest : List Oper} {o : Oper} {a : Act} {Q : Exit → Act → World → Prop} (hgd : o.guard = none) (s x : Operand) (t : TypeId)
    (ho : o.op = .call { callee := .builtin .append, args := #[s, x], argTypes := #[t, t] })
    (base : Nat) (e : TypeId) (i : TypeInfo) (z : Value) (size bytes : Nat) (ht : P.underlying t = some (.slice e)) (hi : P.info? e = some i) (hz : i.zero = some z)
    (hsize : i.size = size) (hby : i.bytes = bytes) (hzs : z.cells.size = size) (hsz : 0 < size)
    (v : Value) (n : Nat) (xs : List Value) (hs : a.eval s = v) (hown : w.ownsRow base e size v n xs) (us : List Value) (hus : us.length = size) (hone : ∀ u ∈ us, u.oneCell' = true)
    (hx : a.eval x = .slice (some ⟨w.heap.size, 0, none⟩) 1 1) (h63 : n + 1 ≤ maxLen) (hbytes : (n + 1) * bytes ≤ 140737488355328) (hbase : base ≤ w.heap.size)
    (h : ∀ v' w', w'.ownsRow base e size v' (n + 1) (xs ++ us) → (w.alloc (.cells us.toArray e)).grownBy w' v.ownBlock → Grew base w w' → wpListIn F m P ops Q rest (a.put o.dst v') w') : wpListIn F m P ops Q (o :: rest) a (w.alloc (.cells us.toArray e)) :=
  wpListIn_append_own _ hgd s x t ho base e i z size bytes ht hi hz hsize hby hzs hsz v n xs hs (hown.alloc _) ⟨w.heap.size, 0, none⟩ 1 1 us hx (by rw [hus, Nat.one_mul]) (lit_cells w us e) hone h63 hbytes (by simp; omega)
    (fun v' w' h1 h2 _ => h v' w' h1 h2 (grew_of hown hbase h2))
end Go.Proofs.YtmellioacefjjaaGreatDoor

namespace Go.Proofs.YtmellioacefjjaaGreatDoor
open Go.RowKit

theorem noCR_length (s : List UInt8) : (noCR s).length ≤ s.length := by
  unfold noCR
  split
  · rw [List.length_dropLast]; omega
  · exact Nat.le_refl _
theorem cutAll_mem_length (c : UInt8) : ∀ (l : List UInt8) (p : List UInt8), p ∈ cutAll c l → p.length ≤ l.length
  | [], p, h => by simp [cutAll] at h; simp [h]
  | x :: l, p, h => by
    unfold cutAll at h
    split at h
    · simp at h
      rcases h with rfl | h
      · simp
      · have := cutAll_mem_length c l p h
        simp; omega
    · cases e : cutAll c l with
      | nil => exact absurd e (cutAll_ne c l)
      | cons a t =>
        rw [e] at h
        simp [glue] at h
        rcases h with rfl | h
        · have := cutAll_mem_length c l a (by simp [e])
          simp; omega
        · have := cutAll_mem_length c l p (by simp [e, h])
          simp; omega
theorem getD_mem {α : Type} {l : List α} {j : Nat} {d : α} (h : j < l.length) : l.getD j d ∈ l := by
  simp [List.getD_eq_getElem?_getD, List.getElem?_eq_getElem h]
theorem body_length (s : List UInt8) : (bodyOf s).length ≤ s.length := by
  have h1 := noCR_length s
  unfold bodyOf
  cases e : cutAll 35 (noCR s) with
  | nil => simp
  | cons a t =>
    have := cutAll_mem_length 35 (noCR s) a (by simp [e])
    simp
    omega
theorem bs_toList (l : List UInt8) : (bs l).toList = l := by rw [Lib.toList_data, bs_data]
theorem bs_some {l : List UInt8} (h : ¬ l = []) : (bs l).toList.isEmpty = false := by rw [bs_toList]; simp [h]

end Go.Proofs.YtmellioacefjjaaGreatDoor

namespace Go.Proofs.YtmellioacefjjaaGreatDoor
open Go.RowKit

def ints (l : List UInt8) : List Int := l.map fun c => (c.toNat : Int)
theorem ints_length (l : List UInt8) : (ints l).length = l.length := List.length_map _
theorem ints_bytes (l : List UInt8) : Lib.bytesOf (ints l) = l := by
  unfold Lib.bytesOf ints
  rw [List.map_map]
  conv => rhs; rw [← List.map_id l]
  apply List.map_congr_left
  intro c _
  simp
theorem ints_str (l : List UInt8) : strOfNums (ints l) = bs l := by
  have h := Lib.strOfNums_toList (ints l)
  rw [ints_bytes, Lib.toList_data] at h
  rw [← bs_of (strOfNums (ints l)), h]
theorem ints_range (l : List UInt8) : ∀ x ∈ ints l, 0 ≤ x ∧ x < 256 := by
  intro x hx
  unfold ints at hx
  rw [List.mem_map] at hx
  obtain ⟨c, _, rfl⟩ := hx
  have := c.toNat_lt
  omega
/-- The slice at A of length n reads as the octets l. -/
def Octs (w : World) (A : Option Addr) (n : Nat) (l : List UInt8) : Prop := Vals w A n (nums .u8 (ints l))
theorem Octs.len {w : World} {A : Option Addr} {n : Nat} {l : List UInt8} (h : Octs w A n l) : l.length = n := by
  have := h.1
  unfold nums at this
  rwa [List.length_map, ints_length] at this
theorem Octs.below {w w' : World} {A : Option Addr} {n : Nat} {l : List UInt8} (h : Octs w A n l) (hb : Below w.heap.size w w') : Octs w' A n l := Vals.below h hb
theorem Octs.bytesIn {w : World} {A : Option Addr} {n : Nat} {l : List UInt8} (h : Octs w A n l) : Lib.BytesIn w A n (ints l) := fun hn => by
  obtain ⟨b, off, rfl, _, hc⟩ := h.2 hn
  exact ⟨b, off, rfl, fun i hi => hc i _ (nums_get (by rw [ints_length, h.len]; exact hi))⟩
theorem octs_cells {w : World} {b off n : Nat} {l : List UInt8} (h : Octs w (some ⟨b, off, none⟩) n l) : ∀ j, j < n → w.cell? ⟨b, off + j, none⟩ = some (.int .u8 ((ints l).getD j 0)) := fun j hj => by
  obtain ⟨b', off', e, _, hc⟩ := h.2 (by omega)
  cases e
  exact hc j _ (nums_get (by rw [ints_length, h.len]; exact hj))
theorem octs_of {w : World} {b off n : Nat} {l : List UInt8} (hl : l.length = n) (hb : 0 < n → b < w.heap.size) (h : ∀ j, j < n → w.cell? ⟨b, off + j, none⟩ = some (.int .u8 ((ints l).getD j 0))) : Octs w (some ⟨b, off, none⟩) n l := by
  refine ⟨by unfold nums; rw [List.length_map, ints_length, hl], fun hn => ⟨b, off, rfl, hb hn, fun j v hj => ?_⟩⟩
  have hlt : j < l.length := by
    have := (List.getElem?_eq_some_iff.1 hj).1
    unfold nums at this
    rwa [List.length_map, ints_length] at this
  rw [nums_get (by rw [ints_length]; exact hlt)] at hj
  cases hj
  exact h j (by omega)
theorem ints_get (l : List UInt8) (j : Nat) : (ints l).getD j 0 = oct l j := by
  unfold ints oct
  simp [List.getD_eq_getElem?_getD, List.getElem?_map]
  cases l[j]? <;> rfl
theorem oct_take (l : List UInt8) (k j : Nat) (h : j < k) : oct (l.take k) j = oct l j := by
  unfold oct
  simp [List.getD_eq_getElem?_getD, h]
theorem oct_drop (l : List UInt8) (k j : Nat) : oct (l.drop k) j = oct l (k + j) := by
  unfold oct
  simp [List.getD_eq_getElem?_getD]
theorem Octs.take {w : World} {A : Option Addr} {n : Nat} {l : List UInt8} (h : Octs w A n l) (k : Nat) (hk : k ≤ n) : Octs w A k (l.take k) := by
  have hl := h.len
  rcases Nat.eq_zero_or_pos k with rfl | h0
  · rw [List.take_zero]; exact Vals.nil _ _
  · obtain ⟨b, off, rfl, hb, -⟩ := h.2 (by omega)
    have hc := octs_cells h
    refine octs_of (by simp; omega) (fun _ => hb) (fun j hj => ?_)
    rw [hc j (by omega), ints_get, ints_get, oct_take _ _ _ hj]
theorem octs_from {w : World} {A : Option Addr} {n c : Nat} {l : List UInt8} (h : Octs w A n l) (k : Nat) (hk : k ≤ n) (hc : n ≤ c) : Octs w (if c = k then A else A.map (fun x => x.add k)) (n - k) (l.drop k) := by
  have hl := h.len
  rcases Nat.eq_zero_or_pos (n - k) with h0 | h0
  · rw [h0, List.drop_of_length_le (by omega)]; exact Vals.nil _ _
  · obtain ⟨b, off, rfl, hb, -⟩ := h.2 (by omega)
    have hcl := octs_cells h
    have e : (if c = k then (some ⟨b, off, none⟩ : Option Addr) else (some ⟨b, off, none⟩ : Option Addr).map (fun x => x.add k)) = some ⟨b, off + k, none⟩ := by
      rw [if_neg (by omega)]
      simp [Addr.add]
    rw [e]
    refine octs_of (by simp; omega) (fun _ => hb) (fun j hj => ?_)
    rw [show off + k + j = off + (k + j) by omega, hcl (k + j) (by omega), ints_get, ints_get, oct_drop]

theorem conv22 {A : Option Addr} {n : Nat} (c : Nat) {l : List UInt8} {w : World} (h : Octs w A n l) : (convert 22 9 (.slice A n c)).run Tryz.prog w = .ok (.string (bs l)) w := by
  have hl := h.len
  rcases Nat.eq_zero_or_pos n with h0 | h0
  · subst h0
    obtain rfl : l = [] := List.eq_nil_of_length_eq_zero hl
    cases A with
    | none => exact run_convert_bytes_nil w 22 5 Tryz.underlying22 Tryz.underlying5 0 c 9 Tryz.underlying9
    | some a =>
      rw [run_convert_bytes_string w 22 9 5 _ 0 c Tryz.underlying22 Tryz.underlying5 Tryz.underlying9]
      rw [run_bytesToString w a 0 c [] (by simp [loadCells, loadCellsFrom])]
      rfl
  · obtain ⟨b, off, rfl, -, -⟩ := h.2 h0
    rw [← ints_str]
    exact run_convert_bytes_arg w 22 5 Tryz.underlying22 Tryz.underlying5 b off n c (ints l) (by rw [ints_length, hl]) (octs_cells h) 9 Tryz.underlying9

theorem one_octs (w : World) (c : UInt8) (x : Int) (hx : (c.toNat : Int) = x) : Lib.BytesIn (w.alloc (.cells #[.int .u8 x] 5)) (some ⟨w.heap.size, 0, none⟩) 1 (ints [c]) := fun _ => ⟨_, _, rfl, fun j hj => by
  obtain rfl : j = 0 := by omega
  subst hx
  simp [ints]⟩

theorem noCR_take (l : List UInt8) : noCR l = l.take (noCR l).length := by
  unfold noCR
  split
  · rw [List.length_dropLast, List.dropLast_eq_take]
  · simp
/-- What bytes.TrimSuffix of 0D hands back. -/
theorem trimCR {A : Option Addr} {n c : Nat} {l : List UInt8} {w : World} (h : Octs w A n l) : Lib.trimSuffixV A n c (ints l) (ints [13]) = .slice A (noCR l).length c := by
  have hl := h.len
  rcases Nat.eq_zero_or_pos n with h0 | h0
  · subst h0
    obtain rfl : l = [] := List.eq_nil_of_length_eq_zero hl
    have e : (noCR []).length = 0 := rfl
    rw [e]
    unfold Lib.trimSuffixV
    split
    · unfold Lib.bytesTrimSuffix
      rw [if_neg (by rw [ints_bytes, ints_bytes]; decide)]
    · rfl
  · obtain ⟨b, off, rfl, -, -⟩ := h.2 h0
    show Lib.bytesTrimSuffix b off n c (ints l) (ints [13]) = _
    unfold Lib.bytesTrimSuffix Lib.sliceTo
    rw [ints_bytes, ints_bytes]
    have e : Lib.hasSuffix l [13] = decide (l.getLast? = some 13) := by
      unfold Lib.hasSuffix
      rw [Bool.eq_iff_iff, List.isSuffixOf_iff_suffix]
      simp
      rw [List.getLast?_eq_some_iff]
      constructor
      · rintro ⟨t, rfl⟩; exact ⟨t, rfl⟩
      · rintro ⟨t, rfl⟩; exact ⟨t, rfl⟩
    rw [e]
    unfold noCR
    by_cases hh : l.getLast? = some 13
    · simp [hh, ints_length, hl]
    · simp [hh, hl]
theorem cutV_hit (A : Option Addr) (N c a : Nat) : Lib.cutV A N c 1 (a : Int) = .tuple #[.slice A a c, .slice (if c = a + 1 then A else A.map (fun x => x.add (a + 1))) (N - (a + 1)) (c - (a + 1)), .bool true] := by
  unfold Lib.cutV
  rw [if_pos (by omega)]
  rfl
theorem cutV_miss (A : Option Addr) (N c : Nat) : Lib.cutV A N c 1 (-1) = .tuple #[.slice A N c, .slice none 0 0, .bool false] := by
  unfold Lib.cutV
  rw [if_neg (by omega)]
theorem body_cut {l : List UInt8} {N c : Nat} {A : Option Addr} (hN : (noCR l).length = N) : ∃ k P2 n2 c2 f, Lib.cutV A N c 1 (Lib.index (Lib.bytesOf (ints (noCR l))) (Lib.bytesOf (ints [35]))) = .tuple #[.slice A k c, .slice P2 n2 c2, .bool f] ∧ k ≤ N ∧ bodyOf l = (noCR l).take k := by
  rw [ints_bytes, ints_bytes]
  unfold bodyOf
  by_cases h : (35 : UInt8) ∈ noCR l
  · obtain ⟨a, b, e, ha⟩ := split_at 35 _ h
    rw [e] at hN ⊢
    rw [index_one 35 a b ha, cutAll_some 35 a b ha]
    exact ⟨_, _, _, _, _, cutV_hit A N c a.length, by simp at hN; omega, by simp⟩
  · rw [index_no 35 _ h, cutAll_none 35 _ h]
    exact ⟨_, _, _, _, _, cutV_miss A N c, Nat.le_refl _, by rw [← hN]; simp⟩

/-- MaxLen holds some number. -/
def ML (w : World) : Prop := ∃ m, w.cell? ⟨1, 0, none⟩ = some (.int .i64 m)
theorem ML.lt {w : World} (h : ML w) : 1 < w.heap.size := by
  obtain ⟨m, h⟩ := h
  exact World.block_lt_of_cell? w _ h
theorem ML.below {w w' : World} (h : ML w) (hb : Below w.heap.size w w') : ML w' := by
  obtain ⟨m, hm⟩ := h
  exact ⟨m, (hb.cell (p := ⟨1, 0, none⟩) (by have := World.block_lt_of_cell? w _ hm; exact this)).trans hm⟩
set_option maxRecDepth 100000 in
set_option maxHeartbeats 1000000 in
theorem body36 (A : Option Addr) (n c : Nat) (l : List UInt8) (w : World) (hV : Octs w A n l) (hA : A = none → c = 0) (hc : n ≤ c) (hn : n ≤ 100000) (hm : ML w) :
    Calls Tryz.prog 135 #[.slice A n c] w fun e w' => e = .returned (.string (bs (bodyOf l))) ∧ Below w.heap.size w w' := by
  have b1 : Below w.heap.size w (w.alloc (.cells #[.int .u8 13] 5)) := (Below.refl _ _).alloc (Nat.le_refl _) _
  have c49 := Tryz.bytes_TrimSuffix_all A (some ⟨w.heap.size, 0, none⟩) n c 1 1 (ints l) (ints [13]) (w.alloc (.cells #[.int .u8 13] 5)) (by rw [ints_length, hV.len]) rfl hc (by omega) (hV.below b1).bytesIn (one_octs w 13 13 rfl)
  rw [trimCR hV] at c49
  have hN := noCR_length l
  have hlen := hV.len
  have hV1 := (hV.below b1).take (noCR l).length (by omega)
  rw [← noCR_take] at hV1
  obtain ⟨N, hNN⟩ : ∃ N, (noCR l).length = N := ⟨_, rfl⟩
  rw [hNN] at c49 hN hV1
  have b2 : Below (w.alloc (.cells #[.int .u8 13] 5)).heap.size (w.alloc (.cells #[.int .u8 13] 5)) ((w.alloc (.cells #[.int .u8 13] 5)).alloc (.cells #[.int .u8 35] 5)) := (Below.refl _ _).alloc (Nat.le_refl _) _
  obtain ⟨m, hmm⟩ := (hm.below b1).below b2
  have hV2 := hV1.below b2
  have c35 := Tryz.bytes_Cut_all A (some ⟨w.heap.size + 1, 0, none⟩) N c 1 1 (ints (noCR l)) (ints [35]) m ((w.alloc (.cells #[.int .u8 13] 5)).alloc (.cells #[.int .u8 35] 5)) (by rw [ints_length, hNN]) rfl (ints_range _) (ints_range _) hV2.bytesIn (by have := one_octs (w.alloc (.cells #[.int .u8 13] 5)) 35 35 rfl; simpa using this) hA (by omega) (by omega) (by omega) hmm
  obtain ⟨k, P2, n2, c2, f, hk1, hk2, hk3⟩ := body_cut (A := A) (c := c) hNN
  rw [hk1] at c35
  have hV3 := hV2.take k hk2
  rw [← hk3] at hV3
  have kc := fun q => conv22 c (w := ((w.alloc (.cells #[.int .u8 13] 5)).alloc (.cells #[.int .u8 35] 5)).drewN q) hV3
  obtain ⟨B, hB⟩ : ∃ B, bs (bodyOf l) = B := ⟨_, rfl⟩
  rw [hB] at kc ⊢
  clear hk1 hk3 hV hV1 hV2 hV3 hmm hm hNN hB
  go_enter Tryz.func135, Tryz.ntmps135
  go_wp2_with (first
    | (go_at_call 167; (with_reducible refine c49.mono ?_); rintro e w' ⟨rfl, rfl⟩)
    | (go_at_call 134; (with_reducible refine c35.mono ?_); rintro e w' ⟨rfl, q, rfl⟩))
  go_ret
  exact ⟨rfl, below_drewN (b1.trans (b2.mono (by simp))) q⟩
end Go.Proofs.YtmellioacefjjaaGreatDoor

namespace Go.Proofs.YtmellioacefjjaaGreatDoor
open Go.ChangeShapes Go.WideShapes Go.ChangeAt Go.RowKit

theorem own : ownKnob Tryz.prog.godebug = none := by kernel_rfl
theorem laidOut : laidOutB Tryz.prog = true := by kernel_rfl

def layCells (zs : List Int) : Obj → Obj
  | .cells _ t fz => .cells (zs.map (Value.int .u8)).toArray t fz
  | o => o
def layHan : Obj → Obj
  | .cells _ t fz => .cells #[.int .i64 4352, .int .i64 4370, .int .i64 4449, .int .i64 4469, .int .i64 4520, .int .i64 4546, .int .i64 44032, .int .i64 55203] t fz
  | o => o
/-- The settled world, with the two tables as their initialisers lay them. -/
noncomputable def laidWorld (os : Os) : World :=
  { World.holding Tryz.prog os ⟨#[], #[], []⟩ with
    heap := (((World.holding Tryz.prog os ⟨#[], #[], []⟩).heap.modify 0 layHan).modify 2 (layCells Lib.firstTab)).modify 3 (layCells ((List.range 16).flatMap fun i => [(Lib.accLo i : Int), (Lib.accHi i : Int)])) }

/-- What a slice of integers that came in is to a walk: nil, or a row of cells; each number fits its kind. -/
def IsRow (k : IntKind) (w : World) (a : Option Addr) (len cap : Nat) (zs : List Int) : Prop :=
  (a = none ∧ len = 0 ∧ cap = 0 ∧ zs = []) ∨
  ∃ x, a = some x ∧ len ≤ cap ∧ cap ≤ maxLen ∧ zs.length = cap ∧ (∀ i, i < zs.length → w.cell? (x.add i) = some (.int k (zs.getD i 0))) ∧ ∀ n ∈ zs, (Lit.int k n).wf = true

theorem IsRow.vals {k : IntKind} {w : World} {a : Option Addr} {len cap : Nat} {zs : List Int} (h : IsRow k w a len cap zs) : Vals w a len (nums k (zs.take len)) ∧ len ≤ cap ∧ (a = none → cap = 0) ∧ ∀ n ∈ zs.take len, (Lit.int k n).wf = true := by
  rcases h with ⟨rfl, rfl, rfl, rfl⟩ | ⟨x, rfl, hl, hm, hz, hcell, hwz⟩
  · exact ⟨Vals.nil _ _, Nat.le_refl _, fun _ => rfl, by simp⟩
  · refine ⟨⟨by simp [nums]; omega, fun h0 => ?_⟩, hl, fun h => (by cases h), fun n hn => hwz n (List.mem_of_mem_take hn)⟩
    obtain ⟨b, off, spot⟩ := x
    have hc := hcell 0 (by omega)
    have hspot : spot = none := by simpa [Addr.add] using World.cell?_spot hc
    subst hspot
    refine ⟨b, off, rfl, ?_, fun j v hj => ?_⟩
    · have := World.block_lt_of_cell? w _ hc
      simpa [Addr.add] using this
    · have hlt : j < len := by
        have := (List.getElem?_eq_some_iff.1 hj).1
        simp [nums] at this
        omega
      have := hcell j (by omega)
      have e : (⟨b, off, none⟩ : Addr).add j = ⟨b, off + j, none⟩ := by unfold Addr.add; split <;> simp_all
      rw [e] at this
      rw [nums_get (by simp; omega)] at hj
      cases hj
      rw [this]
      simp [List.getD_eq_getElem?_getD, hlt]
theorem wf_u8 {x : Int} (h : (Lit.int .u8 x).wf = true) : 0 ≤ x ∧ x < 256 := by
  have := bounds_u8 h
  omega
/-- A slice of octets. -/
theorem IsRow.octs {w : World} {a : Option Addr} {len cap : Nat} {zs : List Int} (h : IsRow .u8 w a len cap zs) : ∃ l : List UInt8, Octs w a len l ∧ len ≤ cap ∧ (a = none → cap = 0) := by
  obtain ⟨h1, h2, h3, h4⟩ := h.vals
  refine ⟨Lib.bytesOf (zs.take len), ?_, h2, h3⟩
  have e : ints (Lib.bytesOf (zs.take len)) = zs.take len := by
    unfold ints Lib.bytesOf
    rw [List.map_map]
    conv => rhs; rw [← List.map_id (zs.take len)]
    apply List.map_congr_left
    intro x hx
    have := wf_u8 (h4 x hx)
    simp
    omega
  unfold Octs
  rw [e]
  exact h1
end Go.Proofs.YtmellioacefjjaaGreatDoor

namespace Go.Proofs.YtmellioacefjjaaGreatDoor
open Go.RowKit Go.Joins Go.WideShapes Go.ChangeShapes Go.ChangeAt Go.Deep

section
variable {H : Type} {enc : TypeId × Value → H} {P : Program} {w : World} {base : Nat} {spare : Nat → Bool} {held : Bool}
theorem open_agg7w {r : Reach} {b0 : Nat} {t : TypeId} {f0 f1 f2 f3 f4 f5 f6 : Field} {v : Value} {d : DataW H} {p : List MemPlace} (hs : P.underlying t = some (.struct #[f0, f1, f2, f3, f4, f5, f6])) (hone : oneCellFields P #[f0, f1, f2, f3, f4, f5, f6] = true) (hC : P.cellsOf t = 7)
    (hv : Value.okWide P w r b0 t v) (h : DataW.Trod enc P w base spare held t v d p) :
    ∃ (v0 v1 v2 v3 v4 v5 v6 : Value) (y0 y1 y2 y3 y4 y5 y6 : DataW H × List MemPlace), v = .agg #[v0, v1, v2, v3, v4, v5, v6] ∧ d = .agg [y0.1, y1.1, y2.1, y3.1, y4.1, y5.1, y6.1] ∧
      (∃ n, DataW.trod enc P w base spare held n f0.type [v0] = some y0) ∧ (∃ n, DataW.trod enc P w base spare held n f1.type [v1] = some y1) ∧ (∃ n, DataW.trod enc P w base spare held n f2.type [v2] = some y2) ∧ (∃ n, DataW.trod enc P w base spare held n f3.type [v3] = some y3) ∧
      (∃ n, DataW.trod enc P w base spare held n f4.type [v4] = some y4) ∧ (∃ n, DataW.trod enc P w base spare held n f5.type [v5] = some y5) ∧ (∃ n, DataW.trod enc P w base spare held n f6.type [v6] = some y6) := by
  obtain ⟨cs, rfl, hsz⟩ := okWide_struct hs hv
  obtain ⟨c0, c1, c2, c3, c4, c5, c6, rfl⟩ := array7 (hsz.trans hC)
  obtain ⟨fuel, hf⟩ := h
  obtain ⟨xs, n, _, hx, hl, hlen, hf⟩ := DataW.trod_struct hs hf
  obtain ⟨y0, y1, y2, y3, y4, y5, y6, rfl⟩ : ∃ y0 y1 y2 y3 y4 y5 y6, xs = [y0, y1, y2, y3, y4, y5, y6] := by
    match xs, hlen with
    | [y0, y1, y2, y3, y4, y5, y6], _ => exact ⟨y0, y1, y2, y3, y4, y5, y6, rfl⟩
  have hd := congrArg Prod.fst hx
  obtain ⟨o0, k0⟩ := hone_of hone 0 f0 rfl
  obtain ⟨o1, k1⟩ := hone_of hone 1 f1 rfl
  obtain ⟨o2, k2⟩ := hone_of hone 2 f2 rfl
  obtain ⟨o3, k3⟩ := hone_of hone 3 f3 rfl
  obtain ⟨o4, k4⟩ := hone_of hone 4 f4 rfl
  obtain ⟨o5, k5⟩ := hone_of hone 5 f5 rfl
  obtain ⟨o6, k6⟩ := hone_of hone 6 f6 rfl
  refine ⟨c0, c1, c2, c3, c4, c5, c6, y0, y1, y2, y3, y4, y5, y6, rfl, hd, ⟨n, ?_⟩, ⟨n, ?_⟩, ⟨n, ?_⟩, ⟨n, ?_⟩, ⟨n, ?_⟩, ⟨n, ?_⟩, ⟨n, ?_⟩⟩
  · have h := hf 0 f0 rfl
    simpa [Value.cells, o0, k0] using h
  · have h := hf 1 f1 rfl
    simpa [Value.cells, o1, k1] using h
  · have h := hf 2 f2 rfl
    simpa [Value.cells, o2, k2] using h
  · have h := hf 3 f3 rfl
    simpa [Value.cells, o3, k3] using h
  · have h := hf 4 f4 rfl
    simpa [Value.cells, o4, k4] using h
  · have h := hf 5 f5 rfl
    simpa [Value.cells, o5, k5] using h
  · have h := hf 6 f6 rfl
    simpa [Value.cells, o6, k6] using h
end
theorem row_of_trodw {H : Type} {enc : TypeId × Value → H} {W : World} {base fuel : Nat} {held : Bool} {v : Value} {y : DataW H × List MemPlace} (h : DataW.trod enc Tryz.prog W base (fun _ => true) held fuel 22 [v] = some y) (hz : ∀ n ∈ y.1.weights Tryz.prog 22, n ≤ reachBytes) :
    ∃ a len cap zs, v = .slice a len cap ∧ IsRow .u8 W a len cap zs ∧ len ≤ 1000000000000000 := by
  rcases open_ints Tryz.underlying22 Tryz.underlying5 (by kernel_rfl) h with ⟨hcs, _⟩ | ⟨x, l, c, zs, hcs, _, hl, hm, hz', hy, hcell, hwz⟩
  · simp at hcs
    exact ⟨none, 0, 0, [], hcs, .inl ⟨rfl, rfl, rfl, rfl⟩, by omega⟩
  · simp at hcs hz'
    refine ⟨some x, l, c, zs, hcs, .inr ⟨_, rfl, hl, hm, hz', hcell, hwz⟩, ?_⟩
    have hb : Tryz.prog.bytesOf 5 = 1 := by kernel_rfl
    have h1 := hz ((zs.take l).length + (zs.drop l).length) (by
      rw [hy]
      simp [DataW.weights, Tryz.underlying22, hb, lits])
    have e : (zs.take l).length + (zs.drop l).length = c := by rw [← List.length_append, List.take_append_drop, hz']
    rw [e] at h1
    have : reachBytes ≤ 1000000000000000 := by decide
    omega
end Go.Proofs.YtmellioacefjjaaGreatDoor
