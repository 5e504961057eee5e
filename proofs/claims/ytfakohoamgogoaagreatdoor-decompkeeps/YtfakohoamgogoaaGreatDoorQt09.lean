/- A table lies in a block of its own; what list, Len, row, Gc, Ccc and Bidi hand back. -/
/- More of the document's own of layer 7: Proto, Row, Values; ref01's Scalar. -/
/- Plain words: what a property file says, as the document reads it; no program is spoken of. -/
/- Appending any slice of spans onto a row of the call's own; lists in order; no program is spoken of. -/
/- Plain words: lines of other values, and lines in another order; no program is spoken of. -/
/- Plain words: which bundles are right, as the document reads them; no program is spoken of. -/
/- What the document's own Sorted hands back. -/
/- Which bundles are right, and what they say: plain; the order of the document's own Load. -/
import Derived.Test.YtfakohoamgogoaaGreatDoorQt04
import Derived.Test.YtfakohoamgogoaaGreatDoorQt08
import Derived.Test.YtfakohoamgogoaaGreatDoorQt05
import Derived.Test.YtfakohoamgogoaaGreatDoorQt02
import Derived.Laws.AppendOwnNone
import Derived.Test.YtfakohoamgogoaaGreatDoorQt03
import Derived.Test.YtfakohoamgogoaaGreatDoorProg
import Derived.BigQuiet
import Derived.IntWalk
import Derived.Test.YtfakohoamgogoaaGreatDoorQt06
import Derived.Deep.RegionWith
namespace Go.Proofs.YtfakohoamgogoaaGreatDoor.Uc
open Go.RowKit

/-- The pointer p is a table whose slice is (A, c), with the rows ls; nil, if there is no table. -/
def TIn (w : World) (p A : Option Addr) (c : Nat) (ls : List Rw) : Prop :=
  (p = none ∧ ls = [] ∧ A = none ∧ c = 0) ∨ ∃ b, p = some ⟨b, 0, none⟩ ∧ b < w.heap.size ∧ w.cell? ⟨b, 0, none⟩ = some (.slice A ls.length c) ∧ RAt w A ls.length ls
theorem TIn.below {w w' : World} {p A : Option Addr} {c : Nat} {ls : List Rw} (h : TIn w p A c ls) (hb : Below w.heap.size w w') : TIn w' p A c ls := by
  rcases h with h | ⟨b, rfl, hlt, hc, hS⟩
  · exact .inl h
  · exact .inr ⟨b, rfl, Nat.lt_of_lt_of_le hlt hb.size, (hb.cell (p := ⟨b, 0, none⟩) hlt).trans hc, hS.below hb⟩
theorem TIn.rat {w : World} {p A : Option Addr} {c : Nat} {ls : List Rw} (h : TIn w p A c ls) : RAt w A ls.length ls := by
  rcases h with ⟨_, rfl, _, _⟩ | ⟨b, rfl, hlt, hc, hS⟩
  · exact RAt.nil w A
  · exact hS
set_option maxRecDepth 100000 in
set_option maxHeartbeats 1000000 in
theorem list24 (p A : Option Addr) (c : Nat) (ls : List Rw) (w : World) (hT : TIn w p A c ls) :
    Calls Tryz.prog 70 #[.pointer p] w fun e w' => e = .returned (.slice A ls.length c) ∧ w = w' := by
  rcases hT with ⟨rfl, rfl, rfl, rfl⟩ | ⟨b, rfl, hlt, hc, hS⟩
  · go_enter Tryz.func70, Tryz.ntmps70
    go_wp2
    go_ret
    exact ⟨rfl, rfl⟩
  · clear hS
    go_enter Tryz.func70, Tryz.ntmps70
    go_wp2
    go_ret
    exact ⟨rfl, rfl⟩
theorem below_store {w w1 : World} {a b d : Int} {c e f : Value} (o : Obj) (h : Below w.heap.size w (w.alloc o)) (h1 : Below (w.alloc o).heap.size (w.alloc o) w1) :
    Below w.heap.size w ((((((w1.setCell ⟨w.heap.size, 0, none⟩ (.int .i64 a)).setCell ⟨w.heap.size, 1, none⟩ (.int .i64 b)).setCell ⟨w.heap.size, 2, none⟩ c).setCell ⟨w.heap.size, 3, none⟩ (.int .i64 d)).setCell ⟨w.heap.size, 4, none⟩ e).setCell ⟨w.heap.size, 5, none⟩ f) :=
  below_six a b d (h.trans (h1.mono h.size))
/-- The six cells of a row that was laid ahead of a call. -/
theorem six_box {w w1 : World} {v0 v1 v2 v3 v4 v5 : Value} {t : TypeId} (h : Below (w.alloc (.cells #[v0, v1, v2, v3, v4, v5] t)).heap.size (w.alloc (.cells #[v0, v1, v2, v3, v4, v5] t)) w1) :
    (w1.cell? ⟨w.heap.size, 0, none⟩ = some v0 ∧ w1.cell? ⟨w.heap.size, 1, none⟩ = some v1 ∧ w1.cell? ⟨w.heap.size, 2, none⟩ = some v2 ∧ w1.cell? ⟨w.heap.size, 3, none⟩ = some v3 ∧ w1.cell? ⟨w.heap.size, 4, none⟩ = some v4 ∧ w1.cell? ⟨w.heap.size, 5, none⟩ = some v5) ∧
    ∀ i, w1.frozen? ⟨w.heap.size, i, none⟩ = false := by
  have hl : w.heap.size < (w.alloc (.cells #[v0, v1, v2, v3, v4, v5] t)).heap.size := by simp
  refine ⟨⟨(h.cell (p := ⟨w.heap.size, 0, none⟩) hl).trans (by simp), (h.cell (p := ⟨w.heap.size, 1, none⟩) hl).trans (by simp), (h.cell (p := ⟨w.heap.size, 2, none⟩) hl).trans (by simp), (h.cell (p := ⟨w.heap.size, 3, none⟩) hl).trans (by simp), (h.cell (p := ⟨w.heap.size, 4, none⟩) hl).trans (by simp), (h.cell (p := ⟨w.heap.size, 5, none⟩) hl).trans (by simp)⟩, fun i => (h.frozen (p := ⟨w.heap.size, i, none⟩) hl).trans ?_⟩
  have h2 := World.alloc_heap_new w (.cells #[v0, v1, v2, v3, v4, v5] t)
  simp only [World.frozen?]
  rw [h2]
  simp
set_option maxRecDepth 100000 in
set_option maxHeartbeats 4000000 in
theorem row27 (p A : Option Addr) (c : Nat) (ls : List Rw) (z : Int) (w : World) (hT : TIn w p A c ls) (hn : ls.length ≤ 100000) (hr : Rises ls) :
    Calls Tryz.prog 40 #[.pointer p, .int .i64 z] w fun e w' => e = .returned (rwV (atOf ls z)) ∧ Below w.heap.size w w' := by
  have hb0 : Below w.heap.size w (w.alloc (.cells #[.int .i64 0, .int .i64 0, .string ⟨#[]⟩, .int .i64 0, .string ⟨#[]⟩, .slice none 0 0] 59)) := (Below.refl _ _).alloc (Nat.le_refl _) _
  have c24 := list24 p A c ls _ (hT.below hb0)
  have c43 := bin43 A ls.length c ls z _ (hT.below hb0).rat hn hr
  unfold BinPost at c43
  have HB := Lib.hid hb0
  clear hb0
  cases hfo : foundAt ls z
  · have HV := Lib.hid (at_lost hr hfo)
    rw [hfo] at c43
    clear hT hr hfo
    go_enter Tryz.func40, Tryz.ntmps40
    go_wp2_with (first
      | (go_at_call 70; (with_reducible refine c24.mono ?_); rintro e w1 ⟨rfl, rfl⟩)
      | (go_at_call 71; (with_reducible refine c43.mono ?_); rintro e w1 ⟨rfl, hb1⟩; have HB1 := Lib.hid hb1; obtain ⟨⟨e0, e1, e2, e3, e4, e5⟩, ef⟩ := six_box hb1; clear hb1))
    exact bodyPost_ret (v := rwV rw0) (by simp [results, Tryz.results40, go_sem, e0, e1, e2, e3, e4, e5, rwV, rw0, bs_nil]) rfl ⟨by rw [HV.out], below_store _ HB.out HB1.out⟩
  · obtain ⟨s, hs, hm⟩ := found_some hfo
    have HV := Lib.hid (at_found hs hm)
    rw [hfo] at c43
    have hkl := (List.getElem?_eq_some_iff.1 hs).1
    obtain ⟨b2, off, rfl, hb2, hcc⟩ := hT.rat.2 (by omega)
    obtain ⟨h1, h2, h3, h4, h5, h6⟩ := hcc _ s hs
    obtain ⟨K, hK⟩ : ∃ K, placeOf ls z = K := ⟨_, rfl⟩
    rw [hK] at c43 h1 h2 h3 h4 h5 h6 hkl
    obtain ⟨T, hT'⟩ : ∃ T, bs s.gc = T := ⟨_, rfl⟩
    obtain ⟨U, hU⟩ : ∃ U, bs s.bd = U := ⟨_, rfl⟩
    have HT := Lib.hid hT'
    have HU := Lib.hid hU
    rw [hT'] at h3
    rw [hU] at h5
    obtain ⟨N, hN⟩ : ∃ N, ls.length = N := ⟨_, rfl⟩
    rw [hN] at c24 c43 hkl hn
    clear hr hfo hs hm hcc hK hT' hU hT hN
    go_enter Tryz.func40, Tryz.ntmps40
    go_wp2_with (first
      | (go_at_call 70; (with_reducible refine c24.mono ?_); rintro e w1 ⟨rfl, rfl⟩)
      | (go_at_call 71; (with_reducible refine c43.mono ?_); rintro e w1 ⟨rfl, hb1⟩; have HB1 := Lib.hid hb1; obtain ⟨⟨e0, e1, e2, e3, e4, e5⟩, ef⟩ := six_box hb1; have k1 := (HB1.out.cell (p := ⟨b2, off + K * 6, none⟩) (by show b2 < _; simp; omega)).trans ((HB.out.cell (p := ⟨b2, off + K * 6, none⟩) hb2).trans h1); have k2 := (HB1.out.cell (p := ⟨b2, off + K * 6 + 1, none⟩) (by show b2 < _; simp; omega)).trans ((HB.out.cell (p := ⟨b2, off + K * 6 + 1, none⟩) hb2).trans h2); have k3 := (HB1.out.cell (p := ⟨b2, off + K * 6 + 2, none⟩) (by show b2 < _; simp; omega)).trans ((HB.out.cell (p := ⟨b2, off + K * 6 + 2, none⟩) hb2).trans h3); have k4 := (HB1.out.cell (p := ⟨b2, off + K * 6 + 3, none⟩) (by show b2 < _; simp; omega)).trans ((HB.out.cell (p := ⟨b2, off + K * 6 + 3, none⟩) hb2).trans h4); have k5 := (HB1.out.cell (p := ⟨b2, off + K * 6 + 4, none⟩) (by show b2 < _; simp; omega)).trans ((HB.out.cell (p := ⟨b2, off + K * 6 + 4, none⟩) hb2).trans h5); have k6 := (HB1.out.cell (p := ⟨b2, off + K * 6 + 5, none⟩) (by show b2 < _; simp; omega)).trans ((HB.out.cell (p := ⟨b2, off + K * 6 + 5, none⟩) hb2).trans h6); clear hb1))
    exact bodyPost_ret (v := rwV s) (by simp [results, Tryz.results40, go_sem, e0, e1, e2, e3, e4, e5, rwV, HT.out, HU.out]) rfl ⟨by rw [HV.out], below_store _ HB.out HB1.out⟩
theorem field3 (s : Rw) (W : World) : (Instr.field 59 (rwV s) 3).run Tryz.prog W = .ok (.int .i64 s.ccc) W := by kernel_rfl
theorem field5 (s : Rw) (W : World) : (Instr.field 59 (rwV s) 5).run Tryz.prog W = .ok (.slice s.dp s.dm s.dc) W := by kernel_rfl
set_option maxRecDepth 100000 in
set_option maxHeartbeats 1000000 in
theorem ccc15 (p A : Option Addr) (c : Nat) (ls : List Rw) (z : Int) (w : World) (hT : TIn w p A c ls) (hn : ls.length ≤ 100000) (hr : Rises ls) :
    Calls Tryz.prog 25 #[.pointer p, .int .i64 z] w fun e w' => e = .returned (.int .i64 (atOf ls z).ccc) ∧ Below w.heap.size w w' := by
  have c27 := row27 p A c ls z w hT hn hr
  unfold rwV at c27
  clear hT hr
  have hfd : ∀ W : World, _ := fun W => field3 (atOf ls z) W
  unfold rwV at hfd
  go_enter Tryz.func25, Tryz.ntmps25
  go_wp2_with (go_at_call 40; (with_reducible refine c27.mono ?_); rintro e w1 ⟨rfl, hb1⟩)
  go_ret
  exact ⟨rfl, hb1⟩
end Go.Proofs.YtfakohoamgogoaaGreatDoor.Uc

namespace Go.Proofs.YtfakohoamgogoaaGreatDoor
open Go.RowKit
attribute [local go_sem] Oper.semAt_some

/-- The values of a property file. -/
def valsOf : Nat → List (List UInt8)
  | 2 => [[70, 117, 108, 108, 95, 67, 111, 109, 112, 111, 115, 105, 116, 105, 111, 110, 95, 69, 120, 99, 108, 117, 115, 105, 111, 110]]
  | 3 => [[68, 101, 102, 97, 117, 108, 116, 95, 73, 103, 110, 111, 114, 97, 98, 108, 101, 95, 67, 111, 100, 101, 95, 80, 111, 105, 110, 116]]
  | 4 => [[80, 86, 65, 76, 73, 68], [67, 79, 78, 84, 69, 88, 84, 74], [67, 79, 78, 84, 69, 88, 84, 79], [68, 73, 83, 65, 76, 76, 79, 87, 69, 68], [85, 78, 65, 83, 83, 73, 71, 78, 69, 68]]
  | _ => []
theorem vals_lit (w : World) (us : List Value) (e : TypeId) : Vals (w.alloc (.cells us.toArray e)) (some ⟨w.heap.size, 0, none⟩) us.length us :=
  ⟨rfl, fun _ => ⟨w.heap.size, 0, rfl, by simp, fun j u hj => by
    have := lit_cells w us e j u hj
    rwa [add_at] at this⟩⟩
end Go.Proofs.YtfakohoamgogoaaGreatDoor

namespace Go.Proofs.YtfakohoamgogoaaGreatDoor.Pq
open Go.RowKit

def pfld (f : List (List UInt8)) (k : Nat) : List UInt8 := f.getD k []
/-- What a file says: the spans as they came, the error, the number of its line. -/
structure PRes where
  rows : List Sp
  err : Int
  num : Int
/-- Is a value among those told (whichever, if none is told)? -/
def amongB (vs : List (List UInt8)) (v : List UInt8) : Bool := decide (vs.length = 0) || decide (v ∈ vs)
def spOf (f : List (List UInt8)) : Sp := ⟨(rangeOf (pfld f 0)).1, (rangeOf (pfld f 0)).2.1, pfld f 1⟩
def lineErr (f : List (List UInt8)) : Int := if f.length < 2 then 12 else if ¬ (rangeOf (pfld f 0)).2.2 = 0 then (rangeOf (pfld f 0)).2.2 else if pfld f 1 = [] then 16 else 0
def propP (vs : List (List UInt8)) : List Sp → List Ln → PRes
  | out, [] => ⟨out, 0, 0⟩
  | out, x :: t =>
    if ¬ lineErr x.2 = 0 then ⟨[], lineErr x.2, x.1⟩ else
    if amongB vs (pfld x.2 1) = false then propP vs out t else
    if ¬ check out (spOf x.2) = 0 then ⟨[], check out (spOf x.2), x.1⟩ else propP vs (out ++ [spOf x.2]) t
def propOf (vs : List (List UInt8)) (l : List Ln) : PRes := propP vs [] l
theorem prp_err {vs : List (List UInt8)} {out : List Sp} {x : Ln} {t : List Ln} (h : ¬ lineErr x.2 = 0) : propP vs out (x :: t) = ⟨[], lineErr x.2, x.1⟩ := by rw [propP, if_pos h]
theorem prp_skip {vs : List (List UInt8)} {out : List Sp} {x : Ln} {t : List Ln} (h : lineErr x.2 = 0) (ha : amongB vs (pfld x.2 1) = false) : propP vs out (x :: t) = propP vs out t := by rw [propP, if_neg (by simpa using h), if_pos ha]
theorem prp_bad {vs : List (List UInt8)} {out : List Sp} {x : Ln} {t : List Ln} (h : lineErr x.2 = 0) (ha : amongB vs (pfld x.2 1) = true) (hc : ¬ check out (spOf x.2) = 0) : propP vs out (x :: t) = ⟨[], check out (spOf x.2), x.1⟩ := by
  rw [propP, if_neg (by simpa using h), if_neg (by rw [ha]; simp), if_pos hc]
theorem prp_add {vs : List (List UInt8)} {out : List Sp} {x : Ln} {t : List Ln} (h : lineErr x.2 = 0) (ha : amongB vs (pfld x.2 1) = true) (hc : check out (spOf x.2) = 0) : propP vs out (x :: t) = propP vs (out ++ [spOf x.2]) t := by
  rw [propP, if_neg (by simpa using h), if_neg (by rw [ha]; simp), if_neg (by simpa using hc)]
theorem line_few {f : List (List UInt8)} (h : f.length < 2) : lineErr f = 12 := by unfold lineErr; rw [if_pos h]
theorem line_rng {f : List (List UInt8)} (h : ¬ f.length < 2) (hr : ¬ (rangeOf (pfld f 0)).2.2 = 0) : lineErr f = (rangeOf (pfld f 0)).2.2 := by unfold lineErr; rw [if_neg h, if_pos hr]
theorem line_emp {f : List (List UInt8)} (h : ¬ f.length < 2) (hr : (rangeOf (pfld f 0)).2.2 = 0) (hv : pfld f 1 = []) : lineErr f = 16 := by unfold lineErr; rw [if_neg h, if_neg (by simpa using hr), if_pos hv]
theorem line_ok {f : List (List UInt8)} (h : ¬ f.length < 2) (hr : (rangeOf (pfld f 0)).2.2 = 0) (hv : ¬ pfld f 1 = []) : lineErr f = 0 := by unfold lineErr; rw [if_neg h, if_neg (by simpa using hr), if_neg hv]
theorem prp_len : ∀ (vs : List (List UInt8)) (l : List Ln) (out : List Sp), (propP vs out l).rows.length ≤ out.length + l.length
  | _, [], out => by rw [propP]; simp
  | vs, x :: t, out => by
    rw [propP]
    split
    · simp
    split
    · have := prp_len vs t out; simp at this ⊢; omega
    split
    · simp
    · have := prp_len vs t (out ++ [spOf x.2]); simp at this ⊢; omega
/-- The first two cells of a line's fields. -/
theorem flds2 {w : World} {F : Option Addr} {f : List (List UInt8)} {n : Nat} (h : Vals w F n (strs f)) (hn : ¬ f.length < 2) : ∃ b off, F = some ⟨b, off, none⟩ ∧ b < w.heap.size ∧ w.cell? ⟨b, off, none⟩ = some (.string (bs (pfld f 0))) ∧ w.cell? ⟨b, off + 1, none⟩ = some (.string (bs (pfld f 1))) := by
  have hl : f.length = n := by have := h.1; rwa [strs_length] at this
  obtain ⟨b, off, rfl, hlt, hc⟩ := h.2 (by omega)
  exact ⟨b, off, rfl, hlt, hc 0 _ (strs_get (by omega)), hc 1 _ (strs_get (by omega))⟩
end Go.Proofs.YtfakohoamgogoaaGreatDoor.Pq

namespace Go.Proofs.YtfakohoamgogoaaGreatDoor.Pq
open Go.RowKit

theorem spvs_at : ∀ {ls : List Sp} {j : Nat} {u : Value}, (spvs ls)[j]? = some u → ∃ q s, ls[q]? = some s ∧ ((j = q * 3 ∧ u = .int .i64 s.a) ∨ (j = q * 3 + 1 ∧ u = .int .i64 s.b) ∨ (j = q * 3 + 2 ∧ u = .string (bs s.v)))
  | [], j, u, h => by simp [spvs] at h
  | s :: ls, 0, u, h => by rw [spvs_cons] at h; simp at h; exact ⟨0, s, rfl, .inl ⟨rfl, h.symm⟩⟩
  | s :: ls, 1, u, h => by rw [spvs_cons] at h; simp at h; exact ⟨0, s, rfl, .inr (.inl ⟨rfl, h.symm⟩)⟩
  | s :: ls, 2, u, h => by rw [spvs_cons] at h; simp at h; exact ⟨0, s, rfl, .inr (.inr ⟨rfl, h.symm⟩)⟩
  | s :: ls, j + 3, u, h => by
    rw [spvs_cons] at h
    obtain ⟨q, t, hq, ht⟩ := spvs_at (ls := ls) (j := j) (u := u) (by simpa using h)
    refine ⟨q + 1, t, by simpa using hq, ?_⟩
    rcases ht with ⟨rfl, e⟩ | ⟨rfl, e⟩ | ⟨rfl, e⟩
    · exact .inl ⟨by omega, e⟩
    · exact .inr (.inl ⟨by omega, e⟩)
    · exact .inr (.inr ⟨by omega, e⟩)
theorem add_off (b off j : Nat) : (⟨b, off, none⟩ : Addr).add j = ⟨b, off + j, none⟩ := by unfold Addr.add; split <;> simp_all
theorem sat_cells {w : World} {ad : Addr} {m : Nat} {ls : List Sp} (h : SAt w (some ad) m ls) : ∀ j u, (spvs ls)[j]? = some u → w.cell? (ad.add j) = some u := by
  intro j u hu
  obtain ⟨q, s, hq, hs⟩ := spvs_at hu
  have hlt := (List.getElem?_eq_some_iff.1 hq).1
  obtain ⟨b, off, e, _, hc⟩ := h.2 (by have := h.1; omega)
  obtain rfl : ad = ⟨b, off, none⟩ := by injection e
  obtain ⟨h1, h2, h3⟩ := hc q s hq
  rw [add_off]
  rcases hs with ⟨rfl, rfl⟩ | ⟨rfl, rfl⟩ | ⟨rfl, rfl⟩
  · exact h1
  · exact h2
  · exact h3
theorem SAt.take {w : World} {A : Option Addr} {n k : Nat} {ls : List Sp} (h : SAt w A n ls) (hk : k ≤ n) : SAt w A k (ls.take k) := by
  refine ⟨by rw [List.length_take, h.1]; omega, fun h0 => ?_⟩
  obtain ⟨b, off, rfl, hlt, hc⟩ := h.2 (by omega)
  refine ⟨b, off, rfl, hlt, fun j s hj => ?_⟩
  rw [List.getElem?_take] at hj
  split at hj
  · exact hc j s hj
  · cases hj
/-! Lists in order. -/
def Low (l : List Sp) : Prop := l.Pairwise fun s t => s.a ≤ t.a
end Go.Proofs.YtfakohoamgogoaaGreatDoor.Pq

namespace Go.Proofs.YtfakohoamgogoaaGreatDoor.Pq
open Go.RowKit

/-- The spans of the lines whose values are among those told. -/
def selS (vs : List (List UInt8)) (L : List Ln) : List Sp := (L.filter fun x => amongB vs (pfld x.2 1)).map fun x => spOf x.2
theorem sel_cons (vs : List (List UInt8)) (x : Ln) (L : List Ln) : selS vs (x :: L) = if amongB vs (pfld x.2 1) = true then spOf x.2 :: selS vs L else selS vs L := by
  unfold selS
  rw [List.filter_cons]
  split <;> rfl
theorem prp_inv : ∀ (vs : List (List UInt8)) (L : List Ln) (out : List Sp), (propP vs out L).err = 0 → (∀ x ∈ L, lineErr x.2 = 0) ∧ came out (selS vs L) = .ok (propP vs out L).rows ∧ (propP vs out L).num = 0
  | vs, [], out, _ => ⟨(fun x h => by cases h), (by rw [propP]; rfl), (by rw [propP])⟩
  | vs, x :: L, out, h => by
    by_cases hx : lineErr x.2 = 0
    · cases ha : amongB vs (pfld x.2 1) with
      | false =>
        rw [prp_skip hx ha] at h ⊢
        obtain ⟨h1, h2, h3⟩ := prp_inv vs L out h
        refine ⟨fun y hy => ?_, ?_, h3⟩
        · rcases List.mem_cons.1 hy with rfl | hy
          · exact hx
          · exact h1 y hy
        · rw [sel_cons, ha, if_neg (by simp)]
          exact h2
      | true =>
        by_cases hc : check out (spOf x.2) = 0
        · rw [prp_add hx ha hc] at h ⊢
          obtain ⟨h1, h2, h3⟩ := prp_inv vs L _ h
          refine ⟨fun y hy => ?_, ?_, h3⟩
          · rcases List.mem_cons.1 hy with rfl | hy
            · exact hx
            · exact h1 y hy
          · rw [sel_cons, ha, if_pos rfl, came, if_pos hc]
            exact h2
        · rw [prp_bad hx ha hc] at h
          exact absurd h hc
    · rw [prp_err hx] at h
      exact absurd h hx
/-! Lines of other values. -/
end Go.Proofs.YtfakohoamgogoaaGreatDoor.Pq

namespace Go.Proofs.YtfakohoamgogoaaGreatDoor

/-! Rows with a decomposition are of one code point. -/
def FlatR (ps : List Uc.Pr) : Prop := ∀ r ∈ ps, r.dec ≠ [] → r.a = r.b
theorem flat_snoc {ps : List Uc.Pr} {r : Uc.Pr} (h : FlatR ps) (hr : r.dec ≠ [] → r.a = r.b) : FlatR (ps ++ [r]) := by
  intro x hx hd
  rcases List.mem_append.1 hx with h' | h'
  · exact h x h' hd
  · rw [List.mem_singleton.1 h'] at hd ⊢; exact hr hd
theorem join_dec {f g : List (List UInt8)} (h : ¬ Uc.joinB f g = false) : (Uc.rowVal f).dec = [] := by
  have hj : Uc.joinB f g = true := by simpa using h
  unfold Uc.joinB at hj
  simp only [Bool.and_eq_true, decide_eq_true_eq] at hj
  show Uc.decVal (Uc.fld f 5) = []
  rw [hj.2.2.2.2.1]
  rfl
theorem flat_ref : ∀ (l : List Ln) (out : List Uc.Pr), FlatR out → FlatR (Uc.refP out l).rows
  | [], out, hg => by rw [Uc.refP]; exact hg
  | x :: t, out, hg => by
    have nil : FlatR [] := fun r h => by cases h
    rw [Uc.refP.eq_def]
    simp only []
    by_cases h1 : ¬ Uc.rowErr x.2 = 0
    · rw [if_pos h1]; exact nil
    rw [if_neg h1]
    by_cases h2 : Uc.twice out (Uc.rowVal x.2) = true
    · rw [if_pos h2]; exact nil
    rw [if_neg h2]
    by_cases h3 : Uc.namedB (Uc.fld x.2 1) Uc.nmF = true
    · rw [if_pos h3]
      cases t with
      | nil => exact nil
      | cons y t' =>
        simp only []
        by_cases h4 : ¬ Uc.rowErr y.2 = 0
        · rw [if_pos h4]; exact nil
        rw [if_neg h4]
        by_cases h5 : Uc.joinB x.2 y.2 = false
        · rw [if_pos h5]; exact nil
        rw [if_neg h5]
        exact flat_ref t' _ (flat_snoc (r := { Uc.rowVal x.2 with b := (Uc.rowVal y.2).a }) hg (fun hd => absurd (join_dec h5) hd))
    · rw [if_neg h3]
      exact flat_ref t _ (flat_snoc hg (fun _ => rfl))
theorem flat_parse (l : List Ln) : FlatR (Uc.parseOf l).rows := flat_ref l [] (fun r h => by cases h)

/-! How many rows there are. -/
def wide (L : List Ln) : Nat := (L.map fun x => x.2.length - 1).sum
theorem few_ref : ∀ (l : List Ln) (out : List Uc.Pr), 14 * (Uc.refP out l).rows.length ≤ 14 * out.length + wide l
  | [], out => by rw [Uc.refP]; simp
  | x :: t, out => by
    have hw : wide (x :: t) = (x.2.length - 1) + wide t := by simp [wide]
    rw [Uc.refP.eq_def]
    simp only []
    by_cases h1 : ¬ Uc.rowErr x.2 = 0
    · rw [if_pos h1]; simp
    rw [if_neg h1]
    have h15 := (Uc.row_ok (by simpa using h1)).1
    by_cases h2 : Uc.twice out (Uc.rowVal x.2) = true
    · rw [if_pos h2]; simp
    rw [if_neg h2]
    by_cases h3 : Uc.namedB (Uc.fld x.2 1) Uc.nmF = true
    · rw [if_pos h3]
      cases t with
      | nil => simp
      | cons y t' =>
        simp only []
        by_cases h4 : ¬ Uc.rowErr y.2 = 0
        · rw [if_pos h4]; simp
        rw [if_neg h4]
        by_cases h5 : Uc.joinB x.2 y.2 = false
        · rw [if_pos h5]; simp
        rw [if_neg h5]
        have hw2 : wide (y :: t') = (y.2.length - 1) + wide t' := by simp [wide]
        refine Nat.le_trans (few_ref t' _) ?_
        rw [List.length_append, List.length_singleton]
        omega
    · rw [if_neg h3]
      have := few_ref t (out ++ [Uc.rowVal x.2])
      rw [List.length_append, List.length_singleton] at this
      omega
theorem wide_lines : ∀ (n : Int) (L : List (List UInt8)), wide ((numbered n L).filterMap lineOf) ≤ (L.map List.length).sum
  | _, [] => by simp [numbered, wide]
  | n, p :: L => by
    have ih := wide_lines (n + 1) L
    show wide (((n, bodyOf p) :: numbered (n + 1) L).filterMap lineOf) ≤ _
    rw [List.filterMap_cons]
    cases h : lineOf (n, bodyOf p) with
    | none => simp only [List.map_cons, List.sum_cons]; omega
    | some x =>
      have hx : x.2.length - 1 ≤ p.length := by
        unfold lineOf at h
        split at h
        · cases h
        · injection h with h
          rw [← h]
          show (fieldsOf (bodyOf p)).length - 1 ≤ _
          have h1 := cutAll_length 59 (bodyOf p)
          have h2 := body_length p
          unfold fieldsOf
          rw [List.length_map]
          omega
      have hw : wide (x :: (numbered (n + 1) L).filterMap lineOf) = (x.2.length - 1) + wide ((numbered (n + 1) L).filterMap lineOf) := by simp [wide]
      simp only [List.map_cons, List.sum_cons]
      rw [hw]
      omega
theorem cut_sum (c : UInt8) : ∀ l : List UInt8, ((cutAll c l).map List.length).sum ≤ l.length
  | [] => by simp [cutAll]
  | y :: l => by
    have ih := cut_sum c l
    unfold cutAll
    split
    · simp; omega
    · cases h : cutAll c l with
      | nil => exact absurd h (cutAll_ne c l)
      | cons a t =>
        rw [h] at ih
        simp only [glue]
        simp at ih ⊢
        omega
/-- A file has one row for 14 octets at the most. -/
theorem few_rows (l : List UInt8) : 14 * (Uc.parseOf (linesIn l)).rows.length ≤ l.length := by
  have h1 := few_ref (linesIn l) []
  have h2 := wide_lines 1 (cutAll 10 l)
  have h3 := cut_sum 10 l
  have h4 : 14 * (Uc.parseOf (linesIn l)).rows.length ≤ 14 * ([] : List Uc.Pr).length + wide (linesIn l) := h1
  unfold linesIn at h4 ⊢
  simp at h4
  omega

/-! Decompositions of rows. -/
theorem pat_mem {ps : List Uc.Pr} {c : Int} (h : (Uc.patOf ps c).dec ≠ []) : Uc.patOf ps c ∈ ps ∧ (Uc.patOf ps c).a ≤ c ∧ c ≤ (Uc.patOf ps c).b := by
  unfold Uc.patOf at h ⊢
  cases hf : ps.find? (fun p => decide (p.a ≤ c ∧ c ≤ p.b)) with
  | none => rw [hf] at h; exact absurd rfl h
  | some p =>
    have h1 := List.mem_of_find?_eq_some hf
    have h2 := List.find?_some hf
    simp only [Option.getD_some]
    exact ⟨h1, by simpa using h2⟩
theorem dcf_key {ps : List Uc.Pr} (hf : FlatR ps) {c : Int} (h : dcf ps c ≠ []) : c ∈ ps.map fun r => r.a := by
  have hd : (Uc.patOf ps c).dec ≠ [] := fun e => h (by unfold dcf; rw [e]; rfl)
  obtain ⟨h1, h2, h3⟩ := pat_mem hd
  have := hf _ h1 hd
  exact List.mem_map.2 ⟨_, h1, by omega⟩
theorem dcf_two {ps : List Uc.Pr} (hg : Uc.Good ps) (c : Int) : (dcf ps c).length ≤ 2 := by
  by_cases h : (Uc.patOf ps c).dec = []
  · unfold dcf; rw [h]; simp
  · have := (hg.2 _ (pat_mem h).1).2.2.2
    unfold dcf
    rw [List.length_map]
    exact this
def decU (ps : List Uc.Pr) : List Int := ps.flatMap fun r => r.dec.map fun n : Nat => (n : Int)
theorem dcf_U {ps : List Uc.Pr} (c : Int) : ∀ d ∈ dcf ps c, d ∈ decU ps := by
  intro d hd
  have hne : (Uc.patOf ps c).dec ≠ [] := fun e => by unfold dcf at hd; rw [e] at hd; cases hd
  exact List.mem_flatMap.2 ⟨_, (pat_mem hne).1, hd⟩
theorem decU_len : ∀ {ps : List Uc.Pr}, (∀ r ∈ ps, r.dec.length ≤ 2) → (decU ps).length ≤ 2 * ps.length
  | [], _ => by simp [decU]
  | r :: ps, h => by
    have h1 := h r (by simp)
    have h2 := decU_len (ps := ps) (fun x hx => h x (List.mem_cons_of_mem _ hx))
    have e : decU (r :: ps) = (r.dec.map fun n : Nat => (n : Int)) ++ decU ps := by simp [decU]
    rw [e]
    simp
    omega
/-- Decompositions go round. -/
def cycB (ps : List Uc.Pr) : Bool := ps.any fun r => decide (r.a ∈ rch (dcf ps) 5000 0 (dcf ps r.a))
theorem cyc_iff {ps : List Uc.Pr} (hg : Uc.Good ps) (hn : ps.length ≤ 2000) : cycB ps = true ↔ ∃ r ∈ ps, Plus (dcf ps) r.a r.a := by
  unfold cycB
  rw [List.any_eq_true]
  have hU := decU_len (ps := ps) (fun r hr => (hg.2 r hr).2.2.2)
  constructor
  · rintro ⟨r, hr, h⟩
    have := dcf_two hg r.a
    exact ⟨r, hr, (round_iff (U := decU ps) dcf_U (by omega)).1 (of_decide_eq_true h)⟩
  · rintro ⟨r, hr, h⟩
    have := dcf_two hg r.a
    exact ⟨r, hr, decide_eq_true ((round_iff (U := decU ps) dcf_U (by omega)).2 h)⟩
theorem no_cyc {ps : List Uc.Pr} (hg : Uc.Good ps) (hf : FlatR ps) (hn : ps.length ≤ 2000) (h : cycB ps = false) (c : Int) : Ends (dcf ps) ps.length c := by
  have h' := all_end (dec := dcf ps) (K := ps.map fun r => r.a) (fun c hc => dcf_key hf hc) (fun c hc hp => by
    obtain ⟨r, hr, rfl⟩ := List.mem_map.1 hc
    rw [(cyc_iff hg hn).2 ⟨r, hr, hp⟩] at h
    cases h) c
  rwa [List.length_map] at h'
/-- A full decomposition has more than 4 code points. -/
def longB (ps : List Uc.Pr) : Bool := ps.any fun r => decide (4 < prt (dcf ps) ps.length r.a)
theorem long_iff {ps : List Uc.Pr} (hg : Uc.Good ps) : longB ps = true ↔ ∃ r ∈ ps, 4 < cnt (dcf ps) ps.length r.a := by
  unfold longB
  rw [List.any_eq_true]
  constructor
  · rintro ⟨r, hr, h⟩
    have := (prt_cnt (dec := dcf ps) (dcf_two hg) ps.length r.a).1
    exact ⟨r, hr, by have := of_decide_eq_true h; omega⟩
  · rintro ⟨r, hr, h⟩
    have := (prt_cnt (dec := dcf ps) (dcf_two hg) ps.length r.a).1
    exact ⟨r, hr, decide_eq_true (by omega)⟩
end Go.Proofs.YtfakohoamgogoaaGreatDoor

namespace Go.Proofs.YtfakohoamgogoaaGreatDoor.Pq
open Go.RowKit

theorem mx {a : Nat} (h : a ≤ 200000) : a ≤ maxLen := by unfold maxLen; omega
theorem my {a : Nat} (h : a ≤ 200000) : a * 32 ≤ 140737488355328 := by omega
end Go.Proofs.YtfakohoamgogoaaGreatDoor.Pq

namespace Go.Proofs.YtfakohoamgogoaaGreatDoor
open Go.RowKit

/-- What a bundle says: rows, spans, pairs, what pairs make; where it is wrong. -/
structure Dt where
  ps : List Uc.Pr
  sp : Nat → List Pq.Sp
  cf : List Cf.Pp
  ms : List (Int × Int × Int)
structure Wh where
  file : Int
  line : Int
  err : Int
/-- A row's two parts. -/
def dec0 (r : Uc.Pr) : Int := ((r.dec.getD 0 0 : Nat) : Int)
def dec1 (r : Uc.Pr) : Int := ((r.dec.getD 1 0 : Nat) : Int)
/-- Does a row make nothing? -/
def idle (ex : List Pq.Sp) (ps : List Uc.Pr) (r : Uc.Pr) : Prop := ¬ r.dec.length = 2 ∨ ¬ r.ccc = 0 ∨ ¬ Pq.valueOf ex r.a = [] ∨ ¬ (Uc.patOf ps (dec0 r)).ccc = 0
instance (ex : List Pq.Sp) (ps : List Uc.Pr) (r : Uc.Pr) : Decidable (idle ex ps r) := by unfold idle; infer_instance
/-- What pairs make; none: one pair would make two. -/
def mkP (ex : List Pq.Sp) (ps : List Uc.Pr) : List (Int × Int × Int) → List Uc.Pr → Option (List (Int × Int × Int))
  | out, [] => some out
  | out, r :: l => if idle ex ps r then mkP ex ps out l else if findM out (dec0 r) (dec1 r) = none then mkP ex ps (out ++ [(r.a, dec0 r, dec1 r)]) l else none
/-- Does a row of Hangul have what it must not? -/
def badK (r : Uc.Pr) : Prop := (0 < r.dec.length ∨ ¬ r.ccc = 0) ∧ touB r.a r.b = true
instance (r : Uc.Pr) : Decidable (badK r) := by unfold badK; infer_instance
def touA (ps : List Uc.Pr) : Bool := ps.any fun r => decide (badK r)
def load5 (ps : List Uc.Pr) (sp : Nat → List Pq.Sp) (cf : List Cf.Pp) : Wh × Option Dt :=
  match mkP (sp 0) ps [] ps with
  | none => (⟨1, 0, 15⟩, none)
  | some ms => (⟨0, 0, 0⟩, some ⟨ps, sp, cf, ms⟩)
def load4 (ps : List Uc.Pr) (sp : Nat → List Pq.Sp) (cf : List Cf.Pp) : Wh × Option Dt := if longB ps = true then (⟨1, 0, 36⟩, none) else load5 ps sp cf
def load3 (ps : List Uc.Pr) (sp : Nat → List Pq.Sp) (cf : List Cf.Pp) : Wh × Option Dt := if cycB ps = true then (⟨1, 0, 17⟩, none) else load4 ps sp cf
def load2 (ps : List Uc.Pr) (sp : Nat → List Pq.Sp) (cf : List Cf.Pp) : Wh × Option Dt := if touA ps = true then (⟨1, 0, 16⟩, none) else load3 ps sp cf
/-- What the pairs' file says. -/
def cfF (f : Nat → List UInt8) : Cf.CRes := Cf.cfOf (linesIn (f 6))
def load1 (f : Nat → List UInt8) (ps : List Uc.Pr) (sp : Nat → List Pq.Sp) : Wh × Option Dt := if (cfF f).err = 0 then load2 ps sp (cfF f).rows else (⟨7, (cfF f).num, (cfF f).err⟩, none)
/-- What a property's file says. -/
def prF (f : Nat → List UInt8) (i : Nat) := Pq.propOf (valsOf (2 + i)) (linesIn (f (1 + i)))
def spF (f : Nat → List UInt8) (i : Nat) : List Pq.Sp := Pq.sorted (prF f i).rows
/-- From the property i on; n are left. -/
def loadP (f : Nat → List UInt8) (ps : List Uc.Pr) : Nat → Nat → Wh × Option Dt
  | 0, _ => load1 f ps (spF f)
  | n + 1, i => if (prF f i).err = 0 then loadP f ps n (i + 1) else (⟨2 + (i : Int), (prF f i).num, (prF f i).err⟩, none)
def uF (f : Nat → List UInt8) : Uc.Res := Uc.parseOf (linesIn (f 0))
/-- What Load tells of seven files. -/
def loadOf (f : Nat → List UInt8) : Wh × Option Dt := if (uF f).err = 0 then loadP f (uF f).rows 5 0 else (⟨1, (uF f).num, (uF f).err⟩, none)
end Go.Proofs.YtfakohoamgogoaaGreatDoor
