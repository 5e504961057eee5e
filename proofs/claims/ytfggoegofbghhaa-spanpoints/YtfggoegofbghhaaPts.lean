/- What the program's Points hands back, and going through it. -/
import Derived.Test.YtfggoegofbghhaaFiter
import Derived.Test.YtfggoegofbghhaaHas
import Derived.Laws.EntriesVeiled
namespace Go.Proofs.Ytfggoegofbghhaa
open Go.RowKit Go.Shelf
attribute [local go_sem] Oper.semAt_some

theorem pts_snoc (pre : List Sp) (x : Sp) (v : List UInt8) : pointsOf (pre ++ [x]) v = pointsOf pre v ++ (if v ≠ [] ∧ x.v = v then upTo x.a x.b else []) := by
  unfold pointsOf
  by_cases h : v = []
  · rw [if_pos h, if_pos h, if_neg (by simp [h])]; rfl
  · rw [if_neg h, if_neg h, List.flatMap_append]
    by_cases h2 : x.v = v
    · rw [if_pos ⟨h, h2⟩]; simp [h2]
    · rw [if_neg (fun e => h2 e.2)]; simp [h2]
theorem pts_no {pre : List Sp} {x : Sp} {v : List UInt8} (h : ¬ x.v = v) : pointsOf (pre ++ [x]) v = pointsOf pre v := by rw [pts_snoc, if_neg (fun e => h e.2), List.append_nil]
theorem pts_yes {pre : List Sp} {x : Sp} {v : List UInt8} (h : x.v = v) (hv : x.v ≠ []) : pointsOf (pre ++ [x]) v = pointsOf pre v ++ upTo x.a x.b := by rw [pts_snoc, if_pos ⟨fun e => hv (by rw [h]; exact e), h⟩]
theorem pts_pre {pre r : List Sp} (v : List UInt8) (h : pre <+: r) : pointsOf pre v <+: pointsOf r v := by
  obtain ⟨t, rfl⟩ := h
  unfold pointsOf
  by_cases h : v = []
  · rw [if_pos h, if_pos h]; exact List.prefix_refl _
  · rw [if_neg h, if_neg h, List.flatMap_append]; exact List.prefix_append _ _
theorem upTo_length (a b : Int) : (upTo a b).length = (b + 1 - a).toNat := by unfold upTo; simp
theorem pts_length {v : List UInt8} : ∀ (l : List Sp), (∀ s ∈ l, Fit s) → (pointsOf l v).length ≤ l.length * 1114112
  | [], _ => by rw [points_nil]; exact Nat.zero_le _
  | s :: l, h => by
    by_cases hv : v = []
    · rw [hv, points_empty]; exact Nat.zero_le _
    · rw [points_cons s l v hv, List.length_append, List.length_cons]
      have ih := pts_length (v := v) l (fun t ht => h t (List.mem_cons_of_mem _ ht))
      obtain ⟨f1, f2, f3, -⟩ := h s (List.mem_cons_self ..)
      have : (if s.v = v then upTo s.a s.b else []).length ≤ 1114112 := by
        split
        · rw [upTo_length]; omega
        · simp
      omega
theorem upTo_get {a b : Int} {j : Nat} (h : a + j ≤ b) : (upTo a b)[j]? = some (a + j) := by
  unfold upTo
  rw [List.getElem?_map, List.getElem?_range (by omega)]
  rfl
theorem upTo_take {a b : Int} {j : Nat} (h : a + j ≤ b) : (upTo a b).take (j + 1) = (upTo a b).take j ++ [a + (j : Int)] := by
  have hg := List.getElem?_eq_some_iff.1 (upTo_get h)
  rw [List.take_succ_eq_append_getElem hg.1, hg.2]
theorem upTo_all {a b : Int} {j : Nat} (h : b < a + j) : (upTo a b).take j = upTo a b := List.take_of_length_le (by rw [upTo_length]; omega)
theorem round_any {m m' lq : Nat} {P : Program} {l : Nat} {f : FuncId} {tmps : Array Value} {assign body : Code} {w : World} {R : Ending → World → Prop} (h : RoundIn Fence.wide m P l f tmps assign body w R) : RoundIn (Fence.wide.inRound lq) m' P l f tmps assign body w R := ⟨h.1, fun c cs _ => h.2 c cs (room_wide _)⟩

def PtsPost (r : List Sp) (A : Option Addr) (c : Nat) (V : ByteArray) (w : World) (e : Ending) (w' : World) : Prop :=
  Below w.heap.size w w' ∧ ∃ B0 B1 b, e = .returned (.func (.func 36) #[] #[.pointer (some ⟨B0, 0, none⟩), .pointer (some ⟨B1, 0, none⟩)]) ∧ (w.heap.size ≤ B0 ∧ B0 < w'.heap.size) ∧ (w.heap.size ≤ B1 ∧ B1 < w'.heap.size) ∧ (w.heap.size ≤ b ∧ b < w'.heap.size) ∧
    w'.cell? ⟨B0, 0, none⟩ = some (.func (.func 55) #[] #[.pointer (some ⟨b, 0, none⟩)]) ∧ w'.cell? ⟨B1, 0, none⟩ = some (.string V) ∧ w'.cell? ⟨b, 0, none⟩ = some (.slice A r.length c) ∧ SAt w' A r.length r
set_option maxRecDepth 100000 in
set_option maxHeartbeats 2000000 in
theorem points22 (p A : Option Addr) (c : Nat) (r : List Sp) (V : ByteArray) (w : World) (hT : TIn w p A c r) : Calls Try.prog 22 #[.pointer p, .string V] w (PtsPost r A c V w) := by
  have hb0 : Below w.heap.size w (w.alloc (.cells #[.string V] 9)) := (Below.refl _ _).alloc (Nat.le_refl _) _
  have n0 := box_new w (.string V) 9
  have s0 : (w.alloc (.cells #[.string V] 9)).heap.size = w.heap.size + 1 := by simp
  have c32 := all32 p A c r _ (hT.below hb0)
  clear hT
  have N0 := Lib.hid n0.1
  have HB0 := Lib.hid hb0
  have HS0 := Lib.hid s0
  clear n0 hb0 s0
  go_enter Try.func22, Try.ntmps22
  go_wp2_with (go_at_call 32; (with_reducible refine c32.mono ?_); rintro e w1 ⟨hb1, b, rfl, hB1, hB2, hBc, hS1⟩; have h1 := Lib.hid hS1; have h2 := Lib.hid hBc; clear hS1 hBc)
  go_ret
  have s0 := HS0.out
  have s1 := hb1.size
  have b2 : Below w1.heap.size w1 (w1.alloc (.cells #[.func (.func 55) #[] #[.pointer (some ⟨b, 0, none⟩)]] 64)) := (Below.refl _ _).alloc (Nat.le_refl _) _
  have k1 := (hb1.cell (p := ⟨w.heap.size, 0, none⟩) (by show w.heap.size < _; omega)).trans N0.out
  exact ⟨HB0.out.trans ((hb1.trans (b2.mono hb1.size)).mono HB0.out.size), w1.heap.size, w.heap.size, b, rfl, ⟨by omega, by simp⟩, ⟨Nat.le_refl _, by simp; omega⟩, ⟨by omega, by simp; omega⟩, by simp, (b2.cell (p := ⟨w.heap.size, 0, none⟩) (by show w.heap.size < _; omega)).trans k1, (b2.cell (p := ⟨b, 0, none⟩) hB2).trans h2.out, h1.out.below b2⟩
end Go.Proofs.Ytfggoegofbghhaa
