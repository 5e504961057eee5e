/- The program's Is. -/
/- What the laws' own Small and awake hand back. -/
/- Two lists of numbers that are the same are told so by the document's own Same. -/
/- What the laws' own awake of stage 9 hands back: the document's example. -/
/- The laws' own awake walked. -/
/- The laws' Count and Rest. -/
/- The bundle's box; two results told the same. -/
/- What the laws' walks hold: the bundle's data. -/
/- Append of numbers onto a row of the call's own, at a step of a region that draws its order. -/
import Derived.Test.YtfakohoamgogoaaGreatDoorQt50
import Derived.Test.YtfakohoamgogoaaGreatDoorQt41
import Derived.Test.YtfakohoamgogoaaGreatDoorQt02
import Derived.Test.YtfakohoamgogoaaGreatDoorProg
import Derived.BigQuiet
import Derived.Test.YtfakohoamgogoaaGreatDoorQt42
import Derived.Deep.AppendLies
namespace Go.Proofs.YtfakohoamgogoaaGreatDoor
open Go.RowKit Go.Shelf Go.Sort

theorem ful_pos {dc : Int → List Int} : ∀ (n : Nat) (c : Int), 0 < (ful dc n c).length := by
  intro n
  induction n with
  | zero =>
    intro c
    by_cases h : sylB c
    · rw [ful_syl h]; exact sparts_pos c
    · rw [ful, if_neg h]; exact Nat.one_pos
  | succ n ih =>
    intro c
    by_cases h : sylB c
    · rw [ful_syl h]; exact sparts_pos c
    · by_cases hd : dc c = []
      · rw [ful_nil h hd]; exact Nat.one_pos
      · rw [ful_more h hd]
        obtain ⟨x, l, e⟩ := List.exists_cons_of_ne_nil hd
        rw [e, List.flatMap_cons, List.length_append]
        have := ih x
        omega
theorem Fit.nne {ps : List Uc.Pr} (h : Fit ps) (s : List Int) (hs : s ≠ []) : nfd ps s ≠ [] := by
  intro e
  have hl : (nfd ps s).length = 0 := by rw [e]; rfl
  obtain ⟨x, l, e2⟩ := List.exists_cons_of_ne_nil hs
  rw [nfd, nfL, ord_len h.ccc, e2, List.flatMap_cons, List.length_append] at hl
  have := ful_pos (dc := dcf ps) ps.length x
  unfold fl at hl
  omega
theorem vals_nums {w : World} {b off n : Nat} {zs : List Int} (h : Vals w (some ⟨b, off, none⟩) n (nums .i64 zs)) : ∀ j, j < zs.length → w.cell? ⟨b, off + j, none⟩ = some (.int .i64 (zs.getD j 0)) := by
  intro j hj
  have hl : zs.length = n := by have := h.1; rwa [nlen] at this
  obtain ⟨b2, off2, e, -, hc⟩ := h.2 (by omega)
  cases e
  exact hc j _ (nums_get hj)
def IsPost (v : Bool) (w : World) (e : Ending) (w' : World) : Prop := e = .returned (.bool v) ∧ Below w.heap.size w w'
set_option maxRecDepth 100000 in
set_option maxHeartbeats 4000000 in
theorem is19 (b : Nat) (ps : List Uc.Pr) (A : Option Addr) (n c : Nat) (s : List Int) (w : World) (hD : DdR w b ps) (hF : Fit ps) (hs : Vals w A n (nums .i64 s)) (hn : n ≤ 5000) :
    Calls Tryz.prog 19 #[.pointer (some ⟨b, 0, none⟩), .slice A n c] w (IsPost (decide (s = nfd ps s)) w) := by
  have hl : s.length = n := by have := hs.1; rwa [nlen] at this
  have c17 := nfd17 b ps A n c s w hD hF hs hn
  have hN := hF.nlen s
  have hN0 : s ≠ [] → nfd ps s ≠ [] := hF.nne s
  obtain ⟨Z, hZ⟩ : ∃ Z, nfd ps s = Z := ⟨_, rfl⟩
  rw [hZ] at c17 hN hN0 ⊢
  have C36 : Hid (∀ W A2 c2, ApO w Z (.returned (.slice A2 Z.length c2)) W → Calls Tryz.prog 36 #[.slice A n c, .slice A2 Z.length c2] W (IsPost (decide (s = Z)) w)) := by
    intro W A2 c2 ⟨A', c', e, hb, hv⟩
    cases e
    obtain ⟨A', c', e, -, hv, -⟩ := own_vals hv.out
    cases e
    by_cases h0 : n = 0
    · subst h0
      have hs0 : s = [] := List.eq_nil_of_length_eq_zero hl
      subst hs0
      refine (Tryz.slices_Equal_empty A A2 c Z.length c2 W (by have : Z.length ≤ 12 * 0 := hN; omega)).mono ?_
      rintro e w' ⟨rfl, rfl⟩
      refine ⟨?_, hb⟩
      rw [decide_eq_decide.2 (show Z.length = 0 ↔ [] = Z from ⟨fun h => (List.eq_nil_of_length_eq_zero h).symm, fun h => h ▸ rfl⟩)]
    · have hz : Z.length ≠ 0 := fun h => hN0 (fun h2 => h0 (by rw [← hl, h2]; rfl)) (List.eq_nil_of_length_eq_zero h)
      obtain ⟨b1, o1, rfl, -, -⟩ := (hs.below hb).2 (by omega)
      obtain ⟨b2, o2, rfl, -, -⟩ := hv.2 (by omega)
      refine (Tryz.slices_Equal b1 o1 n c b2 o2 Z.length c2 s Z W (by omega) (Nat.le_refl _) (by omega) (by omega) (vals_nums (hs.below hb)) (vals_nums hv)).mono ?_
      rintro e w' ⟨rfl, q, rfl⟩
      refine ⟨?_, below_drewN hb q⟩
      rw [← hl, List.take_length, List.take_length]
      congr 2
      rw [Bool.eq_iff_iff]
      simp
  have HL := Lib.hid hl
  have c17' : Calls Tryz.prog 17 #[.pointer (some ⟨b, 0, none⟩), .slice A n c] w fun e W => ∃ A2 c2, e = .returned (.slice A2 Z.length c2) ∧ Hid (ApO w Z (.returned (.slice A2 Z.length c2)) W) := c17.mono (by
    rintro e W ⟨A2, c2, rfl, h⟩
    exact ⟨A2, c2, rfl, A2, c2, rfl, h⟩)
  obtain ⟨z, hz⟩ : ∃ z, Z.length = z := ⟨_, rfl⟩
  rw [hz] at C36 c17'
  clear hN hN0 hD hF hs hl hZ c17 hz
  go_enter Tryz.func19, Tryz.ntmps19
  go_wp2_with (first
    | (go_at_call 17; (with_reducible refine c17'.mono ?_); rintro e w1 ⟨A2, c2, rfl, h2⟩)
    | (go_at_call 36; (with_reducible refine (C36.out w1 A2 c2 h2.out).mono ?_); rintro e w2 ⟨rfl, h5⟩))
  go_ret
  exact ⟨rfl, h5⟩
end Go.Proofs.YtfakohoamgogoaaGreatDoor

namespace Go.Proofs.YtfakohoamgogoaaGreatDoor
open Go.RowKit
attribute [local go_sem] Oper.semAt_some

set_option maxRecDepth 100000 in
set_option maxHeartbeats 2000000 in
theorem small8 (b0 b1 b2 b3 b4 b5 b6 : Option Addr) (n0 n1 n2 n3 n4 n5 n6 m0 m1 m2 m3 m4 m5 m6 : Nat) (w : World) (h0 : n0 ≤ 1000000000000000) (h1 : n1 ≤ 1000000000000000) (h2 : n2 ≤ 1000000000000000) (h3 : n3 ≤ 1000000000000000) (h4 : n4 ≤ 1000000000000000) (h5 : n5 ≤ 1000000000000000) (h6 : n6 ≤ 1000000000000000) :
    Calls Tryz.prog 8 #[.agg #[.slice b0 n0 m0, .slice b1 n1 m1, .slice b2 n2 m2, .slice b3 n3 m3, .slice b4 n4 m4, .slice b5 n5 m5, .slice b6 n6 m6]] w fun e w' => e = .returned (.bool (decide (n0 + n1 + n2 + n3 + n4 + n5 + n6 ≤ 3000))) ∧ Below w.heap.size w w' := by
  have hb : ∀ o, Below w.heap.size w (w.alloc o) := fun o => (Below.refl _ _).alloc (Nat.le_refl _) o
  have HB := Lib.hid hb
  clear hb
  go_enter Tryz.func8, Tryz.ntmps8
  go_wp2
  go_ret
  refine ⟨?_, HB.out _⟩
  show Ending.returned (.bool (decide ((n0 : Int) + n1 + n2 + n3 + n4 + n5 + n6 ≤ 3000))) = _
  rw [show decide ((n0 : Int) + n1 + n2 + n3 + n4 + n5 + n6 ≤ 3000) = decide (n0 + n1 + n2 + n3 + n4 + n5 + n6 ≤ 3000) from decide_eq_decide.2 (by omega)]
end Go.Proofs.YtfakohoamgogoaaGreatDoor

namespace Go.Proofs.YtfakohoamgogoaaGreatDoor
open Go.RowKit

def CmpRel (n : Nat) (w : World) (i : Value) (wr : World) : Prop := ∃ k q : Nat, i = .int .i64 k ∧ k ≤ n ∧ wr = w.drewN q
set_option maxRecDepth 100000 in
set_option maxHeartbeats 1000000 in
theorem compare32 (A B : Option Addr) (n ca cb : Nat) (zs : List Int) (w : World) (hA : Vals w A n (nums .i64 zs)) (hB : Vals w B n (nums .i64 zs)) (hn : n ≤ 1000000) :
    Calls Tryz.prog 27 #[.slice A n ca, .slice B n cb] w fun e w' => e = .returned (.int .i64 0) ∧ ∃ q, w' = w.drewN q := by
  have hl : zs.length = n := by have := hA.1; unfold nums at this; rwa [List.length_map] at this
  have HA := Lib.hid hA
  have HB := Lib.hid hB
  have HZ := Lib.hid hl
  clear hA hB hl
  go_enter Tryz.func27, Tryz.ntmps27
  go_wp2
  go_loopw [5] (fun i wr => CmpRel n w i wr) (fun i _ => n - (intOf i).toNat)
  case atStart => exact ⟨0, 0, rfl, Nat.zero_le _, rfl⟩
  case round =>
    obtain ⟨k, q, rfl, hkn, rfl⟩ := hrel
    by_cases hlt : k < n
    · obtain ⟨b, off, rfl, -, hc⟩ := HA.out.2 (by omega)
      obtain ⟨b2, off2, rfl, -, hc2⟩ := HB.out.2 (by omega)
      have h1 : w.cell? ⟨b, off + k, none⟩ = some (.int .i64 (zs.getD k 0)) := hc k _ (nums_get (by rw [HZ.out]; exact hlt))
      have h2 : w.cell? ⟨b2, off2 + k, none⟩ = some (.int .i64 (zs.getD k 0)) := hc2 k _ (nums_get (by rw [HZ.out]; exact hlt))
      obtain ⟨x, hx⟩ : ∃ x, zs.getD k 0 = x := ⟨_, rfl⟩
      rw [hx] at h1 h2
      clear hc hc2 hx
      go_wp2
      go_quiet (fail)
      go_wp2
      go_quiet (fail)
      go_wp2
      go_roundw
      case rel => exact ⟨k + 1, _, by go_num, by omega, rfl⟩
      case measure => simp [intOf]; omega
    · have hke : k = n := by omega
      subst hke
      go_wp2
      go_ret
      exact ⟨rfl, q, rfl⟩
set_option maxHeartbeats 1000000 in
theorem same17 (A B : Option Addr) (n ca cb : Nat) (zs : List Int) (w : World) (hA : Vals w A n (nums .i64 zs)) (hB : Vals w B n (nums .i64 zs)) (hn : n ≤ 1000000) :
    Calls Tryz.prog 10 #[.slice A n ca, .slice B n cb] w fun e w' => e = .returned (.bool true) ∧ ∃ q, w' = w.drewN q := by
  have c := compare32 A B n ca cb zs w hA hB hn
  clear hA hB
  go_enter Tryz.func10, Tryz.ntmps10
  go_wp2_with (go_at_call 27; (with_reducible refine c.mono ?_); rintro e w' ⟨rfl, q, rfl⟩)
  go_ret
  exact ⟨rfl, q, rfl⟩
end Go.Proofs.YtfakohoamgogoaaGreatDoor

namespace Go.Proofs.YtfakohoamgogoaaGreatDoor
open Go.RowKit
attribute [local go_sem] Oper.semAt_some

def ekF : Nat → List UInt8
  | 0 => [48, 48, 54, 49, 59, 97, 59, 76, 108, 59, 48, 59, 76, 59, 59, 59, 59, 59, 78, 59, 59, 59, 59, 59, 10, 48, 48, 69, 49, 59, 98, 59, 76, 108, 59, 48, 59, 76, 59, 48, 48, 54, 49, 32, 48, 51, 48, 49, 59, 59, 59, 59, 78, 59, 59, 59, 59, 59, 10, 48, 51, 48, 49, 59, 99, 59, 77, 110, 59, 50, 51, 48, 59, 78, 83, 77, 59, 59, 59, 59, 59, 78, 59, 59, 59, 59, 59, 10, 48, 51, 50, 51, 59, 100, 59, 77, 110, 59, 50, 50, 48, 59, 78, 83, 77, 59, 59, 59, 59, 59, 78, 59, 59, 59, 59, 59, 10]
  | _ => []
def ekD : Dt := ⟨(uF ekF).rows, spF ekF, (cfF ekF).rows, [(225, 97, 769)]⟩
set_option maxRecDepth 100000 in
theorem ek_load : loadOf ekF = (⟨0, 0, 0⟩, some ekD) := by kernel_rfl
theorem ek_small (i : Nat) : (ekF i).length ≤ 4000 := by
  unfold ekF
  split <;> simp
theorem ek_fit : Fit ekD.ps := load_fit ek_load (ek_small 0)
set_option maxRecDepth 100000 in
theorem ek_nfd1 : nfd ekD.ps [225, 803] = [97, 803, 769] := by kernel_rfl
set_option maxRecDepth 100000 in
theorem ek_nfd2 : nfd ekD.ps [97, 769] = [97, 769] := by kernel_rfl
set_option maxRecDepth 100000 in
theorem ek_nfd3 : nfd ekD.ps [225] = [97, 769] := by kernel_rfl
set_option maxRecDepth 100000 in
theorem ek_cat1 : (({ data := #[48, 48, 54, 49, 59, 97, 59, 76, 108, 59, 48, 59, 76, 59] } : ByteArray) ++ ({ data := #[59, 59, 59, 59, 78, 59, 59, 59, 59, 59, 10] } : ByteArray)) = { data := #[48, 48, 54, 49, 59, 97, 59, 76, 108, 59, 48, 59, 76, 59, 59, 59, 59, 59, 78, 59, 59, 59, 59, 59, 10] } := by kernel_rfl
set_option maxRecDepth 100000 in
theorem ek_cat2 : (({ data := #[48, 48, 54, 49, 59, 97, 59, 76, 108, 59, 48, 59, 76, 59, 59, 59, 59, 59, 78, 59, 59, 59, 59, 59, 10] } : ByteArray) ++ ({ data := #[48, 48, 69, 49, 59, 98, 59, 76, 108, 59, 48, 59, 76, 59, 48, 48, 54, 49, 32, 48, 51, 48, 49] } : ByteArray)) = { data := #[48, 48, 54, 49, 59, 97, 59, 76, 108, 59, 48, 59, 76, 59, 59, 59, 59, 59, 78, 59, 59, 59, 59, 59, 10, 48, 48, 69, 49, 59, 98, 59, 76, 108, 59, 48, 59, 76, 59, 48, 48, 54, 49, 32, 48, 51, 48, 49] } := by kernel_rfl
set_option maxRecDepth 100000 in
theorem ek_cat3 : (({ data := #[48, 48, 54, 49, 59, 97, 59, 76, 108, 59, 48, 59, 76, 59, 59, 59, 59, 59, 78, 59, 59, 59, 59, 59, 10, 48, 48, 69, 49, 59, 98, 59, 76, 108, 59, 48, 59, 76, 59, 48, 48, 54, 49, 32, 48, 51, 48, 49] } : ByteArray) ++ ({ data := #[59, 59, 59, 59, 78, 59, 59, 59, 59, 59, 10] } : ByteArray)) = { data := #[48, 48, 54, 49, 59, 97, 59, 76, 108, 59, 48, 59, 76, 59, 59, 59, 59, 59, 78, 59, 59, 59, 59, 59, 10, 48, 48, 69, 49, 59, 98, 59, 76, 108, 59, 48, 59, 76, 59, 48, 48, 54, 49, 32, 48, 51, 48, 49, 59, 59, 59, 59, 78, 59, 59, 59, 59, 59, 10] } := by kernel_rfl
set_option maxRecDepth 100000 in
theorem ek_cat4 : (({ data := #[48, 48, 54, 49, 59, 97, 59, 76, 108, 59, 48, 59, 76, 59, 59, 59, 59, 59, 78, 59, 59, 59, 59, 59, 10, 48, 48, 69, 49, 59, 98, 59, 76, 108, 59, 48, 59, 76, 59, 48, 48, 54, 49, 32, 48, 51, 48, 49, 59, 59, 59, 59, 78, 59, 59, 59, 59, 59, 10] } : ByteArray) ++ ({ data := #[48, 51, 48, 49, 59, 99, 59, 77, 110, 59, 50, 51, 48, 59, 78, 83, 77, 59] } : ByteArray)) = { data := #[48, 48, 54, 49, 59, 97, 59, 76, 108, 59, 48, 59, 76, 59, 59, 59, 59, 59, 78, 59, 59, 59, 59, 59, 10, 48, 48, 69, 49, 59, 98, 59, 76, 108, 59, 48, 59, 76, 59, 48, 48, 54, 49, 32, 48, 51, 48, 49, 59, 59, 59, 59, 78, 59, 59, 59, 59, 59, 10, 48, 51, 48, 49, 59, 99, 59, 77, 110, 59, 50, 51, 48, 59, 78, 83, 77, 59] } := by kernel_rfl
set_option maxRecDepth 100000 in
theorem ek_cat5 : (({ data := #[48, 48, 54, 49, 59, 97, 59, 76, 108, 59, 48, 59, 76, 59, 59, 59, 59, 59, 78, 59, 59, 59, 59, 59, 10, 48, 48, 69, 49, 59, 98, 59, 76, 108, 59, 48, 59, 76, 59, 48, 48, 54, 49, 32, 48, 51, 48, 49, 59, 59, 59, 59, 78, 59, 59, 59, 59, 59, 10, 48, 51, 48, 49, 59, 99, 59, 77, 110, 59, 50, 51, 48, 59, 78, 83, 77, 59] } : ByteArray) ++ ({ data := #[59, 59, 59, 59, 78, 59, 59, 59, 59, 59, 10] } : ByteArray)) = { data := #[48, 48, 54, 49, 59, 97, 59, 76, 108, 59, 48, 59, 76, 59, 59, 59, 59, 59, 78, 59, 59, 59, 59, 59, 10, 48, 48, 69, 49, 59, 98, 59, 76, 108, 59, 48, 59, 76, 59, 48, 48, 54, 49, 32, 48, 51, 48, 49, 59, 59, 59, 59, 78, 59, 59, 59, 59, 59, 10, 48, 51, 48, 49, 59, 99, 59, 77, 110, 59, 50, 51, 48, 59, 78, 83, 77, 59, 59, 59, 59, 59, 78, 59, 59, 59, 59, 59, 10] } := by kernel_rfl
set_option maxRecDepth 100000 in
theorem ek_cat6 : (({ data := #[48, 48, 54, 49, 59, 97, 59, 76, 108, 59, 48, 59, 76, 59, 59, 59, 59, 59, 78, 59, 59, 59, 59, 59, 10, 48, 48, 69, 49, 59, 98, 59, 76, 108, 59, 48, 59, 76, 59, 48, 48, 54, 49, 32, 48, 51, 48, 49, 59, 59, 59, 59, 78, 59, 59, 59, 59, 59, 10, 48, 51, 48, 49, 59, 99, 59, 77, 110, 59, 50, 51, 48, 59, 78, 83, 77, 59, 59, 59, 59, 59, 78, 59, 59, 59, 59, 59, 10] } : ByteArray) ++ ({ data := #[48, 51, 50, 51, 59, 100, 59, 77, 110, 59, 50, 50, 48, 59, 78, 83, 77, 59] } : ByteArray)) = { data := #[48, 48, 54, 49, 59, 97, 59, 76, 108, 59, 48, 59, 76, 59, 59, 59, 59, 59, 78, 59, 59, 59, 59, 59, 10, 48, 48, 69, 49, 59, 98, 59, 76, 108, 59, 48, 59, 76, 59, 48, 48, 54, 49, 32, 48, 51, 48, 49, 59, 59, 59, 59, 78, 59, 59, 59, 59, 59, 10, 48, 51, 48, 49, 59, 99, 59, 77, 110, 59, 50, 51, 48, 59, 78, 83, 77, 59, 59, 59, 59, 59, 78, 59, 59, 59, 59, 59, 10, 48, 51, 50, 51, 59, 100, 59, 77, 110, 59, 50, 50, 48, 59, 78, 83, 77, 59] } := by kernel_rfl
set_option maxRecDepth 100000 in
theorem ek_cat7 : (({ data := #[48, 48, 54, 49, 59, 97, 59, 76, 108, 59, 48, 59, 76, 59, 59, 59, 59, 59, 78, 59, 59, 59, 59, 59, 10, 48, 48, 69, 49, 59, 98, 59, 76, 108, 59, 48, 59, 76, 59, 48, 48, 54, 49, 32, 48, 51, 48, 49, 59, 59, 59, 59, 78, 59, 59, 59, 59, 59, 10, 48, 51, 48, 49, 59, 99, 59, 77, 110, 59, 50, 51, 48, 59, 78, 83, 77, 59, 59, 59, 59, 59, 78, 59, 59, 59, 59, 59, 10, 48, 51, 50, 51, 59, 100, 59, 77, 110, 59, 50, 50, 48, 59, 78, 83, 77, 59] } : ByteArray) ++ ({ data := #[59, 59, 59, 59, 78, 59, 59, 59, 59, 59, 10] } : ByteArray)) = { data := #[48, 48, 54, 49, 59, 97, 59, 76, 108, 59, 48, 59, 76, 59, 59, 59, 59, 59, 78, 59, 59, 59, 59, 59, 10, 48, 48, 69, 49, 59, 98, 59, 76, 108, 59, 48, 59, 76, 59, 48, 48, 54, 49, 32, 48, 51, 48, 49, 59, 59, 59, 59, 78, 59, 59, 59, 59, 59, 10, 48, 51, 48, 49, 59, 99, 59, 77, 110, 59, 50, 51, 48, 59, 78, 83, 77, 59, 59, 59, 59, 59, 78, 59, 59, 59, 59, 59, 10, 48, 51, 50, 51, 59, 100, 59, 77, 110, 59, 50, 50, 48, 59, 78, 83, 77, 59, 59, 59, 59, 59, 78, 59, 59, 59, 59, 59, 10] } := by kernel_rfl
def ekS : ByteArray := { data := #[48, 48, 54, 49, 59, 97, 59, 76, 108, 59, 48, 59, 76, 59, 59, 59, 59, 59, 78, 59, 59, 59, 59, 59, 10, 48, 48, 69, 49, 59, 98, 59, 76, 108, 59, 48, 59, 76, 59, 48, 48, 54, 49, 32, 48, 51, 48, 49, 59, 59, 59, 59, 78, 59, 59, 59, 59, 59, 10, 48, 51, 48, 49, 59, 99, 59, 77, 110, 59, 50, 51, 48, 59, 78, 83, 77, 59, 59, 59, 59, 59, 78, 59, 59, 59, 59, 59, 10, 48, 51, 50, 51, 59, 100, 59, 77, 110, 59, 50, 50, 48, 59, 78, 83, 77, 59, 59, 59, 59, 59, 78, 59, 59, 59, 59, 59, 10] }
theorem ekS_is : ekS = bs (ekF 0) := rfl
theorem ek_len : (ekF 0).length = 117 := rfl
end Go.Proofs.YtfakohoamgogoaaGreatDoor

namespace Go.Proofs.YtfakohoamgogoaaGreatDoor
open Go.RowKit
attribute [local go_sem] Oper.semAt_some

/-- The octets of a text, laid as a row. -/
theorem bytes_octs (w : World) (l : List UInt8) : ∃ (c : Nat) (o : Obj), (convert 9 22 (.string (bs l))).run Tryz.prog w = .ok (.slice (some ⟨w.heap.size, 0, none⟩) l.length c) ((w.alloc o).drew) ∧ Octs ((w.alloc o).drew) (some ⟨w.heap.size, 0, none⟩) l.length l := by
  suffices hh : ∃ (c : Nat) (o : Obj), (convert 9 22 (.string (bs l))).run Tryz.prog w = .ok (.slice (some ⟨w.heap.size, 0, none⟩) l.length c) (w.drew.alloc o) ∧ Octs (w.drew.alloc o) (some ⟨w.heap.size, 0, none⟩) l.length l from hh
  have h := run_bytes_of_string (P := Tryz.prog) w 9 22 5 (bs l) Tryz.underlying9 Tryz.underlying22 Tryz.underlying5
  rw [bs_size] at h
  refine ⟨_, _, h, ?_⟩
  refine ⟨by unfold nums; rw [List.length_map, ints_length], fun _ => ⟨w.heap.size, 0, rfl, by simp, fun j v hj => ?_⟩⟩
  have hjl : j < l.length := by
    have := (List.getElem?_eq_some_iff.1 hj).1
    unfold nums at this
    rwa [List.length_map, ints_length] at this
  have hh := World.alloc_heap_new w.drew (.cells (bytesRow (bs l) (grownCap w l.length 0 5)) 5 ((bytesRow (bs l) (grownCap w l.length 0 5)).size, (bytesRow (bs l) (grownCap w l.length 0 5)).size + 1))
  rw [cell_of_row _ w.heap.size _ _ 5 _ hh, Nat.zero_add]
  unfold bytesRow
  rw [Array.getElem?_append_left (by rw [Array.size_map]; show j < (bs l).data.size; simp [bs]; exact hjl)]
  unfold nums ints at hj
  rw [List.map_map, List.getElem?_map, List.getElem?_eq_getElem hjl] at hj
  rw [Array.getElem?_map]
  have e : (bs l).data[j]? = some l[j] := by simp [bs, hjl]
  rw [e]
  exact hj

def EkW (w W : World) (b : Nat) : Prop := Below w.heap.size w W ∧ DdR W b ekD.ps
theorem EkW.on {w W W' : World} {b : Nat} (h : EkW w W b) (hb : Below W.heap.size W W') : EkW w W' b := ⟨h.1.trans (hb.mono h.1.size), h.2.below hb⟩
theorem ddr_pf {W : World} {b : Nat} {ps : List Uc.Pr} {sp : Nat → List Pq.Sp} {cf : List Cf.Pp} (h : PF W b ps sp cf) : DdR W b ps := by
  obtain ⟨p, A, c, ls, h1, h2, h3⟩ := h.uni
  exact ⟨p, h1, A, c, ls, h2, h3⟩
theorem ek_lit (w W : World) (b : Nat) (zs : List Int) (h : EkW w W b) : EkW w (W.alloc (.cells (nums .i64 zs).toArray 3)) b ∧ Vals (W.alloc (.cells (nums .i64 zs).toArray 3)) (some ⟨W.heap.size, 0, none⟩) zs.length (nums .i64 zs) := by
  refine ⟨h.on ((Below.refl _ _).alloc (Nat.le_refl _) _), ?_⟩
  have := vals_lit W (nums .i64 zs) 3
  rwa [nlen] at this
set_option maxRecDepth 100000 in
set_option maxHeartbeats 8000000 in
theorem awake7 (w : World) (hM : ML w) (hH : HanT w) : Calls Tryz.prog 7 #[] w fun e w' => e = .returned (.bool true) ∧ Below w.heap.size w w' := by
  obtain ⟨c, o, hcv, ho⟩ := bytes_octs w (ekF 0)
  have hb1 : Below w.heap.size w ((w.alloc o).drew) := below_drew ((Below.refl _ _).alloc (Nat.le_refl _) _)
  have c21 := load29 (some ⟨w.heap.size, 0, none⟩) none none none none none none 117 0 0 0 0 0 0 c 0 0 0 0 0 0 ekF ((w.alloc o).drew) ho (Vals.nil _ _) (Vals.nil _ _) (Vals.nil _ _) (Vals.nil _ _) (Vals.nil _ _) (Vals.nil _ _) (by omega) ek_small (ml_on hM hb1) (hH.below hH.lt hb1)
  have d21 : Calls Tryz.prog 21 #[.agg #[.slice (some ⟨w.heap.size, 0, none⟩) 117 c, .slice none 0 0, .slice none 0 0, .slice none 0 0, .slice none 0 0, .slice none 0 0, .slice none 0 0]] ((w.alloc o).drew) fun e W => ∃ b, e = .returned (.tuple #[.pointer (some ⟨b, 0, none⟩), .agg #[.int .i64 0, .int .i64 0, .int .i64 0]]) ∧ Hid (EkW w W b) := c21.mono (by
    rintro e W ⟨hb, ⟨d, b, hl, rfl, h1, h2, h3⟩ | ⟨x, hl, -⟩⟩
    · rw [ek_load] at hl
      injection hl with _ hl
      injection hl with hl
      subst hl
      exact ⟨b, rfl, Lib.hid ⟨hb1.trans (hb.mono hb1.size), ddr_pf h1⟩⟩
    · rw [ek_load] at hl
      injection hl with _ hl
      cases hl)
  rw [← ekS_is, ek_len] at hcv
  unfold ekS at hcv
  clear c21 hb1 hM hH ho
  have D17 : Hid (∀ W2 b o, EkW w W2 b → Calls Tryz.prog 17 #[.pointer (some ⟨b, 0, none⟩), .slice (some ⟨W2.heap.size + 1, 0, none⟩) 2 2] ((W2.alloc o).alloc (.cells #[.int .i64 225, .int .i64 803] 3)) fun e W => ∃ A c, e = .returned (.slice A 3 c) ∧ Hid (EkW w W b ∧ Vals W A 3 (nums .i64 [97, 803, 769]))) := fun W2 b o h => by
    obtain ⟨h1, h2⟩ := ek_lit w (W2.alloc o) b [225, 803] (h.on ((Below.refl _ _).alloc (Nat.le_refl _) _))
    rw [World.size_alloc] at h2
    refine (nfd17 b ekD.ps (some ⟨W2.heap.size + 1, 0, none⟩) 2 2 [225, 803] _ h1.2 ek_fit h2 (by omega)).mono ?_
    rintro e W ⟨A, c, rfl, h4, h5⟩
    rw [ek_nfd1] at h5 ⊢
    refine ⟨A, c, rfl, Lib.hid ⟨h1.on h4, ?_⟩⟩
    obtain ⟨A', c', e, -, hv, -⟩ := own_vals h5.out
    cases e
    exact hv
  have D10 : Hid (∀ W b A c, (EkW w W b ∧ Vals W A 3 (nums .i64 [97, 803, 769])) → Calls Tryz.prog 10 #[.slice A 3 c, .slice (some ⟨W.heap.size, 0, none⟩) 3 3] (W.alloc (.cells #[.int .i64 97, .int .i64 803, .int .i64 769] 3)) fun e W' => e = .returned (.bool true) ∧ Hid (EkW w W' b)) := fun W b A c ⟨h, hv⟩ => by
    obtain ⟨h1, h2⟩ := ek_lit w W b [97, 803, 769] h
    refine (same17 A (some ⟨W.heap.size, 0, none⟩) 3 c 3 [97, 803, 769] _ (hv.below ((Below.refl _ _).alloc (Nat.le_refl _) _)) h2 (by omega)).mono ?_
    rintro e W' ⟨rfl, q, rfl⟩
    exact ⟨rfl, Lib.hid (h1.on (below_drewN (Below.refl _ _) q))⟩
  have D19 : Hid (∀ W b, EkW w W b → Calls Tryz.prog 19 #[.pointer (some ⟨b, 0, none⟩), .slice (some ⟨W.heap.size, 0, none⟩) 2 2] (W.alloc (.cells #[.int .i64 97, .int .i64 769] 3)) fun e W' => e = .returned (.bool true) ∧ Hid (EkW w W' b)) := fun W b h => by
    obtain ⟨h1, h2⟩ := ek_lit w W b [97, 769] h
    refine (is19 b ekD.ps (some ⟨W.heap.size, 0, none⟩) 2 2 [97, 769] _ h1.2 ek_fit h2 (by omega)).mono ?_
    rintro e W' ⟨rfl, h4⟩
    exact ⟨by rw [ek_nfd2]; rfl, Lib.hid (h1.on h4)⟩
  have D19b : Hid (∀ W b, EkW w W b → Calls Tryz.prog 19 #[.pointer (some ⟨b, 0, none⟩), .slice (some ⟨W.heap.size, 0, none⟩) 1 1] (W.alloc (.cells #[.int .i64 225] 3)) fun e W' => e = .returned (.bool false) ∧ Hid (EkW w W' b)) := fun W b h => by
    obtain ⟨h1, h2⟩ := ek_lit w W b [225] h
    refine (is19 b ekD.ps (some ⟨W.heap.size, 0, none⟩) 1 1 [225] _ h1.2 ek_fit h2 (by omega)).mono ?_
    rintro e W' ⟨rfl, h4⟩
    exact ⟨by rw [ek_nfd3]; rfl, Lib.hid (h1.on h4)⟩
  go_enter Tryz.func7, Tryz.ntmps7
  go_wp2_with (first
    | (rw [ek_cat1]) | (rw [ek_cat2]) | (rw [ek_cat3]) | (rw [ek_cat4]) | (rw [ek_cat5]) | (rw [ek_cat6]) | (rw [ek_cat7])
    | (rw [hcv])
    | (go_at_call 21; (with_reducible refine d21.mono ?_); rintro e W2 ⟨b, rfl, H2⟩)
    | (go_at_call 17; (with_reducible refine (D17.out W2 b _ H2.out).mono ?_); rintro e W3 ⟨A, c3, rfl, H3⟩)
    | (go_at_call 10; (with_reducible refine (D10.out W3 b A c3 H3.out).mono ?_); rintro e W4 ⟨rfl, H4⟩)
    | (go_at_call 19; (with_reducible refine (D19.out W4 b H4.out).mono ?_); rintro e W5 ⟨rfl, H5⟩)
    | (go_at_call 19; (with_reducible refine (D19b.out W5 b H5.out).mono ?_); rintro e W6 ⟨rfl, H6⟩))
  go_ret
  exact ⟨rfl, H6.out.1⟩
end Go.Proofs.YtfakohoamgogoaaGreatDoor

namespace Go.Proofs.YtfakohoamgogoaaGreatDoor
open Go.RowKit

def restOf (t : Int) (n : Nat) : Nat := ((t.tmod (n : Int) + (n : Int)).tmod (n : Int)).toNat
theorem rest_lt {t : Int} {n : Nat} (h0 : 0 < n) : restOf t n < n := by
  have := Int.tmod_lt_of_pos (t.tmod (n : Int) + (n : Int)) (show (0 : Int) < (n : Int) by omega)
  unfold restOf
  omega
set_option maxHeartbeats 1000000 in
theorem rest22 (t : Int) (n : Nat) (w : World) (h0 : 0 < n) (hn : n ≤ 3000) : Calls Tryz.prog 22 #[.int .i64 t, .int .i64 n] w fun e w' => e = .returned (.int .i64 (restOf t n)) ∧ w = w' := by
  have h1 : (t.tmod (n : Int)) < (n : Int) := Int.tmod_lt_of_pos _ (by omega)
  have h2 : -(n : Int) < (t.tmod (n : Int)) := Int.lt_tmod_of_pos _ (by omega)
  have hr : (t.tmod (n : Int) + (n : Int)).tmod (n : Int) = (restOf t n : Int) := (Int.toNat_of_nonneg (Int.tmod_nonneg _ (by omega))).symm
  obtain ⟨r, hrr⟩ : ∃ r, restOf t n = r := ⟨_, rfl⟩
  rw [hrr] at hr ⊢
  obtain ⟨m, hm⟩ : ∃ m, t.tmod (n : Int) = m := ⟨_, rfl⟩
  rw [hm] at h1 h2 hr
  have hz : ((n : Int) == 0) = false := beq_false_of_ne (by omega)
  clear hrr
  go_enter Tryz.func22, Tryz.ntmps22
  go_wp2
  go_ret
  exact ⟨rfl, rfl⟩
end Go.Proofs.YtfakohoamgogoaaGreatDoor

namespace Go.Proofs.YtfakohoamgogoaaGreatDoor
open Go.RowKit Go.Shelf
attribute [local go_sem] Oper.semAt_some

/-- The bundle's box. -/
def BnB (w W : World) (v0 v1 v2 v3 v4 v5 v6 : Value) : Prop :=
  (W.cell? ⟨w.heap.size, 0, none⟩ = some v0 ∧ W.cell? ⟨w.heap.size, 1, none⟩ = some v1 ∧ W.cell? ⟨w.heap.size, 2, none⟩ = some v2 ∧ W.cell? ⟨w.heap.size, 3, none⟩ = some v3 ∧ W.cell? ⟨w.heap.size, 4, none⟩ = some v4 ∧ W.cell? ⟨w.heap.size, 5, none⟩ = some v5 ∧ W.cell? ⟨w.heap.size, 6, none⟩ = some v6) ∧ Below w.heap.size w W
theorem BnB.lt {w W : World} {v0 v1 v2 v3 v4 v5 v6 : Value} (h : BnB w W v0 v1 v2 v3 v4 v5 v6) : w.heap.size < W.heap.size := World.block_lt_of_cell? W _ h.1.1
theorem BnB.below {w W W' : World} {v0 v1 v2 v3 v4 v5 v6 : Value} (h : BnB w W v0 v1 v2 v3 v4 v5 v6) (hb : Below W.heap.size W W') : BnB w W' v0 v1 v2 v3 v4 v5 v6 := by
  have hl := h.lt
  obtain ⟨⟨h0, h1, h2, h3, h4, h5, h6⟩, h9⟩ := h
  have c : ∀ i, W'.cell? ⟨w.heap.size, i, none⟩ = W.cell? ⟨w.heap.size, i, none⟩ := fun i => hb.cell (p := ⟨w.heap.size, i, none⟩) hl
  exact ⟨⟨(c _).trans h0, (c _).trans h1, (c _).trans h2, (c _).trans h3, (c _).trans h4, (c _).trans h5, (c _).trans h6⟩, h9.trans (hb.mono h9.size)⟩
theorem bnb_new (w : World) (v0 v1 v2 v3 v4 v5 v6 : Value) : BnB w (w.alloc (.cells #[v0, v1, v2, v3, v4, v5, v6] 24)) v0 v1 v2 v3 v4 v5 v6 := by
  have o : ∀ i, (w.alloc (.cells #[v0, v1, v2, v3, v4, v5, v6] 24)).cell? ⟨w.heap.size, i, none⟩ = (#[v0, v1, v2, v3, v4, v5, v6] : Array Value)[i]? := fun i => new_at _ _ _ _ _ rfl
  exact ⟨⟨by rw [o]; rfl, by rw [o]; rfl, by rw [o]; rfl, by rw [o]; rfl, by rw [o]; rfl, by rw [o]; rfl, by rw [o]; rfl⟩, (Below.refl _ _).alloc (Nat.le_refl _) _⟩
end Go.Proofs.YtfakohoamgogoaaGreatDoor

namespace Go.Proofs.YtfakohoamgogoaaGreatDoor
open Go.RowKit Go.Shelf

/-- The data, in a world behind w. -/
def Hd (w W : World) (b : Nat) (ps : List Uc.Pr) : Prop := Below w.heap.size w W ∧ DdR W b ps
theorem Hd.on {w W W' : World} {b : Nat} {ps : List Uc.Pr} (h : Hd w W b ps) (hb : Below W.heap.size W W') : Hd w W' b ps := ⟨h.1.trans (hb.mono h.1.size), h.2.below hb⟩
theorem load_zero {f : Nat → List UInt8} {d : Dt} {x : Wh} (h : loadOf f = (x, some d)) : x = ⟨0, 0, 0⟩ := by
  rcases read_load f with ⟨h1, h2⟩ | ⟨h1, h2⟩
  · rw [h2] at h
    rcases load2_join (uF f).rows (spF f) (cfF f).rows with ⟨-, ms, -, h3⟩ | ⟨h3, h4⟩
    · rw [h3] at h; injection h with h _; exact h.symm
    · rw [h4] at h; injection h with _ h; cases h
  · rw [h2] at h; injection h with _ h; cases h
theorem own_now {W : World} {A : Option Addr} {n c : Nat} {zs : List Int} {base : Nat} (h : W.ownsRow base 3 1 (.slice A n c) n (nums .i64 zs)) : Vals W A n (nums .i64 zs) := by
  obtain ⟨A', c', e, -, hv, -⟩ := own_vals h
  cases e
  exact hv
end Go.Proofs.YtfakohoamgogoaaGreatDoor

namespace Go.Proofs.YtfakohoamgogoaaGreatDoor
open Go.RowKit Go.Shelf

theorem app_post {W w' : World} {base n m : Nat} {v v' : Value} {T zs : List Int} (ho : W.ownsRow base 3 1 v n (nums .i64 T)) (hbase : base ≤ W.heap.size) (h1 : w'.ownsRow base 3 1 v' (n + m) (nums .i64 T ++ nums .i64 zs)) (h2 : W.grownBy w' v.ownBlock) :
    ∃ A' c', v' = .slice A' (n + m) c' ∧ Hid (w'.ownsRow base 3 1 (.slice A' (n + m) c') (n + m) (nums .i64 (T ++ zs)) ∧ Below base W w') := by
  obtain ⟨A', c', rfl, -⟩ := own_vals h1
  exact ⟨A', c', rfl, Lib.hid ⟨by rw [napp]; exact h1, (Below.refl base W).grown h2 hbase (fun g hgv => (ho.lt g hgv).1)⟩⟩
theorem own_empty (W : World) {base : Nat} (hb : base ≤ W.heap.size) : (W.alloc (.cells #[] 3)).ownsRow base 3 1 (.slice (some ⟨W.heap.size, 0, none⟩) 0 0) 0 (nums .i64 []) :=
  ⟨rfl, .inr ⟨W.heap.size, 0, #[], rfl, hb, World.alloc_heap_new W _, Nat.le_refl _, Nat.zero_le _, rfl, rfl⟩⟩
/-- What is appended, and where the world stands. -/
def AppH (w0 w : World) (v : Value) (n : Nat) (T : List Int) (A : Option Addr) (m : Nat) (zs : List Int) : Prop := w.ownsRow w0.heap.size 3 1 v n (nums .i64 T) ∧ Vals w A m (nums .i64 zs) ∧ Below w0.heap.size w0 w
def AppR (w0 w : World) (A : Option Addr) (n c : Nat) (T : List Int) : Prop := w.ownsRow w0.heap.size 3 1 (.slice A n c) n (nums .i64 T) ∧ Below w0.heap.size w0 w
theorem run_app9 {w0 w : World} {v : Value} {n m c : Nat} {T zs : List Int} {A : Option Addr} (ty : TypeId) (H : AppH w0 w v n T A m zs) {N : Nat} (hN : n + m = N) (hN2 : N ≤ 100000) :
    ∃ A' c' w', (Builtin.append_ #[25, 25] ty #[v, .slice A m c]).run Tryz.prog w = .ok (.slice A' N c') w' ∧ Hid (AppR w0 w' A' N c' (T ++ zs)) := by
  obtain ⟨i0, hi, hz0, hz1, hz2⟩ := infoI'
  obtain ⟨h1, h2, h3⟩ := H
  subst hN
  cases A with
  | none =>
    have hm : m = 0 := by
      rcases Nat.eq_zero_or_pos m with h0 | h0
      · exact h0
      · obtain ⟨b, off, e, _⟩ := h2.2 h0
        cases e
    subst hm
    obtain rfl : zs = [] := List.eq_nil_of_length_eq_zero (by have := h2.1; rwa [nums_len] at this)
    obtain ⟨A', c', rfl, -⟩ := own_vals h1
    exact ⟨A', c', w, run_append_nil w0.heap.size 25 ty 3 i0 1 c Tryz.underlying25 hi _ n _ h1, Lib.hid ⟨by rw [List.append_nil]; exact h1, h3⟩⟩
  | some ad =>
    obtain ⟨v', w', hr, q2, q3, -, -⟩ := run_append_own_at (P := Tryz.prog) w w0.heap.size 25 ty 3 i0 (.int .i64 0) 1 8 Tryz.underlying25 hi hz0 hz1 hz2 rfl (by decide) v n _ h1 ad m c (nums .i64 zs) (by rw [nums_len, Nat.mul_one]; have := h2.1; rwa [nums_len] at this) (vals_cells h2) nums_one' (by unfold maxLen; omega) (by omega) h3.size
    obtain ⟨A', c', rfl, q4⟩ := app_post h1 h3.size q2 q3
    exact ⟨A', c', w', hr, Lib.hid ⟨q4.out.1, h3.trans q4.out.2⟩⟩
theorem wp_app9 {o : Oper} {a : Act} {K : Act → World → Prop} {Q : Exit → Act → World → Prop} {w : World} (w0 : World) (s x : Operand)
    (ho : o.op = .call { callee := .builtin .append, args := #[s, x], argTypes := #[25, 25] })
    (v : Value) (n : Nat) (T : List Int) (hs : a.eval s = v) (A : Option Addr) (m c : Nat) (zs : List Int) (hx : a.eval x = .slice A m c) (H : AppH w0 w v n T A m zs) (N : Nat) (hN : n + m = N) (hN2 : N ≤ 100000)
    (h : ∀ A' c' w', Hid (AppR w0 w' A' N c' (T ++ zs)) → K (a.put o.dst (.slice A' N c')) w') : o.wp Tryz.prog a w K Q := by
  obtain ⟨A', c', w', hr, h2⟩ := run_app9 (c := c) o.type H hN hN2
  unfold Oper.wp execOp
  simp only [ho, resolve, invoke, builtin, Sem.run_bind, Sem.run_pure, Result.andThen_ok, List.map_toArray, List.map_cons, List.map_nil, hs, hx, hr]
  exact h A' c' w' h2
theorem step_app9 {ops : Array Oper} {o : Oper} {a : Act} {K : Act → World → Prop} {Q : Exit → Act → World → Prop} {E : Prop} {w : World} (w0 : World) (hgd : o.guard = none) (s x : Operand)
    (ho : o.op = .call { callee := .builtin .append, args := #[s, x], argTypes := #[25, 25] })
    (v : Value) (n : Nat) (T : List Int) (hs : a.eval s = v) (A : Option Addr) (m c : Nat) (zs : List Int) (hx : a.eval x = .slice A m c) (H : AppH w0 w v n T A m zs) (N : Nat) (hN : n + m = N) (hN2 : N ≤ 100000)
    (h : ∀ A' c' w', Hid (AppR w0 w' A' N c' (T ++ zs)) → K (a.put o.dst (.slice A' N c')) w') :
    if Region.wanted o (yielded ops a.tmps) = true then Oper.wp Tryz.prog o a w K Q else E := by
  have hw : Region.wanted o (yielded ops a.tmps) = true := by simp [Region.wanted, hgd]
  rw [if_pos hw]
  exact wp_app9 w0 s x ho v n T hs A m c zs hx H N hN hN2 h
end Go.Proofs.YtfakohoamgogoaaGreatDoor
