/- Plain words: a value looked for in a list that is in order; no program is spoken of. -/
/- What a line of a property file tells to the program: readSpan, isAsked. -/
import Derived.Test.YtdbnegllncjhkaaGreatDoorPrpm
import Derived.Test.YtdbnegllncjhkaaGreatDoorSat
import Derived.Shelf.Spec.SearchS
import Derived.Sort.Walk0
import Derived.Test.YtdbnegllncjhkaaGreatDoorShelp
import Derived.Test.YtdbnegllncjhkaaGreatDoorBox
import Derived.Test.YtdbnegllncjhkaaGreatDoorChk
import Derived.BigQuiet
namespace Go.Proofs.YtdbnegllncjhkaaGreatDoor
open Go.RowKit Go.Sort

def Asc (ss : List (List UInt8)) : Prop := ss.Pairwise fun a b => a ≤ b
def lessK (ss : List (List UInt8)) (x : List UInt8) : Nat := (ss.takeWhile fun y => decide (y < x)).length
theorem le_lt {a b c : List UInt8} (h : a ≤ b) (k : b < c) : a < c := List.lt_of_le_of_lt h k
theorem less_le (ss : List (List UInt8)) (x : List UInt8) : lessK ss x ≤ ss.length := (List.takeWhile_sublist _).length_le
theorem less_yes : ∀ {ss : List (List UInt8)} {x : List UInt8} {t : Nat}, t < lessK ss x → ss.getD t x < x
  | [], x, t, h => by simp [lessK] at h
  | y :: ss, x, t, h => by
    by_cases hy : y < x
    · cases t with
      | zero => exact hy
      | succ t =>
        have h' : t < lessK ss x := by
          unfold lessK at h ⊢
          rw [List.takeWhile_cons_of_pos (by simpa using hy)] at h
          simpa using h
        simpa using less_yes h'
    · unfold lessK at h
      rw [List.takeWhile_cons_of_neg (by simpa using hy)] at h
      simp at h
theorem less_no : ∀ {ss : List (List UInt8)} {x : List UInt8} (_ : Asc ss) {t : Nat}, lessK ss x ≤ t → ¬ ss.getD t x < x
  | [], x, _, t, _ => by simp [List.lt_irrefl]
  | y :: ss, x, ha, t, h => by
    by_cases hy : y < x
    · cases t with
      | zero =>
        unfold lessK at h
        rw [List.takeWhile_cons_of_pos (by simpa using hy)] at h
        simp at h
      | succ t =>
        have h' : lessK ss x ≤ t := by
          unfold lessK at h ⊢
          rw [List.takeWhile_cons_of_pos (by simpa using hy)] at h
          simpa using h
        simpa using less_no (List.Pairwise.of_cons ha) h'
    · cases t with
      | zero => simpa using hy
      | succ t =>
        intro hlt
        have e : (y :: ss).getD (t + 1) x = ss.getD t x := by simp
        rw [e] at hlt
        rcases Nat.lt_or_ge t ss.length with hl | hl
        · have hm : ss.getD t x ∈ ss := by
            rw [List.getD_eq_getElem?_getD, List.getElem?_eq_getElem hl]
            simp
          exact hy (le_lt (List.rel_of_pairwise_cons ha hm) hlt)
        · rw [List.getD_eq_getElem?_getD, List.getElem?_eq_none hl] at hlt
          exact List.lt_irrefl x hlt
theorem bs_go {ss : List (List UInt8)} {x : List UInt8} (ha : Asc ss) : Lib.bsGo (fun t => Op.bytesLess (bs (ss.getD t x)).toList (bs x).toList) ss.length 0 ss.length = lessK ss x := by
  refine Lib.bsGo_spec _ (lessK ss x) (fun t ht => ?_) (fun t ht => ?_) _ _ _ (by omega) (Nat.zero_le _) (less_le ss x)
  · rw [bs_toList, bs_toList, bytesLess_eq]
    exact decide_eq_true (less_yes ht)
  · rw [bs_toList, bs_toList, bytesLess_eq]
    exact decide_eq_false (less_no ha ht)
theorem bs_found {ss : List (List UInt8)} {x : List UInt8} (ha : Asc ss) : decide (lessK ss x < ss.length ∧ bs (ss.getD (lessK ss x) x) = bs x) = decide (x ∈ ss) := by
  rw [decide_eq_decide]
  constructor
  · rintro ⟨h1, h2⟩
    have h3 := bs_inj h2
    rw [List.getD_eq_getElem?_getD, List.getElem?_eq_getElem h1] at h3
    simp at h3
    rw [← h3]
    exact List.getElem_mem h1
  · intro hm
    obtain ⟨j, hj, e⟩ := List.mem_iff_getElem.1 hm
    have hkj : lessK ss x ≤ j := by
      rcases Nat.lt_or_ge j (lessK ss x) with h | h
      · have := less_yes h
        rw [List.getD_eq_getElem?_getD, List.getElem?_eq_getElem hj] at this
        simp [e] at this
        exact absurd this (List.lt_irrefl x)
      · exact h
    have hk : lessK ss x < ss.length := by omega
    refine ⟨hk, ?_⟩
    congr 1
    have hn := less_no ha (Nat.le_refl (lessK ss x)) (x := x)
    rw [List.getD_eq_getElem?_getD, List.getElem?_eq_getElem hk] at hn ⊢
    simp only [Option.getD_some] at hn ⊢
    have hle : ss[lessK ss x] ≤ x := by
      rcases Nat.lt_or_ge (lessK ss x) j with h | h
      · have := List.pairwise_iff_getElem.1 ha _ _ hk hj h
        rwa [e] at this
      · obtain rfl : lessK ss x = j := by omega
        rw [e]
        exact List.le_refl x
    exact List.le_antisymm hle hn
theorem among_perm {ss vs : List (List UInt8)} (h : ss.Perm vs) (v : List UInt8) : amongB ss v = amongB vs v := by
  unfold amongB
  rw [h.length_eq, decide_eq_decide.2 h.mem_iff]
end Go.Proofs.YtdbnegllncjhkaaGreatDoor

namespace Go.Proofs.YtdbnegllncjhkaaGreatDoor
open Go.RowKit Go.Shelf
attribute [local go_sem] Oper.semAt_some

theorem clone44 (l : List UInt8) (w : World) (hl : l.length ≤ 1000000) : Calls Tryz.prog 44 #[.string (bs l)] w fun e w' => e = .returned (.string (bs l)) ∧ Below w.heap.size w w' := by
  have c75 := Tryz.stringslite_Clone (bs l) w (by rw [bs_size]; omega)
  go_enter Tryz.func44, Tryz.ntmps44
  go_wp2_with (go_at_call 75; (with_reducible refine c75.mono ?_); rintro e w' ⟨rfl, hb⟩)
  go_ret
  exact ⟨rfl, hb⟩
/-- What readSpan hands back. -/
def RsPost (f : List (List UInt8)) (w : World) (e : Ending) (w' : World) : Prop :=
  Below w.heap.size w w' ∧ ∃ s : Sp, e = .returned (.tuple #[spV s, .int .i64 (lineErr f)]) ∧ Hid (lineErr f = 0 → s = spOf f)
theorem rs_three {w0 W : World} {B : Nat} {a b : Int} {v : ByteArray} (h : Below B w0 W) {b0 : Nat} (hb : B ≤ b0) : Below B w0 (((W.setCell ⟨b0, 0, none⟩ (.int .i64 a)).setCell ⟨b0, 1, none⟩ (.int .i64 b)).setCell ⟨b0, 2, none⟩ (.string v)) :=
  ((h.setCell (p := ⟨b0, 0, none⟩) hb _).setCell (p := ⟨b0, 1, none⟩) hb _).setCell (p := ⟨b0, 2, none⟩) hb _
theorem rs_new (w : World) (q : Nat) : (((w.alloc (.cells #[.int .i64 0, .int .i64 0, .string ⟨#[]⟩] 59)).drewN q).cell? ⟨w.heap.size, 0, none⟩ = some (.int .i64 0) ∧ ((w.alloc (.cells #[.int .i64 0, .int .i64 0, .string ⟨#[]⟩] 59)).drewN q).cell? ⟨w.heap.size, 1, none⟩ = some (.int .i64 0) ∧ ((w.alloc (.cells #[.int .i64 0, .int .i64 0, .string ⟨#[]⟩] 59)).drewN q).cell? ⟨w.heap.size, 2, none⟩ = some (.string ⟨#[]⟩)) ∧ w.heap.size < ((w.alloc (.cells #[.int .i64 0, .int .i64 0, .string ⟨#[]⟩] 59)).drewN q).heap.size := by
  refine ⟨⟨?_, ?_, ?_⟩, ?_⟩
  · show (w.alloc (.cells #[.int .i64 0, .int .i64 0, .string ⟨#[]⟩] 59)).cell? ⟨w.heap.size, 0, none⟩ = _; simp
  · show (w.alloc (.cells #[.int .i64 0, .int .i64 0, .string ⟨#[]⟩] 59)).cell? ⟨w.heap.size, 1, none⟩ = _; simp
  · show (w.alloc (.cells #[.int .i64 0, .int .i64 0, .string ⟨#[]⟩] 59)).cell? ⟨w.heap.size, 2, none⟩ = _; simp
  · show w.heap.size < (w.alloc (.cells #[.int .i64 0, .int .i64 0, .string ⟨#[]⟩] 59)).heap.size; simp
set_option maxRecDepth 100000 in
set_option maxHeartbeats 2000000 in
theorem readspan22 (F : Option Addr) (n c : Nat) (f : List (List UInt8)) (w : World) (hF : Vals w F n (strs f)) (hl : ∀ x ∈ f, x.length ≤ 1000000) (hn : n ≤ 1000000)
    (c43 : ∀ W, Below w.heap.size w W → Calls Tryz.prog 43 #[.string (bs (pfld f 0))] W fun e w' => e = .returned (.tuple #[.int .i64 (rangeOf (pfld f 0)).1, .int .i64 (rangeOf (pfld f 0)).2.1, .int .i64 (rangeOf (pfld f 0)).2.2]) ∧ ∃ q, w' = W.drewN q) :
    Calls Tryz.prog 22 #[.slice F n c] w (RsPost f w) := by
  have hlen : f.length = n := by have := hF.1; rwa [strs_length] at this
  have hb0 : Below w.heap.size w (w.alloc (.cells #[.int .i64 0, .int .i64 0, .string ⟨#[]⟩] 59)) := (Below.refl _ _).alloc (Nat.le_refl _) _
  have k43 := c43 _ hb0
  by_cases h2 : f.length < 2
  · have he := line_few h2
    have h2' : (n : Int) < 2 := by omega
    have HE := Lib.hid he
    clear hF hl c43 k43 he
    go_enter Tryz.func22, Tryz.ntmps22
    go_wp2
    exact bodyPost_ret (v := .tuple #[spV ⟨0, 0, []⟩, .int .i64 12]) (by simp [results, Tryz.results22, go_sem, spV, bs_nil]) rfl ⟨hb0, ⟨0, 0, []⟩, by rw [HE.out], Lib.hid (fun h => absurd h (by rw [HE.out]; decide))⟩
  · obtain ⟨b, off, rfl, hbl, hc0, hc1⟩ := flds2 hF h2
    have h2' : ¬ (n : Int) < 2 := by omega
    have hn0 : 0 < n := by omega
    have hn1 : 1 < n := by omega
    have hl1 : (pfld f 1).length ≤ 1000000 := by
      unfold pfld
      rw [List.getD_eq_getElem?_getD]
      cases hq : f[1]? with
      | none => simp
      | some y => exact hl y (List.mem_of_getElem? hq)
    by_cases hr : (rangeOf (pfld f 0)).2.2 = 0
    · by_cases hv : pfld f 1 = []
      · have HE := Lib.hid (line_emp h2 hr hv)
        rw [hr] at k43
        rw [hv, bs_nil] at hc1
        obtain ⟨X, hX⟩ : ∃ X, bs (pfld f 0) = X := ⟨_, rfl⟩
        rw [hX] at hc0 k43
        clear hF hl c43 hX hv hr hl1
        go_enter Tryz.func22, Tryz.ntmps22
        go_wp2_with (go_at_call 43; (with_reducible refine k43.mono ?_); rintro e w1 ⟨rfl, q, rfl⟩)
        exact bodyPost_ret (v := .tuple #[spV ⟨0, 0, []⟩, .int .i64 16]) (by simp [results, Tryz.results22, go_sem, spV, bs_nil]) rfl ⟨rs_three (below_drewN hb0 q) (Nat.le_refl _), ⟨0, 0, []⟩, by rw [HE.out], Lib.hid (fun h => absurd h (by rw [HE.out]; decide))⟩
      · have HE := Lib.hid (line_ok h2 hr hv)
        rw [hr] at k43
        have hne := bs_some hv
        have c44 := fun q => clone44 (pfld f 1) ((w.alloc (.cells #[.int .i64 0, .int .i64 0, .string ⟨#[]⟩] 59)).drewN q) hl1
        have hfr : ∀ i, (w.alloc (.cells #[.int .i64 0, .int .i64 0, .string ⟨#[]⟩] 59)).frozen? ⟨w.heap.size, i, none⟩ = false := fun i => frozen_new w _ _ i
        obtain ⟨X, hX⟩ : ∃ X, bs (pfld f 0) = X := ⟨_, rfl⟩
        obtain ⟨Y, hY⟩ : ∃ Y, bs (pfld f 1) = Y := ⟨_, rfl⟩
        obtain ⟨ra, hra⟩ : ∃ r, (rangeOf (pfld f 0)).1 = r := ⟨_, rfl⟩
        obtain ⟨rb, hrb⟩ : ∃ r, (rangeOf (pfld f 0)).2.1 = r := ⟨_, rfl⟩
        rw [hX] at hc0 k43
        rw [hra, hrb] at k43
        rw [hY] at hc1 hne
        simp only [hY] at c44
        have HX := Lib.hid (And.intro hY (And.intro hra hrb))
        have C44 := Lib.hid c44
        have HFR := Lib.hid hfr
        clear hF hl c43 hX hv hr hl1 hY hra hrb c44 hfr
        go_enter Tryz.func22, Tryz.ntmps22
        go_wp2_with (first
          | (go_at_call 43; (with_reducible refine k43.mono ?_); rintro e w1 ⟨rfl, q, rfl⟩; have k44 := C44.out q)
          | (go_at_call 44; (with_reducible refine k44.mono ?_); rintro e w2 ⟨rfl, hb2⟩; have hlt := (rs_new w q).2; have hyy := (rs_new w q).1; have y0 : w2.cell? ⟨w.heap.size, 0, none⟩ = some (.int .i64 0) := (hb2.cell (p := ⟨w.heap.size, 0, none⟩) hlt).trans hyy.1; have y1 : w2.cell? ⟨w.heap.size, 1, none⟩ = some (.int .i64 0) := (hb2.cell (p := ⟨w.heap.size, 1, none⟩) hlt).trans hyy.2.1; have y2 : w2.cell? ⟨w.heap.size, 2, none⟩ = some (.string ⟨#[]⟩) := (hb2.cell (p := ⟨w.heap.size, 2, none⟩) hlt).trans hyy.2.2; have f0 : w2.frozen? ⟨w.heap.size, 0, none⟩ = false := (hb2.frozen (p := ⟨w.heap.size, 0, none⟩) hlt).trans (HFR.out 0); have f1 : w2.frozen? ⟨w.heap.size, 1, none⟩ = false := (hb2.frozen (p := ⟨w.heap.size, 1, none⟩) hlt).trans (HFR.out 1); have f2 : w2.frozen? ⟨w.heap.size, 2, none⟩ = false := (hb2.frozen (p := ⟨w.heap.size, 2, none⟩) hlt).trans (HFR.out 2)))
        have hB2 : Below w.heap.size w w2 := (below_drewN hb0 q).trans (hb2.mono (below_drewN hb0 q).size)
        exact bodyPost_ret (v := .tuple #[spV (spOf f), .int .i64 0]) (by simp [results, Tryz.results22, go_sem, spV, spOf, y0, y1, y2, HX.out.1, HX.out.2.1, HX.out.2.2]) rfl ⟨rs_three hB2 (Nat.le_refl _), spOf f, by rw [HE.out], Lib.hid (fun _ => rfl)⟩
    · have HE := Lib.hid (line_rng h2 hr)
      obtain ⟨X, hX⟩ : ∃ X, bs (pfld f 0) = X := ⟨_, rfl⟩
      obtain ⟨E, hE⟩ : ∃ E, (rangeOf (pfld f 0)).2.2 = E := ⟨_, rfl⟩
      rw [hX] at hc0 k43
      rw [hE] at k43 hr HE
      have hx1 : (E == 0) = false := beq_false_of_ne hr
      have hx2 : (E != 0) = true := bne_iff_ne.2 hr
      have HR := Lib.hid hr
      clear hF hl c43 hX hE hr hl1
      go_enter Tryz.func22, Tryz.ntmps22
      go_wp2_with (go_at_call 43; (with_reducible refine k43.mono ?_); rintro e w1 ⟨rfl, q, rfl⟩)
      exact bodyPost_ret (v := .tuple #[spV ⟨0, 0, []⟩, .int .i64 E]) (by simp [results, Tryz.results22, go_sem, spV, bs_nil]) rfl ⟨rs_three (below_drewN hb0 q) (Nat.le_refl _), ⟨0, 0, []⟩, by rw [HE.out], Lib.hid (fun h => absurd (HE.out.symm.trans h) HR.out)⟩
/-- Is the value among those asked for, which are in order? -/
theorem isasked23 (A : Option Addr) (n c : Nat) (ss : List (List UInt8)) (v : List UInt8) (w : World) (hV : Vals w A n (strs ss)) (hs : Asc ss) (hn : n ≤ 1000000) :
    Calls Tryz.prog 23 #[.string (bs v), .slice A n c] w fun e w' => e = .returned (.bool (amongB ss v)) ∧ ∃ q, w' = w.drewN q := by
  have hlen : ss.length = n := by have := hV.1; rwa [strs_length] at this
  by_cases h0 : n = 0
  · subst h0
    have c45 := Tryz.slices_BinarySearch_empty A c (bs v) w
    have e : amongB ss v = true := by unfold amongB; rw [hlen]; rfl
    rw [e]
    clear hV hs hlen e
    go_enter Tryz.func23, Tryz.ntmps23
    go_wp2_with (go_at_call 45; (with_reducible refine c45.mono ?_); rintro e w' ⟨rfl, rfl⟩)
    go_ret
    exact ⟨rfl, 0, rfl⟩
  · obtain ⟨b, off, rfl, hlt, hc⟩ := hV.2 (by omega)
    have c45 := Tryz.slices_BinarySearch b off n c (fun j => bs (ss.getD j v)) (bs v) w (by omega) (fun j hj => by
      have h1 := hc j _ (strs_get (by omega))
      rw [h1]
      have hj' : j < ss.length := by omega
      rw [List.getD_eq_getElem?_getD, List.getD_eq_getElem?_getD, List.getElem?_eq_getElem hj']
      rfl)
    rw [← hlen] at c45
    rw [bs_go hs, bs_found hs, hlen] at c45
    have e : amongB ss v = decide (v ∈ ss) := by unfold amongB; rw [decide_eq_false (by omega), Bool.false_or]
    rw [e]
    obtain ⟨f, hf⟩ : ∃ f, decide (v ∈ ss) = f := ⟨_, rfl⟩
    rw [hf] at c45 ⊢
    have hn0 : ((n : Int) == 0) = false := beq_false_of_ne (by omega)
    clear hV hs hlen e hf hc
    cases f with
    | true =>
      go_enter Tryz.func23, Tryz.ntmps23
      go_wp2_with (go_at_call 45; (with_reducible refine c45.mono ?_); rintro e w' ⟨rfl, q, rfl⟩)
      go_ret
      exact ⟨rfl, q, rfl⟩
    | false =>
      go_enter Tryz.func23, Tryz.ntmps23
      go_wp2_with (go_at_call 45; (with_reducible refine c45.mono ?_); rintro e w' ⟨rfl, q, rfl⟩)
      go_ret
      exact ⟨rfl, q, rfl⟩
end Go.Proofs.YtdbnegllncjhkaaGreatDoor
