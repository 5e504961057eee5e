/- What the document's own Row hands back. -/
/- What the document's own Row hands back, where a value is wrong. -/
/- What the document's own Row hands back, where all values are right. -/
import Derived.Test.YtfmkhfjdihfppaaDoorRsequ
import Derived.Test.YtfmkhfjdihfppaaDoorGood
import Derived.Test.YtfmkhfjdihfppaaDoorTab
import Derived.Test.YtfmkhfjdihfppaaDoorUni
import Derived.Test.YtfmkhfjdihfppaaDoorBx
namespace Go.Proofs.YtfmkhfjdihfppaaDoor
open Go.RowKit

/-- What Row hands back: a row, and the error. -/
def RowPost (f : List (List UInt8)) (w : World) (e : Ending) (w' : World) : Prop :=
  Below w.heap.size w w' ∧ ∃ s : Rw, e = .returned (.tuple #[rwV s, .int .i64 (rowErr f)]) ∧ Is w' s (rowRef f) ∧ ∀ a, s.dp = some a → w.heap.size ≤ a.block
theorem rowRef_bad {f : List (List UInt8)} {e : Int} (h : rowErr f = e) (he : ¬ e = 0) : rowRef f = pr0 := by unfold rowRef; rw [if_neg (by rw [h]; exact he)]
theorem row_bad {f : List (List UInt8)} {e : Int} {w w' : World} (h : rowErr f = e) (he : ¬ e = 0) (hb : Below w.heap.size w w') : RowPost f w (.returned (.tuple #[rwV rw0, .int .i64 e])) w' :=
  ⟨hb, rw0, by rw [h], by rw [rowRef_bad h he]; exact is0 _, fun a h => by cases h⟩
theorem pI_eq (o : Option Nat) : ptI o = pI o := by cases o <;> rfl
set_option maxRecDepth 100000 in
set_option maxHeartbeats 4000000 in
theorem row22_len (F : Option Addr) (n cf : Nat) (f : List (List UInt8)) (w : World) (hV : Vals w F n (strs f)) (hne : ¬ n = 15) :
    Calls Tryd.prog 22 #[.slice F n cf] w (RowPost f w) := by
  have hl : f.length = n := by have := hV.1; rwa [strs_length] at this
  have HE := Lib.hid (row_len (f := f) (by rw [hl]; exact hne))
  have hb : ((n : Int) == 15) = false := beq_false_of_ne (by omega)
  have hb' : ((n : Int) != 15) = true := bne_iff_ne.2 (by omega)
  clear hV hl hne
  go_enter Tryd.func22, Tryd.ntmps22
  go_wp2
  exact bodyPost_ret (v := .tuple #[rwV rw0, .int .i64 12]) (by simp [results, Tryd.results22, go_sem, rwV, rw0, bs_nil]) rfl (row_bad HE.out (by decide) (Below.alloc (Below.refl _ _) (Nat.le_refl _) _))
set_option maxRecDepth 100000 in
set_option maxHeartbeats 4000000 in
theorem row22_hex (F : Option Addr) (cf : Nat) (f : List (List UInt8)) (w : World) (hV : Vals w F 15 (strs f)) (hfl : ∀ x ∈ f, x.length ≤ 2000) (hp : point (fld f 0) = none) :
    Calls Tryd.prog 22 #[.slice F 15 cf] w (RowPost f w) := by
  have hl : f.length = 15 := by have := hV.1; rwa [strs_length] at this
  obtain ⟨b, off, rfl, hbl, q0, -, q2, q3, q4, q5⟩ := flds hV rfl
  have hb0 : Below w.heap.size w (w.alloc (.cells #[.int .i64 0, .int .i64 0, .string ⟨#[]⟩, .int .i64 0, .string ⟨#[]⟩, .slice none 0 0] 36)) := (Below.refl _ _).alloc (Nat.le_refl _) _
  have c39 := point12 (fld f 0) (w.alloc (.cells #[.int .i64 0, .int .i64 0, .string ⟨#[]⟩, .int .i64 0, .string ⟨#[]⟩, .slice none 0 0] 36)) (by have := fld_len hfl 0; omega)
  have HE := Lib.hid (row_hex hl hp)
  rw [hp] at c39
  simp only [ptI] at c39
  obtain ⟨S0, hS0⟩ : ∃ S, bs (fld f 0) = S := ⟨_, rfl⟩
  rw [hS0] at q0 c39
  have HB := Lib.hid hb0
  clear hV hfl hl hp hS0 hb0 q2 q3 q4 q5
  go_enter Tryd.func22, Tryd.ntmps22
  go_wp2_with (go_at_call 39; (with_reducible refine c39.mono ?_); rintro e w1 ⟨rfl, hb1⟩; have HB1 := Lib.hid hb1; obtain ⟨⟨e0, e1, e2, e3, e4, e5⟩, ef⟩ := six_box hb1; clear hb1)
  exact bodyPost_ret (v := .tuple #[rwV rw0, .int .i64 13]) (by simp [results, Tryd.results22, go_sem, e0, e1, e2, e3, e4, e5, rwV, rw0, bs_nil]) rfl (row_bad HE.out (by decide) (below_store _ HB.out HB1.out))
/-- What makes a line's values right, as the document's own Row asks it. -/
theorem ok_parts {f : List (List UInt8)} : okB f = (decide ((fld f 2).length = 2 ∧ caps ((fld f 2).take 1) = true ∧ 97 ≤ oct (fld f 2) 1 ∧ oct (fld f 2) 1 ≤ 122 ∧ 0 ≤ cccOf (fld f 3) ∧ 1 ≤ (fld f 4).length ∧ (fld f 4).length ≤ 3 ∧ caps (fld f 4) = true)) := by
  unfold okB gcB bdB
  by_cases h : (fld f 2).length = 2
  · have e : caps ((fld f 2).take 1) = capB (oct (fld f 2) 0) := by
      obtain ⟨x, y, hxy⟩ : ∃ x y, fld f 2 = [x, y] := by
        generalize fld f 2 = l at h
        match l, h with
        | [x, y], _ => exact ⟨x, y, rfl⟩
      rw [hxy]
      unfold caps capB oct
      simp only [List.take_succ_cons, List.take_zero, List.all_cons, List.all_nil, Bool.and_true, List.getD_cons_zero, decide_eq_decide]
      omega
    rw [e, Bool.eq_iff_iff]
    simp only [Bool.and_eq_true, decide_eq_true_eq]
    constructor
    · rintro ⟨⟨h1, h2, h3, h4⟩, h5, ⟨h6, h7⟩, h8⟩
      exact ⟨h1, h2, h3, h4, h5, h6, h7, h8⟩
    · rintro ⟨h1, h2, h3, h4, h5, h6, h7, h8⟩
      exact ⟨⟨h1, h2, h3, h4⟩, h5, ⟨h6, h7⟩, h8⟩
  · rw [decide_eq_false h, Bool.false_and, Bool.false_and, decide_eq_false (fun h' => h h'.1)]
end Go.Proofs.YtfmkhfjdihfppaaDoor

namespace Go.Proofs.YtfmkhfjdihfppaaDoor
open Go.RowKit
set_option maxRecDepth 100000 in
set_option maxHeartbeats 4000000 in
theorem row22_val (F : Option Addr) (cf : Nat) (f : List (List UInt8)) (w : World) (hV : Vals w F 15 (strs f)) (hfl : ∀ x ∈ f, x.length ≤ 2000) (c : Nat) (hp : point (fld f 0) = some c) (ho : okB f = false) :
    Calls Tryd.prog 22 #[.slice F 15 cf] w (RowPost f w) := by
  have hl : f.length = 15 := by have := hV.1; rwa [strs_length] at this
  obtain ⟨b, off, rfl, hbl, q0, -, q2, q3, q4, q5⟩ := flds hV rfl
  have hb0 : Below w.heap.size w (w.alloc (.cells #[.int .i64 0, .int .i64 0, .string ⟨#[]⟩, .int .i64 0, .string ⟨#[]⟩, .slice none 0 0] 36)) := (Below.refl _ _).alloc (Nat.le_refl _) _
  have c39 := point12 (fld f 0) (w.alloc (.cells #[.int .i64 0, .int .i64 0, .string ⟨#[]⟩, .int .i64 0, .string ⟨#[]⟩, .slice none 0 0] 36)) (by have := fld_len hfl 0; omega)
  have HE := Lib.hid (row_val hl hp ho)
  rw [hp] at c39
  simp only [ptI] at c39
  have c40 := fun W => number40 (fld f 3) W (by have := fld_len hfl 3; omega)
  have c41 := fun W => capitals41 ((fld f 2).take 1) W (by rw [List.length_take]; omega)
  have c42 := fun W => capitals41 (fld f 4) W (by have := fld_len hfl 4; omega)
  have hs2 := bs_size (fld f 2)
  have hs4 := bs_size (fld f 4)
  have hx2 := bs_ext (fld f 2) 0 1
  have hy2 := bs_oct (fld f 2) 1
  have hyr := oct_range (fld f 2) 1
  rw [List.drop_zero, Nat.sub_zero] at hx2
  have hok := ok_parts (f := f)
  obtain ⟨S0, hS0⟩ : ∃ S, bs (fld f 0) = S := ⟨_, rfl⟩
  obtain ⟨S2, hS2⟩ : ∃ S, bs (fld f 2) = S := ⟨_, rfl⟩
  obtain ⟨S3, hS3⟩ : ∃ S, bs (fld f 3) = S := ⟨_, rfl⟩
  obtain ⟨S4, hS4⟩ : ∃ S, bs (fld f 4) = S := ⟨_, rfl⟩
  obtain ⟨S5, hS5⟩ : ∃ S, bs (fld f 5) = S := ⟨_, rfl⟩
  obtain ⟨T2, hT2⟩ : ∃ S, bs ((fld f 2).take 1) = S := ⟨_, rfl⟩
  obtain ⟨n2, hn2⟩ : ∃ n, (fld f 2).length = n := ⟨_, rfl⟩
  obtain ⟨n4, hn4⟩ : ∃ n, (fld f 4).length = n := ⟨_, rfl⟩
  obtain ⟨Y, hY⟩ : ∃ Y, oct (fld f 2) 1 = Y := ⟨_, rfl⟩
  obtain ⟨N, hN⟩ : ∃ N, cccOf (fld f 3) = N := ⟨_, rfl⟩
  obtain ⟨B2, hB2⟩ : ∃ B, caps ((fld f 2).take 1) = B := ⟨_, rfl⟩
  obtain ⟨B4, hB4⟩ : ∃ B, caps (fld f 4) = B := ⟨_, rfl⟩
  rw [hS0] at q0 c39
  rw [hS2] at q2 hs2 hx2 hy2
  rw [hS3] at q3 c40
  rw [hS4] at q4 c42 hs4
  rw [hS5] at q5
  rw [hT2] at hx2 c41
  rw [hn2] at hs2 hok
  rw [hn4] at hs4 hok
  rw [hY] at hy2 hyr hok
  rw [hN] at c40 hok
  rw [hB2] at c41 hok
  rw [hB4] at c42 hok
  obtain ⟨hy0, hy1⟩ := hyr
  have C40 := Lib.hid c40
  have C41 := Lib.hid c41
  have C42 := Lib.hid c42
  have HB := Lib.hid hb0
  have hl2 : n2 ≤ 2000 := by have := fld_len hfl 2; omega
  have hl4 : n4 ≤ 2000 := by have := fld_len hfl 4; omega
  rw [ho] at hok
  have hno := of_decide_eq_false hok.symm
  clear hV hfl hl hp hS0 hS2 hS3 hS4 hS5 hT2 hn2 hn4 hY hN hB2 hB4 hok hb0 c40 c41 c42
  by_cases h1 : n2 = 2
  rotate_left
  · have g1 : ((n2 : Int) == 2) = false := beq_false_of_ne (by omega)
    have g1' : ((n2 : Int) != 2) = true := bne_iff_ne.2 (by omega)
    clear hno
    go_enter Tryd.func22, Tryd.ntmps22
    go_wp2_with (first
    | (go_at_call 39; (with_reducible refine c39.mono ?_); rintro e w1 ⟨rfl, hb1⟩; have HB1 := Lib.hid hb1; obtain ⟨⟨e0, e1, e2, e3, e4, e5⟩, ef⟩ := six_box hb1; have hbw : b < w1.heap.size := (by have := hb1.size; simp at this; omega); have k2 := (hb1.cell (p := ⟨b, off + 2, none⟩) (by show b < _; simp; omega)).trans ((HB.out.cell (p := ⟨b, off + 2, none⟩) hbl).trans q2); have k3 := (hb1.cell (p := ⟨b, off + 3, none⟩) (by show b < _; simp; omega)).trans ((HB.out.cell (p := ⟨b, off + 3, none⟩) hbl).trans q3); have k4 := (hb1.cell (p := ⟨b, off + 4, none⟩) (by show b < _; simp; omega)).trans ((HB.out.cell (p := ⟨b, off + 4, none⟩) hbl).trans q4); have k5 := (hb1.cell (p := ⟨b, off + 5, none⟩) (by show b < _; simp; omega)).trans ((HB.out.cell (p := ⟨b, off + 5, none⟩) hbl).trans q5); clear hb1)
    | (go_at_call 40; (with_reducible refine (C40.out _).mono ?_); rintro e w' ⟨rfl, rfl⟩)
    | (go_at_call 41; (with_reducible refine (C41.out _).mono ?_); rintro e w' ⟨rfl, rfl⟩)
    | (go_at_call 41; (with_reducible refine (C42.out _).mono ?_); rintro e w' ⟨rfl, rfl⟩))
    exact bodyPost_ret (v := .tuple #[rwV rw0, .int .i64 16]) (by simp [results, Tryd.results22, go_sem, e0, e1, e2, e3, e4, e5, rwV, rw0, bs_nil]) rfl (row_bad HE.out (by decide) (below_store _ HB.out HB1.out))
  subst h1
  by_cases h2 : B2 = true
  rotate_left
  · obtain rfl : B2 = false := by simpa using h2
    clear hno
    go_enter Tryd.func22, Tryd.ntmps22
    go_wp2_with (first
    | (go_at_call 39; (with_reducible refine c39.mono ?_); rintro e w1 ⟨rfl, hb1⟩; have HB1 := Lib.hid hb1; obtain ⟨⟨e0, e1, e2, e3, e4, e5⟩, ef⟩ := six_box hb1; have hbw : b < w1.heap.size := (by have := hb1.size; simp at this; omega); have k2 := (hb1.cell (p := ⟨b, off + 2, none⟩) (by show b < _; simp; omega)).trans ((HB.out.cell (p := ⟨b, off + 2, none⟩) hbl).trans q2); have k3 := (hb1.cell (p := ⟨b, off + 3, none⟩) (by show b < _; simp; omega)).trans ((HB.out.cell (p := ⟨b, off + 3, none⟩) hbl).trans q3); have k4 := (hb1.cell (p := ⟨b, off + 4, none⟩) (by show b < _; simp; omega)).trans ((HB.out.cell (p := ⟨b, off + 4, none⟩) hbl).trans q4); have k5 := (hb1.cell (p := ⟨b, off + 5, none⟩) (by show b < _; simp; omega)).trans ((HB.out.cell (p := ⟨b, off + 5, none⟩) hbl).trans q5); clear hb1)
    | (go_at_call 40; (with_reducible refine (C40.out _).mono ?_); rintro e w' ⟨rfl, rfl⟩)
    | (go_at_call 41; (with_reducible refine (C41.out _).mono ?_); rintro e w' ⟨rfl, rfl⟩)
    | (go_at_call 41; (with_reducible refine (C42.out _).mono ?_); rintro e w' ⟨rfl, rfl⟩))
    exact bodyPost_ret (v := .tuple #[rwV rw0, .int .i64 16]) (by simp [results, Tryd.results22, go_sem, e0, e1, e2, e3, e4, e5, rwV, rw0, bs_nil]) rfl (row_bad HE.out (by decide) (below_store _ HB.out HB1.out))
  subst h2
  by_cases h3 : 97 ≤ Y
  rotate_left
  · have h3' : Y < 97 := by omega
    have h3d : decide (Y < 97) = true := decide_eq_true h3'
    clear hno
    go_enter Tryd.func22, Tryd.ntmps22
    go_wp2_with (first
    | (go_at_call 39; (with_reducible refine c39.mono ?_); rintro e w1 ⟨rfl, hb1⟩; have HB1 := Lib.hid hb1; obtain ⟨⟨e0, e1, e2, e3, e4, e5⟩, ef⟩ := six_box hb1; have hbw : b < w1.heap.size := (by have := hb1.size; simp at this; omega); have k2 := (hb1.cell (p := ⟨b, off + 2, none⟩) (by show b < _; simp; omega)).trans ((HB.out.cell (p := ⟨b, off + 2, none⟩) hbl).trans q2); have k3 := (hb1.cell (p := ⟨b, off + 3, none⟩) (by show b < _; simp; omega)).trans ((HB.out.cell (p := ⟨b, off + 3, none⟩) hbl).trans q3); have k4 := (hb1.cell (p := ⟨b, off + 4, none⟩) (by show b < _; simp; omega)).trans ((HB.out.cell (p := ⟨b, off + 4, none⟩) hbl).trans q4); have k5 := (hb1.cell (p := ⟨b, off + 5, none⟩) (by show b < _; simp; omega)).trans ((HB.out.cell (p := ⟨b, off + 5, none⟩) hbl).trans q5); clear hb1)
    | (go_at_call 40; (with_reducible refine (C40.out _).mono ?_); rintro e w' ⟨rfl, rfl⟩)
    | (go_at_call 41; (with_reducible refine (C41.out _).mono ?_); rintro e w' ⟨rfl, rfl⟩)
    | (go_at_call 41; (with_reducible refine (C42.out _).mono ?_); rintro e w' ⟨rfl, rfl⟩))
    exact bodyPost_ret (v := .tuple #[rwV rw0, .int .i64 16]) (by simp [results, Tryd.results22, go_sem, e0, e1, e2, e3, e4, e5, rwV, rw0, bs_nil]) rfl (row_bad HE.out (by decide) (below_store _ HB.out HB1.out))
  have h3' : ¬ Y < 97 := by omega
  have h3d : decide (Y < 97) = false := decide_eq_false h3'
  by_cases h4 : Y ≤ 122
  rotate_left
  · have h4' : 122 < Y := by omega
    have h4d : decide (122 < Y) = true := decide_eq_true h4'
    clear hno
    go_enter Tryd.func22, Tryd.ntmps22
    go_wp2_with (first
    | (go_at_call 39; (with_reducible refine c39.mono ?_); rintro e w1 ⟨rfl, hb1⟩; have HB1 := Lib.hid hb1; obtain ⟨⟨e0, e1, e2, e3, e4, e5⟩, ef⟩ := six_box hb1; have hbw : b < w1.heap.size := (by have := hb1.size; simp at this; omega); have k2 := (hb1.cell (p := ⟨b, off + 2, none⟩) (by show b < _; simp; omega)).trans ((HB.out.cell (p := ⟨b, off + 2, none⟩) hbl).trans q2); have k3 := (hb1.cell (p := ⟨b, off + 3, none⟩) (by show b < _; simp; omega)).trans ((HB.out.cell (p := ⟨b, off + 3, none⟩) hbl).trans q3); have k4 := (hb1.cell (p := ⟨b, off + 4, none⟩) (by show b < _; simp; omega)).trans ((HB.out.cell (p := ⟨b, off + 4, none⟩) hbl).trans q4); have k5 := (hb1.cell (p := ⟨b, off + 5, none⟩) (by show b < _; simp; omega)).trans ((HB.out.cell (p := ⟨b, off + 5, none⟩) hbl).trans q5); clear hb1)
    | (go_at_call 40; (with_reducible refine (C40.out _).mono ?_); rintro e w' ⟨rfl, rfl⟩)
    | (go_at_call 41; (with_reducible refine (C41.out _).mono ?_); rintro e w' ⟨rfl, rfl⟩)
    | (go_at_call 41; (with_reducible refine (C42.out _).mono ?_); rintro e w' ⟨rfl, rfl⟩))
    exact bodyPost_ret (v := .tuple #[rwV rw0, .int .i64 16]) (by simp [results, Tryd.results22, go_sem, e0, e1, e2, e3, e4, e5, rwV, rw0, bs_nil]) rfl (row_bad HE.out (by decide) (below_store _ HB.out HB1.out))
  have h4' : ¬ 122 < Y := by omega
  have h4d : decide (122 < Y) = false := decide_eq_false h4'
  by_cases h5 : 0 ≤ N
  rotate_left
  · have h5' : N < 0 := by omega
    have h5d : decide (N < 0) = true := decide_eq_true h5'
    clear hno
    go_enter Tryd.func22, Tryd.ntmps22
    go_wp2_with (first
    | (go_at_call 39; (with_reducible refine c39.mono ?_); rintro e w1 ⟨rfl, hb1⟩; have HB1 := Lib.hid hb1; obtain ⟨⟨e0, e1, e2, e3, e4, e5⟩, ef⟩ := six_box hb1; have hbw : b < w1.heap.size := (by have := hb1.size; simp at this; omega); have k2 := (hb1.cell (p := ⟨b, off + 2, none⟩) (by show b < _; simp; omega)).trans ((HB.out.cell (p := ⟨b, off + 2, none⟩) hbl).trans q2); have k3 := (hb1.cell (p := ⟨b, off + 3, none⟩) (by show b < _; simp; omega)).trans ((HB.out.cell (p := ⟨b, off + 3, none⟩) hbl).trans q3); have k4 := (hb1.cell (p := ⟨b, off + 4, none⟩) (by show b < _; simp; omega)).trans ((HB.out.cell (p := ⟨b, off + 4, none⟩) hbl).trans q4); have k5 := (hb1.cell (p := ⟨b, off + 5, none⟩) (by show b < _; simp; omega)).trans ((HB.out.cell (p := ⟨b, off + 5, none⟩) hbl).trans q5); clear hb1)
    | (go_at_call 40; (with_reducible refine (C40.out _).mono ?_); rintro e w' ⟨rfl, rfl⟩)
    | (go_at_call 41; (with_reducible refine (C41.out _).mono ?_); rintro e w' ⟨rfl, rfl⟩)
    | (go_at_call 41; (with_reducible refine (C42.out _).mono ?_); rintro e w' ⟨rfl, rfl⟩))
    exact bodyPost_ret (v := .tuple #[rwV rw0, .int .i64 16]) (by simp [results, Tryd.results22, go_sem, e0, e1, e2, e3, e4, e5, rwV, rw0, bs_nil]) rfl (row_bad HE.out (by decide) (below_store _ HB.out HB1.out))
  have h5' : ¬ N < 0 := by omega
  have h5d : decide (N < 0) = false := decide_eq_false h5'
  by_cases h6 : 1 ≤ n4
  rotate_left
  · have h6' : (n4 : Int) < 1 := by omega
    have h6d : decide ((n4 : Int) < 1) = true := decide_eq_true h6'
    clear hno
    go_enter Tryd.func22, Tryd.ntmps22
    go_wp2_with (first
    | (go_at_call 39; (with_reducible refine c39.mono ?_); rintro e w1 ⟨rfl, hb1⟩; have HB1 := Lib.hid hb1; obtain ⟨⟨e0, e1, e2, e3, e4, e5⟩, ef⟩ := six_box hb1; have hbw : b < w1.heap.size := (by have := hb1.size; simp at this; omega); have k2 := (hb1.cell (p := ⟨b, off + 2, none⟩) (by show b < _; simp; omega)).trans ((HB.out.cell (p := ⟨b, off + 2, none⟩) hbl).trans q2); have k3 := (hb1.cell (p := ⟨b, off + 3, none⟩) (by show b < _; simp; omega)).trans ((HB.out.cell (p := ⟨b, off + 3, none⟩) hbl).trans q3); have k4 := (hb1.cell (p := ⟨b, off + 4, none⟩) (by show b < _; simp; omega)).trans ((HB.out.cell (p := ⟨b, off + 4, none⟩) hbl).trans q4); have k5 := (hb1.cell (p := ⟨b, off + 5, none⟩) (by show b < _; simp; omega)).trans ((HB.out.cell (p := ⟨b, off + 5, none⟩) hbl).trans q5); clear hb1)
    | (go_at_call 40; (with_reducible refine (C40.out _).mono ?_); rintro e w' ⟨rfl, rfl⟩)
    | (go_at_call 41; (with_reducible refine (C41.out _).mono ?_); rintro e w' ⟨rfl, rfl⟩)
    | (go_at_call 41; (with_reducible refine (C42.out _).mono ?_); rintro e w' ⟨rfl, rfl⟩))
    exact bodyPost_ret (v := .tuple #[rwV rw0, .int .i64 16]) (by simp [results, Tryd.results22, go_sem, e0, e1, e2, e3, e4, e5, rwV, rw0, bs_nil]) rfl (row_bad HE.out (by decide) (below_store _ HB.out HB1.out))
  have h6' : ¬ (n4 : Int) < 1 := by omega
  have h6d : decide ((n4 : Int) < 1) = false := decide_eq_false h6'
  by_cases h7 : n4 ≤ 3
  rotate_left
  · have h7' : 3 < (n4 : Int) := by omega
    have h7d : decide (3 < (n4 : Int)) = true := decide_eq_true h7'
    clear hno
    go_enter Tryd.func22, Tryd.ntmps22
    go_wp2_with (first
    | (go_at_call 39; (with_reducible refine c39.mono ?_); rintro e w1 ⟨rfl, hb1⟩; have HB1 := Lib.hid hb1; obtain ⟨⟨e0, e1, e2, e3, e4, e5⟩, ef⟩ := six_box hb1; have hbw : b < w1.heap.size := (by have := hb1.size; simp at this; omega); have k2 := (hb1.cell (p := ⟨b, off + 2, none⟩) (by show b < _; simp; omega)).trans ((HB.out.cell (p := ⟨b, off + 2, none⟩) hbl).trans q2); have k3 := (hb1.cell (p := ⟨b, off + 3, none⟩) (by show b < _; simp; omega)).trans ((HB.out.cell (p := ⟨b, off + 3, none⟩) hbl).trans q3); have k4 := (hb1.cell (p := ⟨b, off + 4, none⟩) (by show b < _; simp; omega)).trans ((HB.out.cell (p := ⟨b, off + 4, none⟩) hbl).trans q4); have k5 := (hb1.cell (p := ⟨b, off + 5, none⟩) (by show b < _; simp; omega)).trans ((HB.out.cell (p := ⟨b, off + 5, none⟩) hbl).trans q5); clear hb1)
    | (go_at_call 40; (with_reducible refine (C40.out _).mono ?_); rintro e w' ⟨rfl, rfl⟩)
    | (go_at_call 41; (with_reducible refine (C41.out _).mono ?_); rintro e w' ⟨rfl, rfl⟩)
    | (go_at_call 41; (with_reducible refine (C42.out _).mono ?_); rintro e w' ⟨rfl, rfl⟩))
    exact bodyPost_ret (v := .tuple #[rwV rw0, .int .i64 16]) (by simp [results, Tryd.results22, go_sem, e0, e1, e2, e3, e4, e5, rwV, rw0, bs_nil]) rfl (row_bad HE.out (by decide) (below_store _ HB.out HB1.out))
  have h7' : ¬ 3 < (n4 : Int) := by omega
  have h7d : decide (3 < (n4 : Int)) = false := decide_eq_false h7'
  by_cases h8 : B4 = true
  rotate_left
  · obtain rfl : B4 = false := by simpa using h8
    clear hno
    go_enter Tryd.func22, Tryd.ntmps22
    go_wp2_with (first
    | (go_at_call 39; (with_reducible refine c39.mono ?_); rintro e w1 ⟨rfl, hb1⟩; have HB1 := Lib.hid hb1; obtain ⟨⟨e0, e1, e2, e3, e4, e5⟩, ef⟩ := six_box hb1; have hbw : b < w1.heap.size := (by have := hb1.size; simp at this; omega); have k2 := (hb1.cell (p := ⟨b, off + 2, none⟩) (by show b < _; simp; omega)).trans ((HB.out.cell (p := ⟨b, off + 2, none⟩) hbl).trans q2); have k3 := (hb1.cell (p := ⟨b, off + 3, none⟩) (by show b < _; simp; omega)).trans ((HB.out.cell (p := ⟨b, off + 3, none⟩) hbl).trans q3); have k4 := (hb1.cell (p := ⟨b, off + 4, none⟩) (by show b < _; simp; omega)).trans ((HB.out.cell (p := ⟨b, off + 4, none⟩) hbl).trans q4); have k5 := (hb1.cell (p := ⟨b, off + 5, none⟩) (by show b < _; simp; omega)).trans ((HB.out.cell (p := ⟨b, off + 5, none⟩) hbl).trans q5); clear hb1)
    | (go_at_call 40; (with_reducible refine (C40.out _).mono ?_); rintro e w' ⟨rfl, rfl⟩)
    | (go_at_call 41; (with_reducible refine (C41.out _).mono ?_); rintro e w' ⟨rfl, rfl⟩)
    | (go_at_call 41; (with_reducible refine (C42.out _).mono ?_); rintro e w' ⟨rfl, rfl⟩))
    exact bodyPost_ret (v := .tuple #[rwV rw0, .int .i64 16]) (by simp [results, Tryd.results22, go_sem, e0, e1, e2, e3, e4, e5, rwV, rw0, bs_nil]) rfl (row_bad HE.out (by decide) (below_store _ HB.out HB1.out))
  exact absurd ⟨rfl, rfl, h3, h4, h5, h6, h7, h8⟩ hno
end Go.Proofs.YtfmkhfjdihfppaaDoor

namespace Go.Proofs.YtfmkhfjdihfppaaDoor
open Go.RowKit
set_option maxRecDepth 100000 in
set_option maxHeartbeats 4000000 in
theorem row22_ok (F : Option Addr) (cf : Nat) (f : List (List UInt8)) (w : World) (hV : Vals w F 15 (strs f)) (hfl : ∀ x ∈ f, x.length ≤ 2000) (c : Nat) (hp : point (fld f 0) = some c) (ho : okB f = true) :
    Calls Tryd.prog 22 #[.slice F 15 cf] w (RowPost f w) := by
  have hl : f.length = 15 := by have := hV.1; rwa [strs_length] at this
  obtain ⟨b, off, rfl, hbl, q0, -, q2, q3, q4, q5⟩ := flds hV rfl
  have hb0 : Below w.heap.size w (w.alloc (.cells #[.int .i64 0, .int .i64 0, .string ⟨#[]⟩, .int .i64 0, .string ⟨#[]⟩, .slice none 0 0] 36)) := (Below.refl _ _).alloc (Nat.le_refl _) _
  have c39 := point12 (fld f 0) (w.alloc (.cells #[.int .i64 0, .int .i64 0, .string ⟨#[]⟩, .int .i64 0, .string ⟨#[]⟩, .slice none 0 0] 36)) (by have := fld_len hfl 0; omega)
  have HE := Lib.hid (row_dec hl hp ho)
  rw [hp] at c39
  simp only [ptI] at c39
  have c40 := fun W => number40 (fld f 3) W (by have := fld_len hfl 3; omega)
  have c41 := fun W => capitals41 ((fld f 2).take 1) W (by rw [List.length_take]; omega)
  have c42 := fun W => capitals41 (fld f 4) W (by have := fld_len hfl 4; omega)
  have hs2 := bs_size (fld f 2)
  have hs4 := bs_size (fld f 4)
  have hx2 := bs_ext (fld f 2) 0 1
  have hy2 := bs_oct (fld f 2) 1
  have hyr := oct_range (fld f 2) 1
  rw [List.drop_zero, Nat.sub_zero] at hx2
  have hok := ok_parts (f := f)
  obtain ⟨S0, hS0⟩ : ∃ S, bs (fld f 0) = S := ⟨_, rfl⟩
  obtain ⟨S2, hS2⟩ : ∃ S, bs (fld f 2) = S := ⟨_, rfl⟩
  obtain ⟨S3, hS3⟩ : ∃ S, bs (fld f 3) = S := ⟨_, rfl⟩
  obtain ⟨S4, hS4⟩ : ∃ S, bs (fld f 4) = S := ⟨_, rfl⟩
  obtain ⟨S5, hS5⟩ : ∃ S, bs (fld f 5) = S := ⟨_, rfl⟩
  obtain ⟨T2, hT2⟩ : ∃ S, bs ((fld f 2).take 1) = S := ⟨_, rfl⟩
  obtain ⟨n2, hn2⟩ : ∃ n, (fld f 2).length = n := ⟨_, rfl⟩
  obtain ⟨n4, hn4⟩ : ∃ n, (fld f 4).length = n := ⟨_, rfl⟩
  obtain ⟨Y, hY⟩ : ∃ Y, oct (fld f 2) 1 = Y := ⟨_, rfl⟩
  obtain ⟨N, hN⟩ : ∃ N, cccOf (fld f 3) = N := ⟨_, rfl⟩
  obtain ⟨B2, hB2⟩ : ∃ B, caps ((fld f 2).take 1) = B := ⟨_, rfl⟩
  obtain ⟨B4, hB4⟩ : ∃ B, caps (fld f 4) = B := ⟨_, rfl⟩
  rw [hS0] at q0 c39
  rw [hS2] at q2 hs2 hx2 hy2
  rw [hS3] at q3 c40
  rw [hS4] at q4 c42 hs4
  rw [hS5] at q5
  rw [hT2] at hx2 c41
  rw [hn2] at hs2 hok
  rw [hn4] at hs4 hok
  rw [hY] at hy2 hyr hok
  rw [hN] at c40 hok
  rw [hB2] at c41 hok
  rw [hB4] at c42 hok
  obtain ⟨hy0, hy1⟩ := hyr
  have C40 := Lib.hid c40
  have C41 := Lib.hid c41
  have C42 := Lib.hid c42
  have HB := Lib.hid hb0
  have hl2 : n2 ≤ 2000 := by have := fld_len hfl 2; omega
  have hl4 : n4 ≤ 2000 := by have := fld_len hfl 4; omega
  rw [ho] at hok
  obtain ⟨rfl, rfl, h3, h4, h5, h6, h7, rfl⟩ := of_decide_eq_true hok.symm
  have h3' : ¬ Y < 97 := by omega
  have h3d : decide (Y < 97) = false := decide_eq_false h3'
  have h4' : ¬ 122 < Y := by omega
  have h4d : decide (122 < Y) = false := decide_eq_false h4'
  have h5' : ¬ N < 0 := by omega
  have h5d : decide (N < 0) = false := decide_eq_false h5'
  have h6' : ¬ (n4 : Int) < 1 := by omega
  have h6d : decide ((n4 : Int) < 1) = false := decide_eq_false h6'
  have h7' : ¬ 3 < (n4 : Int) := by omega
  have h7d : decide (3 < (n4 : Int)) = false := decide_eq_false h7'
  have hs5 := bs_size (fld f 5)
  have hz5 := bs_oct (fld f 5) 0
  have hzr := oct_range (fld f 5) 0
  have HL5 := Lib.hid (fld_len hfl 5)
  obtain ⟨n5, hn5⟩ : ∃ n, (fld f 5).length = n := ⟨_, rfl⟩
  obtain ⟨Z5, hZ5⟩ : ∃ Z, oct (fld f 5) 0 = Z := ⟨_, rfl⟩
  have hl5 : n5 ≤ 2000 := by have := fld_len hfl 5; omega
  rw [hS5] at hs5 hz5
  rw [hn5] at hs5
  rw [hZ5] at hz5 hzr
  have HN5 := Lib.hid hn5
  have HZ5 := Lib.hid hZ5
  have HS5 := Lib.hid hS5
  have HFIN := Lib.hid (row_fin hl hp ho)
  have HS2 := Lib.hid hS2
  have HS4 := Lib.hid hS4
  have HN := Lib.hid hN
  obtain ⟨hz50, hz51⟩ := hzr
  clear hV hfl hl hp ho hS0 hS2 hS3 hS4 hS5 hT2 hn2 hn4 hY hN hB2 hB4 hok hb0 c40 c41 c42 hn5 hZ5
  go_enter Tryd.func22, Tryd.ntmps22
  go_wp2_with (first
    | (go_at_call 39; (with_reducible refine c39.mono ?_); rintro e w1 ⟨rfl, hb1⟩; have HB1 := Lib.hid hb1; obtain ⟨⟨e0, e1, e2, e3, e4, e5⟩, ef⟩ := six_box hb1; have hbw : b < w1.heap.size := (by have := hb1.size; simp at this; omega); have k2 := (hb1.cell (p := ⟨b, off + 2, none⟩) (by show b < _; simp; omega)).trans ((HB.out.cell (p := ⟨b, off + 2, none⟩) hbl).trans q2); have k3 := (hb1.cell (p := ⟨b, off + 3, none⟩) (by show b < _; simp; omega)).trans ((HB.out.cell (p := ⟨b, off + 3, none⟩) hbl).trans q3); have k4 := (hb1.cell (p := ⟨b, off + 4, none⟩) (by show b < _; simp; omega)).trans ((HB.out.cell (p := ⟨b, off + 4, none⟩) hbl).trans q4); have k5 := (hb1.cell (p := ⟨b, off + 5, none⟩) (by show b < _; simp; omega)).trans ((HB.out.cell (p := ⟨b, off + 5, none⟩) hbl).trans q5); clear hb1)
    | (go_at_call 40; (with_reducible refine (C40.out _).mono ?_); rintro e w' ⟨rfl, rfl⟩)
    | (go_at_call 41; (with_reducible refine (C41.out _).mono ?_); rintro e w' ⟨rfl, rfl⟩)
    | (go_at_call 41; (with_reducible refine (C42.out _).mono ?_); rintro e w' ⟨rfl, rfl⟩))
  go_region
  have hwl : w.heap.size < w'.heap.size := World.block_lt_of_cell? w' _ e0
  have hB2 : Below w'.heap.size w' (w'.alloc (.cells #[.int .i64 (c : Int), .int .i64 (c : Int), .string S2, .int .i64 N, .string S4, .slice none 0 0] 36)).drew := below_drew ((Below.refl _ _).alloc (Nat.le_refl _) _)
  have E2 := Box6.below ⟨⟨e0, e1, e2, e3, e4, e5⟩, ef⟩ hwl hB2
  have R2 : Box6 (w'.alloc (.cells #[.int .i64 (c : Int), .int .i64 (c : Int), .string S2, .int .i64 N, .string S4, .slice none 0 0] 36)).drew w'.heap.size (.int .i64 (c : Int)) (.int .i64 (c : Int)) (.string S2) (.int .i64 N) (.string S4) (.slice none 0 0) := six_box (below_drew (Below.refl _ _))
  have k5' := (hB2.cell (p := ⟨b, off + 5, none⟩) hbw).trans k5
  have hr2 : w'.heap.size < (w'.alloc (.cells #[.int .i64 (c : Int), .int .i64 (c : Int), .string S2, .int .i64 N, .string S4, .slice none 0 0] 36)).drew.heap.size := by simp [World.drew]
  have HB2 := Lib.hid ((HB.out.trans (HB1.out.mono HB.out.size)).trans (hB2.mono (by omega)))
  obtain ⟨W2, hW2⟩ : ∃ W2, (w'.alloc (.cells #[.int .i64 (c : Int), .int .i64 (c : Int), .string S2, .int .i64 N, .string S4, .slice none 0 0] 36)).drew = W2 := ⟨_, rfl⟩
  rw [hW2] at E2 R2 k5' hr2 HB2 ⊢
  obtain ⟨r, hr⟩ : ∃ r, w'.heap.size = r := ⟨_, rfl⟩
  rw [hr] at R2 hr2 hwl ⊢
  have HR2 := Lib.hid R2
  have HEE := Lib.hid E2
  have c76 := sequence16 (fld f 5) W2 HL5.out
  rw [HS5.out] at c76
  clear hW2 hr hB2 e0 e1 e2 e3 e4 e5 ef k2 k3 k4 k5 HB1 HB c39 C40 C41 C42 q0 q2 q3 q4 q5 hbw hs2 hs4 hx2 hy2 h3 h4 h5 h6 h7 h3' h3d h4' h4d h5' h5d h6' h6d h7' h7d hl2 hl4 hy0 hy1
  cases htag : tagB (fld f 5)
  · have hdec := dec_err (l := fld f 5) htag
    have htest : n5 = 0 ∨ (0 < n5 ∧ (Z5 == 60) = false) := by
      rcases Nat.eq_zero_or_pos n5 with h | h
      · exact .inl h
      · refine .inr ⟨h, beq_false_of_ne fun hz => ?_⟩
        have := of_decide_eq_false htag
        rw [HN5.out, HZ5.out] at this
        exact this ⟨h, hz⟩
    have HD := Lib.hid hdec
    have HTG := Lib.hid htag
    clear hdec htag
    have hne1 : ¬ r = w.heap.size := by omega
    have hne2 : ¬ w.heap.size = r := by omega
    cases hsq : seqOf (fld f 5) with
    | none =>
      rw [hsq] at HD
      have HDZ : Hid (rowErr f = 13) := Lib.hid (by rw [HE.out, HD.out])
      replace c76 := c76.mono (fun e w' h => seq_none hsq h)
      have hn5 : 0 < n5 ∧ (Z5 == 60) = false := by
        rcases htest with h | h
        · exfalso
          have e : fld f 5 = [] := List.eq_nil_of_length_eq_zero (by rw [HN5.out, h])
          rw [e] at hsq
          cases hsq
        · exact h
      obtain ⟨hpos, hz60⟩ := hn5
      clear hsq htest
      obtain ⟨⟨e0, e1, e2, e3, e4, e5⟩, ef⟩ := E2
      obtain ⟨⟨r0, r1, r2, r3, r4, r5⟩, rf⟩ := R2
      go_wp2_with (go_at_call 42; (with_reducible refine c76.mono ?_); rintro e w3 ⟨rfl, hb3⟩; obtain ⟨⟨y0, y1, y2, y3, y4, y5⟩, yf⟩ := HEE.out.below (by omega) hb3)
      exact bodyPost_ret (v := .tuple #[rwV rw0, .int .i64 13]) (by simp [results, Tryd.results22, go_sem, y0, y1, y2, y3, y4, y5, rwV, rw0, bs_nil]) rfl (row_bad HDZ.out (by decide) (below_six _ _ _ (HB2.out.trans (hb3.mono (by have := HB2.out.size; omega)))))
    | some cs =>
      rw [hsq] at HD
      replace c76 := c76.mono (fun e w' h => seq_some hsq h)
      have HDV : Hid (decVal (fld f 5) = cs) := Lib.hid (by unfold decVal; rw [if_neg (by rw [HTG.out]; decide), hsq]; rfl)
      by_cases hlong : 2 < cs.length
      · have HDZ : Hid (rowErr f = 16) := Lib.hid (by rw [HE.out, HD.out]; simp only [if_pos hlong])
        have hn5 : 0 < n5 ∧ (Z5 == 60) = false := by
          rcases htest with h | h
          · exfalso
            have e : fld f 5 = [] := List.eq_nil_of_length_eq_zero (by rw [HN5.out, h])
            rw [e] at hsq
            cases hsq
            simp at hlong
          · exact h
        obtain ⟨hpos, hz60⟩ := hn5
        have hlI : 2 < (cs.length : Int) := by omega
        clear hsq htest
        obtain ⟨⟨e0, e1, e2, e3, e4, e5⟩, ef⟩ := E2
        obtain ⟨⟨r0, r1, r2, r3, r4, r5⟩, rf⟩ := R2
        go_wp2_with (go_at_call 42; (with_reducible refine c76.mono ?_); rintro e w3 ⟨hb3, A3, ca3, rfl, hV3⟩; obtain ⟨⟨y0, y1, y2, y3, y4, y5⟩, yf⟩ := HEE.out.below (by omega) hb3)
        exact bodyPost_ret (v := .tuple #[rwV rw0, .int .i64 16]) (by simp [results, Tryd.results22, go_sem, y0, y1, y2, y3, y4, y5, rwV, rw0, bs_nil]) rfl (row_bad HDZ.out (by decide) (below_six _ _ _ (HB2.out.trans (hb3.mono (by have := HB2.out.size; omega)))))
      have HDZ : Hid (decErr (fld f 5) = 0) := Lib.hid (by rw [HD.out]; simp only [if_neg hlong])
      have hlI : ¬ 2 < (cs.length : Int) := by omega
      clear hsq
      rcases htest with rfl | ⟨hpos, hz60⟩
      all_goals
        obtain ⟨⟨e0, e1, e2, e3, e4, e5⟩, ef⟩ := E2
        obtain ⟨⟨r0, r1, r2, r3, r4, r5⟩, rf⟩ := R2
        go_wp2_with (go_at_call 42; (with_reducible refine c76.mono ?_); rintro e w3 ⟨hb3, A3, ca3, rfl, hV3⟩; obtain ⟨⟨y0, y1, y2, y3, y4, y5⟩, yf⟩ := HEE.out.below (by omega) hb3; obtain ⟨⟨z0, z1, z2, z3, z4, z5⟩, zf⟩ := HR2.out.below hr2 hb3)
        have hV4 := vals_set6 (b := w.heap.size) (v0 := .int .i64 (c : Int)) (v1 := .int .i64 (c : Int)) (v2 := .string S2) (v3 := .int .i64 N) (v4 := .string S4) (v5 := .slice A3 cs.length ca3) (vals_set (b := r) (i := 5) (v := .slice A3 cs.length ca3) hV3.out.1 (fun a e => by have := hV3.out.2 a e; omega)) (fun a e => by have := hV3.out.2 a e; omega)
        have HFR : Hid (∀ a, A3 = some a → w.heap.size ≤ a.block) := Lib.hid (fun a e => by have := hV3.out.2 a e; omega)
        have HV4 := Lib.hid hV4
        have HB4 := Lib.hid (below_set (HB2.out.trans (hb3.mono (by have := HB2.out.size; omega))) (show w.heap.size ≤ r by omega) 5 (.slice A3 cs.length ca3))
        clear hV3 hV4
        exact bodyPost_ret (v := .tuple #[rwV ⟨c, c, fld f 2, cccOf (fld f 3), fld f 4, A3, cs.length, ca3⟩, .int .i64 0]) (by simp [results, Tryd.results22, go_sem, y0, y1, y2, y3, y4, y5, rwV, HS2.out, HS4.out, HN.out]) rfl
          ⟨below_six _ _ _ HB4.out, _, by rw [HE.out, HDZ.out], by rw [HFIN.out HDZ.out]; exact ⟨rfl, rfl, rfl, rfl, rfl, by rw [HDV.out], by rw [HDV.out]; exact HV4.out⟩, HFR.out⟩
  · have HDZ : Hid (decErr (fld f 5) = 0) := Lib.hid (by unfold decErr; rw [if_pos htag])
    have HDV : Hid (decVal (fld f 5) = []) := Lib.hid (by unfold decVal; rw [if_pos htag])
    have ht := of_decide_eq_true htag
    rw [HN5.out, HZ5.out] at ht
    obtain ⟨hpos, rfl⟩ := ht
    have hne1 : ¬ r = w.heap.size := by omega
    have hne2 : ¬ w.heap.size = r := by omega
    clear htag c76
    obtain ⟨⟨e0, e1, e2, e3, e4, e5⟩, ef⟩ := E2
    obtain ⟨⟨r0, r1, r2, r3, r4, r5⟩, rf⟩ := R2
    go_wp2
    exact bodyPost_ret (v := .tuple #[rwV ⟨c, c, fld f 2, cccOf (fld f 3), fld f 4, none, 0, 0⟩, .int .i64 0]) (by simp [results, Tryd.results22, go_sem, e0, e1, e2, e3, e4, e5, rwV, HS2.out, HS4.out, HN.out]) rfl
      ⟨below_six _ _ _ HB2.out, _, by rw [HE.out, HDZ.out], by rw [HFIN.out HDZ.out]; exact ⟨rfl, rfl, rfl, rfl, rfl, by rw [HDV.out]; rfl, by rw [HDV.out]; exact Vals.nil _ _⟩, fun a h => by cases h⟩
end Go.Proofs.YtfmkhfjdihfppaaDoor
