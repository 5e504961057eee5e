/- What the program's readEntry hands back, where the line is right. -/
/- What the program's take does, whatever the line. -/
/- What stands between two lines of Parse; no walk. -/
/- The document's own Load: how things stand between its steps. -/
/- The document's own Load: how things stand between two property files. -/
/- The document's own Load: how things stand once all files are read. -/
import Derived.Test.YtfakohoamgogoaaGreatDoorQt17
import Derived.Deep.DeepCutAuto
import Derived.Test.YtfakohoamgogoaaGreatDoorQt21
import Derived.Test.YtfakohoamgogoaaGreatDoorQt09
import Derived.Test.YtfakohoamgogoaaGreatDoorQt10
import Derived.Test.YtfakohoamgogoaaGreatDoorQt06
import Derived.Test.YtfakohoamgogoaaGreatDoorQt03
import Derived.Test.YtfakohoamgogoaaGreatDoorQt02
import Derived.Test.YtfakohoamgogoaaGreatDoorQt08
import Derived.Test.YtfakohoamgogoaaGreatDoorQt05
import Derived.Test.YtfakohoamgogoaaGreatDoorQt16
import Derived.Test.YtfakohoamgogoaaGreatDoorQt19
import Derived.Deep.CutBlock
import Derived.Deep.CutRange
namespace Go.Proofs.YtfakohoamgogoaaGreatDoor.Uc
open Go.RowKit

theorem cell_set {w : World} {b o r i : Nat} {x v : Value} (h : w.cell? ⟨b, o, none⟩ = some x) (hne : b ≠ r) : (w.setCell ⟨r, i, none⟩ v).cell? ⟨b, o, none⟩ = some x := by
  rw [World.cell?_setCell_other _ _ _ _ (by intro e; injection e with e1; exact hne e1.symm)]
  exact h
theorem cell_six {w : World} {b o r : Nat} {x v0 v1 v2 v3 v4 v5 : Value} (h : w.cell? ⟨b, o, none⟩ = some x) (hne : b ≠ r) :
    ((((((w.setCell ⟨r, 0, none⟩ v0).setCell ⟨r, 1, none⟩ v1).setCell ⟨r, 2, none⟩ v2).setCell ⟨r, 3, none⟩ v3).setCell ⟨r, 4, none⟩ v4).setCell ⟨r, 5, none⟩ v5).cell? ⟨b, o, none⟩ = some x :=
  cell_set (cell_set (cell_set (cell_set (cell_set (cell_set h hne) hne) hne) hne) hne) hne
theorem six_boxd {w w1 : World} {v0 v1 v2 v3 v4 v5 : Value} {t : TypeId} (h : Below (w.alloc (.cells #[v0, v1, v2, v3, v4, v5] t)).drew.heap.size (w.alloc (.cells #[v0, v1, v2, v3, v4, v5] t)).drew w1) : Box6 w1 w.heap.size v0 v1 v2 v3 v4 v5 := six_box (below_of_drew h)
theorem six_boxn {w w1 : World} {v0 v1 v2 v3 v4 v5 : Value} {t : TypeId} (h : Below (w.alloc (.cells #[v0, v1, v2, v3, v4, v5] t)).heap.size (w.alloc (.cells #[v0, v1, v2, v3, v4, v5] t)) w1) : Box6 w1 w.heap.size v0 v1 v2 v3 v4 v5 := six_box h
theorem is_mk {W : World} {a b ccc : Int} {gc bd : List UInt8} {A : Option Addr} {n dc : Nat} {cs : List Nat} (h1 : n = cs.length) (h2 : Vals W A n (nums .i64 (cs.map fun c : Nat => (c : Int)))) : Is W ⟨a, b, gc, ccc, bd, A, n, dc⟩ ⟨a, b, gc, ccc, bd, cs⟩ := ⟨rfl, rfl, rfl, rfl, rfl, h1, h2⟩
/-- Behind the statement that lays the row. -/
def EntCut (w w3 : World) (num : Int) (b off : Nat) (S0 S1 S2 S3 S4 S5 : ByteArray) (r : Nat) (v0 v1 v2 v3 v4 v5 : Value) (W : World) : Prop :=
  EntW w num b off S0 S1 S2 S3 S4 S5 W ∧ Box6 W r v0 v1 v2 v3 v4 v5 ∧ w3.heap.size ≤ r ∧ Below w3.heap.size w3 W
theorem bel_next {w3 W W1 W' : World} (h : Below w3.heap.size w3 W) (hb : Below W1.heap.size W1 W') (h1 : Below W.heap.size W W1 := by first | (with_reducible exact Below.refl _ _) | (with_reducible exact below_drew (Below.refl _ _)) | (with_reducible exact (Below.refl _ _).alloc (Nat.le_refl _) _) | (with_reducible exact below_drew ((Below.refl _ _).alloc (Nat.le_refl _) _))) : Below w3.heap.size w3 W' := h.trans ((h1.trans (hb.mono h1.size)).mono h.size)
theorem entW_set {w : World} {num : Int} {b off : Nat} {S0 S1 S2 S3 S4 S5 : ByteArray} {W : World} (h : EntW w num b off S0 S1 S2 S3 S4 S5 W) {r : Nat} (hr : w.heap.size + 1 < r) (hb : b < r) (i : Nat) (v : Value) : EntW w num b off S0 S1 S2 S3 S4 S5 (W.setCell ⟨r, i, none⟩ v) := by
  obtain ⟨⟨⟨⟨y0, y1, y2, y3, y4, y5, y6, y7, y8⟩, yf⟩, yn⟩, ⟨f0, f1, f2, f3, f4, f5⟩, ⟨m, hm⟩, hB, hs, hbb⟩ := h
  have n1 : w.heap.size + 1 ≠ r := by omega
  have n2 : w.heap.size ≠ r := by omega
  have n3 : b ≠ r := by omega
  exact ⟨⟨⟨⟨cell_set y0 n1, cell_set y1 n1, cell_set y2 n1, cell_set y3 n1, cell_set y4 n1, cell_set y5 n1, cell_set y6 n1, cell_set y7 n1, cell_set y8 n1⟩, fun i => by rw [World.frozen?_setCell]; exact yf i⟩, cell_set yn n2⟩, ⟨cell_set f0 n3, cell_set f1 n3, cell_set f2 n3, cell_set f3 n3, cell_set f4 n3, cell_set f5 n3⟩, ⟨m, cell_set hm (by omega)⟩, below_set hB (by omega) _ _, by rw [World.size_setCell]; exact hs, by rw [World.size_setCell]; exact hbb⟩
theorem box6_six {W : World} {r : Nat} {u0 u1 u2 u3 u4 u5 v0 v1 v2 v3 v4 v5 : Value} (h : Box6 W r u0 u1 u2 u3 u4 u5) :
    Box6 ((((((W.setCell ⟨r, 0, none⟩ v0).setCell ⟨r, 1, none⟩ v1).setCell ⟨r, 2, none⟩ v2).setCell ⟨r, 3, none⟩ v3).setCell ⟨r, 4, none⟩ v4).setCell ⟨r, 5, none⟩ v5) r v0 v1 v2 v3 v4 v5 := by
  obtain ⟨⟨r0, r1, r2, r3, r4, r5⟩, hf⟩ := h
  exact ⟨⟨by simp [go_sem, r0], by simp [go_sem, r1], by simp [go_sem, r2], by simp [go_sem, r3], by simp [go_sem, r4], by simp [go_sem, r5]⟩, fun i => by simp only [World.frozen?_setCell]; exact hf i⟩
theorem cut_six {w w3 : World} {num : Int} {b off : Nat} {S0 S1 S2 S3 S4 S5 : ByteArray} {r : Nat} {u0 u1 u2 u3 u4 u5 v0 v1 v2 v3 v4 v5 : Value} {W : World} (h : EntW w num b off S0 S1 S2 S3 S4 S5 W) (hx : Box6 W r u0 u1 u2 u3 u4 u5) (hr : w3.heap.size ≤ r) (hB : Below w3.heap.size w3 W) (h1 : w.heap.size + 1 < w3.heap.size) (h2 : b < w3.heap.size) :
    EntCut w w3 num b off S0 S1 S2 S3 S4 S5 r v0 v1 v2 v3 v4 v5 ((((((W.setCell ⟨r, 0, none⟩ v0).setCell ⟨r, 1, none⟩ v1).setCell ⟨r, 2, none⟩ v2).setCell ⟨r, 3, none⟩ v3).setCell ⟨r, 4, none⟩ v4).setCell ⟨r, 5, none⟩ v5) := by
  have a1 : w.heap.size + 1 < r := by omega
  have a2 : b < r := by omega
  exact ⟨entW_set (entW_set (entW_set (entW_set (entW_set (entW_set h a1 a2 _ _) a1 a2 _ _) a1 a2 _ _) a1 a2 _ _) a1 a2 _ _) a1 a2 _ _, box6_six hx, hr, below_set (below_set (below_set (below_set (below_set (below_set hB hr _ _) hr _ _) hr _ _) hr _ _) hr _ _) hr _ _⟩
theorem cut_new {w w3 : World} {num : Int} {b off : Nat} {S0 S1 S2 S3 S4 S5 : ByteArray} {v0 v1 v2 v3 v4 v5 : Value} {W : World} {t : TypeId} (h : EntW w num b off S0 S1 S2 S3 S4 S5 W) (hB : Below w3.heap.size w3 W) :
    EntCut w w3 num b off S0 S1 S2 S3 S4 S5 W.heap.size v0 v1 v2 v3 v4 v5 (W.alloc (.cells #[v0, v1, v2, v3, v4, v5] t)) :=
  ⟨h.below ((Below.refl _ _).alloc (Nat.le_refl _) _), six_boxn (Below.refl _ _), hB.size, hB.alloc hB.size _⟩
set_option maxRecDepth 100000 in
set_option maxHeartbeats 4000000 in
theorem ent34_ok (num : Int) (F : Option Addr) (cf : Nat) (f : List (List UInt8)) (w : World) (hV : Vals w F 15 (strs f)) (hfl : ∀ x ∈ f, x.length ≤ 4000) (hM : ML w) (c : Nat) (hp : point (fld f 0) = some c) (ho : okB f = true) (hx : decErr (fld f 5) = 0) :
    Calls Tryz.prog 120 #[.agg #[.int .i64 num, .slice F 15 cf]] w (EntOk num f w) := by
  have hl : f.length = 15 := by have := hV.1; rwa [strs_length] at this
  obtain ⟨b, off, rfl, hbl, q0, q1, q2, q3, q4, q5⟩ := flds hV rfl
  have c56 := fun W => point11 (fld f 0) W (by have := fld_len hfl 0; omega)
  have c57 := fun W => ccc57 (fld f 3) W (by have := fld_len hfl 3; omega)
  have c58 := fun W => gc58 (fld f 2) W (by have := fld_len hfl 2; omega)
  have c59 := fun W => bd59 (fld f 4) W (by have := fld_len hfl 4; omega)
  have c60 := fun W => dec60 (fld f 5) W (fld_len hfl 5)
  have hs2 := bs_size (fld f 2)
  have hs4 := bs_size (fld f 4)
  have hl2 := fld_len hfl 2
  have hl4 := fld_len hfl 4
  have hem := bs_emp (fld f 5)
  obtain ⟨S0, hS0⟩ : ∃ S, bs (fld f 0) = S := ⟨_, rfl⟩
  obtain ⟨S1, hS1⟩ : ∃ S, bs (fld f 1) = S := ⟨_, rfl⟩
  obtain ⟨S2, hS2⟩ : ∃ S, bs (fld f 2) = S := ⟨_, rfl⟩
  obtain ⟨S3, hS3⟩ : ∃ S, bs (fld f 3) = S := ⟨_, rfl⟩
  obtain ⟨S4, hS4⟩ : ∃ S, bs (fld f 4) = S := ⟨_, rfl⟩
  obtain ⟨S5, hS5⟩ : ∃ S, bs (fld f 5) = S := ⟨_, rfl⟩
  rw [hS0] at q0
  rw [hS1] at q1
  rw [hS2] at q2 hs2
  rw [hS3] at q3
  rw [hS4] at q4 hs4
  rw [hS5] at q5 hem
  simp only [hS0] at c56
  simp only [hS3] at c57
  simp only [hS2] at c58
  simp only [hS4] at c59
  simp only [hS5] at c60
  have hz2 : S2.size ≤ 4000 := by omega
  have hz4 : S4.size ≤ 4000 := by omega
  have EW0 := Lib.hid (entW_first w num cf b off S0 S1 S2 S3 S4 S5 hbl q0 q1 q2 q3 q4 q5 hM)
  obtain ⟨⟨⟨⟨y0, y1, y2, y3, y4, y5, y6, y7, y8⟩, yf⟩, yn⟩, ⟨f0, f1, f2, f3, f4, f5⟩, -, -, ys, yb⟩ := EW0.out
  have HRV : Hid (rowVal f = ⟨c, c, fld f 2, cccOf (fld f 3), fld f 4, decVal (fld f 5)⟩) := Lib.hid (by unfold rowVal; rw [hp]; rfl)
  simp only [hp, ptVal] at c56
  have hok := ho
  unfold okB at hok
  rw [Bool.and_eq_true, Bool.and_eq_true, decide_eq_true_eq] at hok
  obtain ⟨hg, hc, hd⟩ := hok
  unfold cccP at c57
  simp only [hg] at c58
  simp only [hd] at c59
  simp only [if_pos hc] at c57
  unfold DecPost at c60
  obtain ⟨N, hN⟩ : ∃ N, cccOf (fld f 3) = N := ⟨_, rfl⟩
  rw [hN] at HRV
  simp only [hN] at c57
  simp only [hx, true_implies] at c60
  clear hg hd hc hN hx
  have C56 := Lib.hid c56
  have C57 := Lib.hid c57
  have C58 := Lib.hid c58
  have C59 := Lib.hid c59
  have C60 := Lib.hid c60
  have HS2 := Lib.hid hS2
  have HS4 := Lib.hid hS4
  have HS1 := Lib.hid hS1
  clear hV hfl hl hp ho hS0 hS1 hS2 hS3 hS4 hS5 c56 c57 c58 c59 c60 hs2 hs4 hl2 hl4 q0 q1 q2 q3 q4 q5 hM
  have c61 := fun W S (hs : S.size ≤ 4000) => clone61 S W (by omega)
  have C61 := Lib.hid c61
  clear c61
  go_enter Tryz.func120, Tryz.ntmps120
  go_upto_region 13 with (first
    | (go_at_call 135; (with_reducible refine (C56.out _).mono ?_); rintro e w' ⟨rfl, rfl⟩)
    | (go_at_call 156; (with_reducible refine (C57.out _).mono ?_); rintro e w1 ⟨rfl, hb1⟩; have EW1 := Lib.hid (EW0.out.below hb1); obtain ⟨⟨⟨⟨y0, y1, y2, y3, y4, y5, y6, y7, y8⟩, yf⟩, yn⟩, ⟨f0, f1, f2, f3, f4, f5⟩, -, -, ys, yb⟩ := EW1.out)
    | (go_at_call 157; (with_reducible refine (C58.out _).mono ?_); rintro e w' ⟨rfl, rfl⟩)
    | (go_at_call 158; (with_reducible refine (C59.out _).mono ?_); rintro e w2 ⟨rfl, hb2⟩; have EW2 := Lib.hid (EW1.out.below hb2); have hM2 := Lib.hid EW2.out.2.2.1; obtain ⟨⟨⟨⟨y0, y1, y2, y3, y4, y5, y6, y7, y8⟩, yf⟩, yn⟩, ⟨f0, f1, f2, f3, f4, f5⟩, -, -, ys, yb⟩ := EW2.out)
    | (go_at_call 159; (with_reducible refine (C60.out _ hM2.out).mono ?_); rintro e w3 ⟨hb3, A3, n3, ca3, rfl, hV3⟩; have EW3 := Lib.hid (EW2.out.below hb3); obtain ⟨⟨⟨⟨y0, y1, y2, y3, y4, y5, y6, y7, y8⟩, yf⟩, yn⟩, ⟨f0, f1, f2, f3, f4, f5⟩, -, -, ys, yb⟩ := EW3.out))
  have hs2w := EW2.out.2.2.2.2.1
  clear C56 C57 C58 C59 C60 EW0 EW1 EW2 hb1 hb2 hM2
  have EWL := EW3
  have B3 := Lib.hid (Below.refl w3.heap.size w3)
  have ys3 := ys
  have yb3 := yb
  go_cut [10] (fun s10 wx => ∃ r : Nat, s10 = .pointer (some ⟨r, 0, none⟩) ∧ EntCut w w3 num b off S0 S1 S2 S3 S4 S5 r (.int .i64 (c : Int)) (.int .i64 (c : Int)) (.string S2) (.int .i64 N) (.string S4) (.slice A3 n3 ca3) wx)
  case first =>
    go_region_held3 (fun w' => w'.cell? ⟨b, off + 2, none⟩ = some (.string S2) ∧ w'.cell? ⟨b, off + 4, none⟩ = some (.string S4))
      (first
        | (go_split_ands
           refine ⟨?_, ?_⟩
           · (first | (with_reducible exact f2) | (with_reducible exact (World.cell?_alloc_lt _ _ _ yb).trans f2) | (with_reducible exact cell_six f2 hbr))
           · (first | (with_reducible exact f4) | (with_reducible exact (World.cell?_alloc_lt _ _ _ yb).trans f4) | (with_reducible exact cell_six f4 hbr)))
        | go_keep)
      ((go_simp; go_at_call 127; (first | (with_reducible refine (C61.out _ S2 hz2).mono ?_) | (with_reducible refine (C61.out _ S4 hz4).mono ?_)); rintro e w4 ⟨rfl, hb4⟩; have yold := Nat.ne_of_lt yb; have EWL := Lib.hid (entW_next EWL.out hb4); have hle3 := B3.out.size; have B3 := Lib.hid (bel_next B3.out hb4); have f2 := EWL.out.2.1.2.2.1; have f4 := EWL.out.2.1.2.2.2.2.1; have yb := EWL.out.2.2.2.2.2; (first | (have RB := (by with_reducible exact six_boxd hb4); have hbr := yold; have hrr := hle3) | (have RB := (by with_reducible exact six_boxn hb4); have hbr := yold; have hrr := hle3) | (have RB := RB.below (World.block_lt_of_cell? _ _ RB.1.1) hb4) | skip); (try obtain ⟨⟨r0, r1, r2, r3, r4, r5⟩, rf⟩ := id RB)))
    all_goals
      go_wp2_with fail
      go_meet
      refine ⟨_, rfl, ?_⟩
      first
        | (with_reducible exact cut_new EWL.out B3.out)
        | (with_reducible exact cut_six EWL.out RB hrr B3.out ys3 yb3)
  case rest =>
    obtain ⟨r, rfl, hE, ⟨⟨r0, r1, r2, r3, r4, r5⟩, rf⟩, hr3, hB3⟩ := hcut
    have HEC := Lib.hid hE
    obtain ⟨⟨⟨⟨y0, y1, y2, y3, y4, y5, y6, y7, y8⟩, yf⟩, yn⟩, ⟨f0, f1, f2, f3, f4, f5⟩, -, -, ys, yb⟩ := hE
    obtain ⟨B5, hB5⟩ : ∃ B, decide (fld f 5 = []) = B := ⟨_, rfl⟩
    rw [hB5] at hem
    have HB5 := Lib.hid hB5
    clear hB5
    go_wp2_with fail
    go_region
    go_wp2
    have hV4 := vals_set9 (b := w.heap.size + 1) (v0 := .int .i64 num) (v1 := .string S1) (v2 := .bool B5) (v3 := .int .i64 (c : Int)) (v4 := .int .i64 (c : Int)) (v5 := .string S2) (v6 := .int .i64 N) (v7 := .string S4) (v8 := .slice A3 n3 ca3) (hV3.out.2.1.below hB3) (fun a e => by have := hV3.out.2.2 a e; omega)
    have hV5 := hV4.below (below_drew (Below.refl _ _))
    unfold i64s at hV5
    have HIS := Lib.hid (is_mk (a := c) (b := c) (gc := fld f 2) (ccc := N) (bd := fld f 4) (dc := ca3) hV3.out.1 hV5)
    have HFR : Hid (∀ a, A3 = some a → w.heap.size ≤ a.block) := Lib.hid (fun a e => by have := hV3.out.2.2 a e; omega)
    have HBL := Lib.hid (below_drew (below_nine (v0 := .int .i64 num) (v1 := .string S1) (v2 := .bool B5) (v3 := .int .i64 (c : Int)) (v4 := .int .i64 (c : Int)) (v5 := .string S2) (v6 := .int .i64 N) (v7 := .string S4) (v8 := .slice A3 n3 ca3) HEC.out.2.2.2.1 (show w.heap.size ≤ w.heap.size + 1 by omega)))
    clear hV4 hV5 HEC
    refine bodyPost_ret (v := .tuple #[enV num S1 B5 ⟨c, c, fld f 2, N, fld f 4, A3, n3, ca3⟩, .int .i64 0]) (by simp [results, Tryz.results120, go_sem, y0, y1, y2, y3, y4, y5, y6, y7, y8, enV, HS2.out, HS4.out]) rfl ?_
    refine ⟨by with_reducible exact HBL.out, ⟨c, c, fld f 2, N, fld f 4, A3, n3, ca3⟩, by rw [HS1.out, HB5.out], Lib.hid ⟨?_, by with_reducible exact HFR.out⟩⟩
    rw [HRV.out]
    with_reducible exact HIS.out
end Go.Proofs.YtfakohoamgogoaaGreatDoor.Uc

namespace Go.Proofs.YtfakohoamgogoaaGreatDoor.Uc
open Go.RowKit Go.Shelf Go.Sort

/-- readEntry at a wrong line, and at a right one. -/
theorem ent_any_bad (num : Int) (F : Option Addr) (n : Nat) (f : List (List UInt8)) (w : World) (hV : Vals w F n (strs f)) (hfl : ∀ x ∈ f, x.length ≤ 4000) (hM : ML w) (he : ¬ rowErr f = 0) : Calls Tryz.prog 120 #[.agg #[.int .i64 num, .slice F n n]] w (EntBad f w) := by
  by_cases hn : n = 15
  · subst hn
    have hl : f.length = 15 := by have := hV.1; rwa [strs_length] at this
    cases hp : point (fld f 0) with
    | none => exact ent34_hex num F 15 f w hV hfl hM hp
    | some c =>
      cases ho : okB f with
      | false => exact ent34_val num F 15 f w hV hfl hM c hp ho
      | true => exact ent34_dec num F 15 f w hV hfl hM c hp ho (by rw [← row_dec hl hp ho]; exact he)
  · exact ent34_len num F n n f w hV hn
theorem ent_any_ok (num : Int) (F : Option Addr) (n : Nat) (f : List (List UInt8)) (w : World) (hV : Vals w F n (strs f)) (hfl : ∀ x ∈ f, x.length ≤ 4000) (hM : ML w) (he : rowErr f = 0) : Calls Tryz.prog 120 #[.agg #[.int .i64 num, .slice F n n]] w (EntOk num f w) := by
  have hl : f.length = n := by have := hV.1; rwa [strs_length] at this
  obtain ⟨h1, ⟨c, h2⟩, h3, h4⟩ := row_ok he
  obtain rfl : n = 15 := by omega
  exact ent34_ok num F 15 f w hV hfl hM c h2 h3 h4
def StepTo (R base : Nat) (a b : Int) (W : World) : St → Prop
  | .bad e n => a = e ∧ b = n ∧ ¬ e = 0
  | .at ps op => a = 0 ∧ b = 0 ∧ RdrI R base ps op W
def TakePost (R base : Nat) (s : St) (w : World) (e : Ending) (w' : World) : Prop :=
  Hold (GA R) w w' ∧ Below R w w' ∧ ∃ a b, e = .returned (.tuple #[.int .i64 a, .int .i64 b]) ∧ Hid (StepTo R base a b w' s)
theorem take_any (R base : Nat) (ps : List Pr) (op : Option Ln) (num : Int) (F : Option Addr) (n : Nat) (f : List (List UInt8)) (w : World) (hI : RdrI R base ps op w) (hV : Vals w F n (strs f)) (hfl : ∀ x ∈ f, x.length ≤ 4000) (hM : ML w) (hp : ps.length ≤ 1000000) (hbase : base ≤ w.heap.size) :
    Calls Tryz.prog 93 #[.pointer (some ⟨R, 0, none⟩), .agg #[.int .i64 num, .slice F n n]] w (TakePost R base (step (.at ps op) (num, f)) w) := by
  have hR : R < w.heap.size := by obtain ⟨v, ls, n1, nm, bare, s, hx, -⟩ := hI; exact hx.lt
  have hl1 : (fld f 1).length ≤ 1000000 := by have := fld_len hfl 1; omega
  by_cases he : rowErr f = 0
  · have c34 := fun W (hW : Below w.heap.size w W) => ent_any_ok num F n f W (hV.below hW) hfl (hM.below hW) he
    cases op with
    | some x =>
      refine (take20_open R base ps x num F n f w c34 hI hl1 hp).mono ?_
      rintro e w' ⟨h1, h2, h3⟩
      refine ⟨h1, h2, ?_⟩
      rcases h3 with ⟨hj, rfl⟩ | ⟨hj, rfl, h4⟩
      · exact ⟨_, _, rfl, Lib.hid (by simp only [step]; rw [if_neg (by simp [he]), if_pos hj]; exact ⟨rfl, rfl, by decide⟩)⟩
      · exact ⟨_, _, rfl, Lib.hid (by simp only [step]; rw [if_neg (by simp [he]), if_neg (by rw [hj]; decide)]; exact ⟨rfl, rfl, h4⟩)⟩
    | none =>
      by_cases ht : twice ps (rowVal f) = true
      · refine (take20_twice R base ps num F n f w c34 hI hp ht).mono ?_
        rintro e w' ⟨rfl, hb⟩
        exact ⟨Hold.of_below (ga_lets R) hb, hb.mono (Nat.le_of_lt hR), _, _, rfl, Lib.hid (by simp only [step]; rw [if_neg (by simp [he]), if_pos ht]; exact ⟨rfl, rfl, by decide⟩)⟩
      · refine (take20_add R base ps num F n f w c34 hI hp hl1 ht hbase).mono ?_
        rintro e w' ⟨rfl, h1, h2, h3⟩
        exact ⟨h1, h2, _, _, rfl, Lib.hid (by simp only [step]; rw [if_neg (by simp [he]), if_neg ht]; exact ⟨rfl, rfl, h3⟩)⟩
  · have c34 := fun W (hW : Below w.heap.size w W) => ent_any_bad num F n f W (hV.below hW) hfl (hM.below hW) he
    refine (take20_err R num F n f w c34 he).mono ?_
    rintro e w' ⟨rfl, hb⟩
    refine ⟨Hold.of_below (ga_lets R) hb, hb.mono (Nat.le_of_lt hR), _, _, rfl, Lib.hid ?_⟩
    cases op with
    | some x => simp only [step]; rw [if_pos he]; exact ⟨rfl, rfl, he⟩
    | none => simp only [step]; rw [if_pos he]; exact ⟨rfl, rfl, he⟩
end Go.Proofs.YtfakohoamgogoaaGreatDoor.Uc

namespace Go.Proofs.YtfakohoamgogoaaGreatDoor.Uc
open Go.RowKit Go.Shelf Go.Sort

/-- A block of cells is not turned by growth, nor by what happens to blocks that are no cells. -/
theorem grown_cells {W W' : World} {row : Option Nat} {b : Nat} {o : Obj} (hg : W.grownBy W' row) (hr : ∀ r, row = some r → ∃ o : Obj, W.heap[r]? = some o ∧ o.isCells = false) (hb : W.heap[b]? = some o) (ho : o.isCells = true) : W'.heap[b]? = W.heap[b]? := by
  refine hg.block b (Array.getElem?_eq_some_iff.1 hb).1 (fun e => ?_)
  obtain ⟨o', h1, h2⟩ := hr b e.symm
  rw [hb] at h1
  cases h1
  rw [ho] at h2
  cases h2
theorem grown_cell {W W' : World} {row : Option Nat} {a : Addr} {v : Value} (hg : W.grownBy W' row) (hr : ∀ r, row = some r → ∃ o : Obj, W.heap[r]? = some o ∧ o.isCells = false) (hc : W.cell? a = some v) : W'.heap[a.block]? = W.heap[a.block]? := by
  obtain ⟨o, ho, hcl⟩ := cells_of_cell hc
  exact grown_cells hg hr ho hcl
theorem RdrI.grown {R base : Nat} {ps : List Pr} {op : Option Ln} {W W' : World} {row : Option Nat} (h : RdrI R base ps op W) (hg : W.grownBy W' row) (hr : ∀ r, row = some r → ∃ o : Obj, W.heap[r]? = some o ∧ o.isCells = false) : RdrI R base ps op W' := by
  obtain ⟨v, ls, num, nm, bare, s, hx, ⟨h1, h2, h3, h4⟩, h5⟩ := h
  refine ⟨v, ls, num, nm, bare, s, rbx_block hx (grown_cell (a := ⟨R, 0, none⟩) hg hr hx.1.1), ⟨own_block h1 fun k e => ?_, Ist.blocks hg.size h2 fun t ht hd a ha hlt => ?_, h3, h4⟩, h5⟩
  · rcases h1.2 with ⟨rfl, -⟩ | ⟨g, cap, cur, rfl, -, hgg, -⟩
    · cases e
    · have e : some g = some k := e
      cases e
      exact grown_cells hg hr hgg rfl
  · obtain ⟨p, -, hp⟩ := ist_mem h2 ht
    obtain ⟨b, off, e, -, hc⟩ := hp.2.2.2.2.2.2.2 hd
    rw [ha] at e
    cases e
    have hl := hp.2.2.2.2.2.2.1
    have := hc 0 _ (List.getElem?_eq_getElem (by rw [hl]; exact hd))
    exact grown_cell (a := ⟨b, off + 0, none⟩) hg hr this
theorem rdr_abide {β : Type} {R base B : Nat} (ps : β → List Pr) (op : β → Option Ln) : Abide 0 0 B (fun s W => RdrI R base (ps s) (op s) W) := fun _ _ _ _ hs hg hr => hs.grown hg (fun r e => (hr r e).elim (fun h => absurd h.2 (by omega)) (fun h => h.2))
/-- What the loop's body does not own. -/
def PA (H R : Nat) (W : World) (k : Nat) : Prop := GA R W k ∧ (k ≠ H ∧ k ≠ H + 1 ∧ k ≠ H + 2)
theorem pa_lets (H R : Nat) : Lets (PA H R) := (ga_lets R).and _
theorem pa_hold {H R : Nat} {W W' : World} (h : Hold (GA R) W W') : Hold (PA H R) W W' := ⟨h.1, fun k ha hk => have q := h.2 k ha.1 hk; ⟨q.1, q.2, ha.2⟩⟩
/-- The results' three boxes. -/
def RB3 (H : Nat) (p : Option Addr) (e n : Int) (W : World) : Prop :=
  (W.cell? ⟨H, 0, none⟩ = some (.pointer p) ∧ W.frozen? ⟨H, 0, none⟩ = false) ∧ ((W.cell? ⟨H + 1, 0, none⟩ = some (.int .i64 e) ∧ W.frozen? ⟨H + 1, 0, none⟩ = false) ∧ (W.cell? ⟨H + 2, 0, none⟩ = some (.int .i64 n) ∧ W.frozen? ⟨H + 2, 0, none⟩ = false))
theorem rb3_abide {β : Type} {B : Nat} (H : Nat) (p : β → Option Addr) (e n : β → Int) : Abide 0 0 B (fun s W => RB3 H (p s) (e s) (n s) W) :=
  Abide.and (abide_cell (fun _ => ⟨H, 0, none⟩) (fun s => .pointer (p s)) (fun _ => by omega)) (Abide.and (abide_cell (fun _ => ⟨H + 1, 0, none⟩) (fun s => .int .i64 (e s)) (fun _ => by omega)) (abide_cell (fun _ => ⟨H + 2, 0, none⟩) (fun s => .int .i64 (n s)) (fun _ => by omega)))
theorem RB3.below {H : Nat} {p : Option Addr} {e n : Int} {W W' : World} (h : RB3 H p e n W) {B : Nat} (hl : H + 2 < B) (hb : Below B W W') : RB3 H p e n W' :=
  ⟨⟨(hb.cell (p := ⟨H, 0, none⟩) (by show H < B; omega)).trans h.1.1, (hb.frozen (p := ⟨H, 0, none⟩) (by show H < B; omega)).trans h.1.2⟩, ⟨(hb.cell (p := ⟨H + 1, 0, none⟩) (by show H + 1 < B; omega)).trans h.2.1.1, (hb.frozen (p := ⟨H + 1, 0, none⟩) (by show H + 1 < B; omega)).trans h.2.1.2⟩, (hb.cell (p := ⟨H + 2, 0, none⟩) (by show H + 2 < B; omega)).trans h.2.2.1, (hb.frozen (p := ⟨H + 2, 0, none⟩) (by show H + 2 < B; omega)).trans h.2.2.2⟩
def stOf (xs : List LnV) : St := (xs.map view).foldl step (.at [] none)
theorem st_snoc (xs : List LnV) (x : LnV) : stOf (xs ++ [x]) = step (stOf xs) (view x) := by unfold stOf; rw [List.map_append, List.foldl_append]; rfl
/-- Between two lines. -/
def PaI (w : World) (base : Nat) (pre : List LnV) (W : World) : Prop :=
  ∃ s : List Pr × Option Ln, (stOf pre = .at s.1 s.2 ∧ s.1.length ≤ pre.length) ∧ (RdrI (w.heap.size + 3) base s.1 s.2 W ∧ (RB3 w.heap.size none 0 0 W ∧ (ML W ∧ Below w.heap.size w W)))
/-- A line has left: it is wrong. -/
def PaX (w : World) (c : Code) (pre : List LnV) (W : World) : Prop :=
  ∃ s : Int × Int, (c = .ret ∧ stOf pre = .bad s.1 s.2 ∧ ¬ s.1 = 0) ∧ (RB3 w.heap.size none s.1 s.2 W ∧ Below w.heap.size w W)
theorem pai_abide (w : World) (base B : Nat) (hB : w.heap.size ≤ B) : Abide 0 0 B (PaI w base) := by
  intro pre W W' row ⟨s, h1, h2, h3, h4, h5⟩ hg hr
  exact ⟨s, h1, rdr_abide (β := Unit) (B := B) (fun _ => s.1) (fun _ => s.2) () W W' row h2 hg hr, rb3_abide (β := Unit) (B := B) _ (fun _ => none) (fun _ => 0) (fun _ => 0) () W W' row h3 hg hr, ml_abide (β := Unit) (B := B) () W W' row h4 hg hr, abide_below (β := Unit) w (.inr (by omega)) hB (Nat.le_refl _) () W W' row h5 hg hr⟩
theorem pax_abide (w : World) (B : Nat) (hB : w.heap.size ≤ B) (c : Code) : Abide 0 0 B (PaX w c) := by
  intro pre W W' row ⟨s, h1, h3, h5⟩ hg hr
  exact ⟨s, h1, rb3_abide (β := Unit) (B := B) _ (fun _ => none) (fun _ => s.1) (fun _ => s.2) () W W' row h3 hg hr, abide_below (β := Unit) w (.inr (by omega)) hB (Nat.le_refl _) () W W' row h5 hg hr⟩
theorem rdr_free {R base : Nat} {ps : List Pr} {op : Option Ln} {W : World} (h : RdrI R base ps op W) : ∀ k, W.heap.size ≤ k → GA R W k := by
  obtain ⟨v, ls, num, nm, bare, s, hx, hr, -⟩ := h
  intro k hk
  have := hx.lt
  exact ⟨v, hx.1.1, by omega, fun e => by have := (hr.1.lt k e).2; omega⟩
def rb3_set (H : Nat) (p : Option Addr) (e n : Int) (W : World) : World := ((W.setCell ⟨H, 0, none⟩ (.pointer p)).setCell ⟨H + 1, 0, none⟩ (.int .i64 e)).setCell ⟨H + 2, 0, none⟩ (.int .i64 n)
theorem rb3_new {H : Nat} {p p' : Option Addr} {e n e' n' : Int} {W : World} (h : RB3 H p e n W) : RB3 H p' e' n' (rb3_set H p' e' n' W) := by
  obtain ⟨⟨h1, h2⟩, ⟨h3, h4⟩, h5, h6⟩ := h
  unfold rb3_set
  refine ⟨⟨by simp [go_sem, h1], ?_⟩, ⟨by simp [go_sem, h3], ?_⟩, by simp [go_sem, h5], ?_⟩ <;> simp only [World.frozen?_setCell] <;> assumption
theorem rb3_other {H k : Nat} {p : Option Addr} {e n : Int} {W : World} (h : k ≠ H ∧ k ≠ H + 1 ∧ k ≠ H + 2) : (rb3_set H p e n W).heap[k]? = W.heap[k]? := by
  unfold rb3_set
  rw [heap_setCell_other _ ⟨H + 2, 0, none⟩ k _ (fun e => h.2.2 (by simpa using e)), heap_setCell_other _ ⟨H + 1, 0, none⟩ k _ (fun e => h.2.1 (by simpa using e)), heap_setCell_other _ ⟨H, 0, none⟩ k _ (fun e => h.1 (by simpa using e))]
theorem rb3_size {H : Nat} {p : Option Addr} {e n : Int} {W : World} : (rb3_set H p e n W).heap.size = W.heap.size := by unfold rb3_set; simp only [World.size_setCell]
theorem rb3_below {w : World} {p : Option Addr} {e n : Int} {W : World} (h : Below w.heap.size w W) : Below w.heap.size w (rb3_set w.heap.size p e n W) := by
  unfold rb3_set
  exact ((h.setCell (p := ⟨w.heap.size, 0, none⟩) (Nat.le_refl _) _).setCell (p := ⟨w.heap.size + 1, 0, none⟩) (by show w.heap.size ≤ w.heap.size + 1; omega) _).setCell (p := ⟨w.heap.size + 2, 0, none⟩) (by show w.heap.size ≤ w.heap.size + 2; omega) _
theorem rb3_hold {H R : Nat} {p : Option Addr} {e n : Int} {W : World} (hR : R ≠ H ∧ R ≠ H + 1 ∧ R ≠ H + 2) : Hold (PA H R) W (rb3_set H p e n W) :=
  ⟨by rw [rb3_size]; exact Nat.le_refl _, fun k ha _ => ⟨rb3_other ha.2, (by
    obtain ⟨⟨v, h1, h2⟩, h3⟩ := ha
    exact ⟨⟨v, (World.cell?_of_block (a := ⟨R, 0, none⟩) (rb3_other hR)).trans h1, h2⟩, h3⟩)⟩⟩
theorem rat_block {W W' : World} {A : Option Addr} {n : Nat} {ls : List Rw} (h : RAt W A n ls) (hs : W.heap.size ≤ W'.heap.size) (he : ∀ a, A = some a → W'.heap[a.block]? = W.heap[a.block]?) : RAt W' A n ls := by
  refine ⟨h.1, fun hn => ?_⟩
  obtain ⟨b, off, rfl, hlt, hc⟩ := h.2 hn
  refine ⟨b, off, rfl, Nat.lt_of_lt_of_le hlt hs, fun j s hj => ?_⟩
  obtain ⟨h1, h2, h3, h4, h5, h6⟩ := hc j s hj
  have c : ∀ i u, W.cell? ⟨b, i, none⟩ = some u → W'.cell? ⟨b, i, none⟩ = some u := fun i u hu => (World.cell?_of_block (a := ⟨b, i, none⟩) (he ⟨b, off, none⟩ rfl)).trans hu
  exact ⟨c _ _ h1, c _ _ h2, c _ _ h3, c _ _ h4, c _ _ h5, c _ _ h6⟩
/-- What was laid from B on. -/
def Fresh (B : Nat) (A : Option Addr) (ls : List Rw) : Prop := (∀ a, A = some a → B ≤ a.block) ∧ ∀ t ∈ ls, 0 < t.dm → ∀ a, t.dp = some a → B ≤ a.block
/-- What Parse hands back. -/
def ParsePost (l : List UInt8) (w : World) (e : Ending) (w' : World) : Prop :=
  Below w.heap.size w w' ∧ (((parseOf (linesIn l)).err = 0 ∧ ∃ b A c ls, e = .returned (.tuple #[.pointer (some ⟨b, 0, none⟩), .int .i64 0, .int .i64 0]) ∧ w.heap.size ≤ b ∧ TIn w' (some ⟨b, 0, none⟩) A c ls ∧ Ist w' ls (parseOf (linesIn l)).rows ∧ Fresh w.heap.size A ls) ∨
    (¬ (parseOf (linesIn l)).err = 0 ∧ e = .returned (.tuple #[.pointer none, .int .i64 (parseOf (linesIn l)).err, .int .i64 (parseOf (linesIn l)).num])))
theorem put_other {W : World} {D k : Nat} {o : Obj} (h : k ≠ D) : (W.putObj D o).heap[k]? = W.heap[k]? := World.putObj_heap_other h
/-- The table, laid. -/
theorem table_done {w W : World} {base D n c : Nat} {A : Option Addr} {ls : List Rw} {ps : List Pr} (hn : ls.length = n) (hr : RRows (w.heap.size + 3) base (.slice A n c) ls ps W) (hD : W.heap[D]? = some (.deferred (some []))) (hb : Below w.heap.size w W) (hDw : w.heap.size + 3 < D) (hbase : w.heap.size + 3 < W.heap.size) :
    let X := (rb3_set w.heap.size (some ⟨W.heap.size, 0, none⟩) 0 0 (W.alloc (.cells #[.slice A n c] 160))).putObj D (.deferred none)
    Below w.heap.size w X ∧ TIn X (some ⟨W.heap.size, 0, none⟩) A c ls ∧ Ist X ls ps ∧ Fresh w.heap.size A ls := by
  intro X
  obtain ⟨h1, h2, h3, h4⟩ := hr
  have hDl : D < W.heap.size := (Array.getElem?_eq_some_iff.1 hD).1
  have ho : ∀ k, k < W.heap.size → k ≠ D → (k ≠ w.heap.size ∧ k ≠ w.heap.size + 1 ∧ k ≠ w.heap.size + 2) → X.heap[k]? = W.heap[k]? := fun k hk hkD hk3 => by
    show ((rb3_set w.heap.size _ 0 0 (W.alloc _)).putObj D _).heap[k]? = _
    rw [put_other hkD, rb3_other hk3]
    exact Below.heap_alloc W _ k hk
  have hsz : X.heap.size = W.heap.size + 1 := by
    show ((rb3_set w.heap.size _ 0 0 (W.alloc _)).putObj D _).heap.size = _
    rw [World.putObj_size, rb3_size, World.size_alloc]
  have hcD : ∀ k o, W.heap[k]? = some o → o.isCells = true → k ≠ D := fun k o hk hc e => by
    subst e
    rw [hD] at hk
    cases hk
    cases hc
  have hbox : X.cell? ⟨W.heap.size, 0, none⟩ = some (.slice A n c) := by
    refine (World.cell?_of_block (a := ⟨W.heap.size, 0, none⟩) (w := W.alloc (.cells #[.slice A n c] 160)) ?_).trans (by simp)
    show ((rb3_set w.heap.size _ 0 0 (W.alloc _)).putObj D _).heap[W.heap.size]? = _
    rw [put_other (by omega), rb3_other ⟨by omega, by omega, by omega⟩]
  have hrat : RAt W A n ls := by
    rw [← hn] at h1
    obtain ⟨A', c', e, -, hr', -⟩ := own_rat h1
    cases e
    rw [← hn]
    exact hr'
  refine ⟨?_, .inr ⟨W.heap.size, rfl, by omega, by rw [hn]; exact hbox, ?_⟩, ?_, fun a ha => ?_, fun t ht hd a ha => ?_⟩
  · have hk2 : (rb3_set w.heap.size (some ⟨W.heap.size, 0, none⟩) 0 0 (W.alloc (.cells #[.slice A n c] 160))).heap[D]? = some (.deferred (some [])) := by
      rw [rb3_other ⟨by omega, by omega, by omega⟩]
      exact (Below.heap_alloc W _ D hDl).trans hD
    exact (rb3_below (hb.alloc (by omega) _)).trans (belowK_b (w := w) (Nat.le_refl _) _ D _ _ (by omega) hk2 rfl rfl)
  · rw [hn]
    refine rat_block hrat (by omega) fun a ha => ?_
    rcases h1.2 with ⟨e, -⟩ | ⟨g, cap, cur, e, hg1, hg2, -⟩
    · cases e
      cases ha
    · cases e
      cases ha
      exact ho g (Array.getElem?_eq_some_iff.1 hg2).1 (hcD g _ hg2 rfl) ⟨by omega, by omega, by omega⟩
  · refine Ist.blocks (W := W) (by omega) h2 fun t ht hd a ha hlt => ?_
    have h3' := (h3 t ht hd a ha).2
    obtain ⟨p, -, hp⟩ := ist_mem h2 ht
    obtain ⟨b, off, e, -, hc⟩ := hp.2.2.2.2.2.2.2 hd
    rw [ha] at e
    cases e
    have hl := hp.2.2.2.2.2.2.1
    have hc0 := hc 0 _ (List.getElem?_eq_getElem (by rw [hl]; exact hd))
    obtain ⟨o, ho1, ho2⟩ := cells_of_cell hc0
    exact ho b hlt (hcD b o ho1 ho2) ⟨by simp only at h3'; omega, by simp only at h3'; omega, by simp only at h3'; omega⟩
  · rcases h1.2 with ⟨e, -⟩ | ⟨g, cap, cur, e, hg1, hg2, -⟩
    · cases e
      cases ha
    · cases e
      cases ha
      show w.heap.size ≤ g
      omega
  · have := (h3 t ht hd a ha).2
    omega
end Go.Proofs.YtfakohoamgogoaaGreatDoor.Uc

namespace Go.Proofs.YtfakohoamgogoaaGreatDoor
open Go.RowKit

/-- The bundle's values. -/
def bunV (v0 v1 v2 v3 v4 v5 v6 : Value) : Nat → Value := fun i => match i with
  | 0 => v0 | 1 => v1 | 2 => v2 | 3 => v3 | 4 => v4 | 5 => v5 | _ => v6
theorem new_at (w : World) (C : Array Value) (t : TypeId) (n i : Nat) (hn : n = w.heap.size) : (w.alloc (.cells C t)).cell? ⟨n, i, none⟩ = C[i]? := World.cell?_alloc_at _ _ _ _ hn
theorem old_at (w : World) (o : Obj) (n i : Nat) (hn : n < w.heap.size) : (w.alloc o).cell? ⟨n, i, none⟩ = w.cell? ⟨n, i, none⟩ := World.cell?_alloc_past _ _ _ hn
theorem old_fro (w : World) (o : Obj) (n i : Nat) (hn : n < w.heap.size) : (w.alloc o).frozen? ⟨n, i, none⟩ = w.frozen? ⟨n, i, none⟩ := World.frozen?_alloc_past _ _ _ hn
theorem new_fro (w : World) (C : Array Value) (t : TypeId) (n i : Nat) (hn : n = w.heap.size) : (w.alloc (.cells C t)).frozen? ⟨n, i, none⟩ = false := by subst hn; exact frozen_new w C t i
theorem seven_at (v0 v1 v2 v3 v4 v5 v6 : Value) : ∀ i, i < 7 → (#[v0, v1, v2, v3, v4, v5, v6] : Array Value)[i]? = some (bunV v0 v1 v2 v3 v4 v5 v6 i)
  | 0, _ => rfl | 1, _ => rfl | 2, _ => rfl | 3, _ => rfl | 4, _ => rfl | 5, _ => rfl | 6, _ => rfl
  | _ + 7, h => absurd h (by omega)
theorem three_at : ∀ i, i < 3 → (#[.int .i64 0, .int .i64 0, .int .i64 0] : Array Value)[i]? = some (.int .i64 0)
  | 0, _ => rfl | 1, _ => rfl | 2, _ => rfl
  | _ + 3, h => absurd h (by omega)
end Go.Proofs.YtfakohoamgogoaaGreatDoor

namespace Go.Proofs.YtfakohoamgogoaaGreatDoor
open Go.RowKit

section
variable {w W : World} {bv g : Nat → Value} {R : Option Addr} {n c : Nat} {ls : List Uc.Rw} {ps : List Uc.Pr} {F : Nat} {f : Nat → List UInt8} {k : Nat}
end
/-- What Load hands back. -/
def whV (x : Wh) : Value := .agg #[.int .i64 x.file, .int .i64 x.line, .int .i64 x.err]
/-- The result's cells are set. -/
def setR (w W : World) (a b c : Int) : World := ((W.setCell ⟨w.heap.size + 1, 0, none⟩ (.int .i64 a)).setCell ⟨w.heap.size + 1, 1, none⟩ (.int .i64 b)).setCell ⟨w.heap.size + 1, 2, none⟩ (.int .i64 c)
end Go.Proofs.YtfakohoamgogoaaGreatDoor

namespace Go.Proofs.YtfakohoamgogoaaGreatDoor
open Go.RowKit

/-- A row is found by its first code point. -/
theorem pat_row : ∀ {ps : List Uc.Pr}, Uc.Good ps → ∀ r ∈ ps, Uc.patOf ps r.a = r
  | [], _, _, h => by cases h
  | p :: ps, hg, r, hr => by
    have hp := List.pairwise_cons.1 hg.1
    rcases List.mem_cons.1 hr with rfl | hr'
    · have hf := hg.2 r (List.mem_cons_self ..)
      unfold Uc.patOf
      rw [List.find?_cons_of_pos (by simpa using hf.2.1)]
      rfl
    · have h1 := hp.1 r hr'
      have ih := pat_row (ps := ps) ⟨hp.2, fun s hs => hg.2 s (List.mem_cons_of_mem _ hs)⟩ r hr'
      unfold Uc.patOf at ih ⊢
      rw [List.find?_cons_of_neg (by simp; omega)]
      exact ih
end Go.Proofs.YtfakohoamgogoaaGreatDoor
