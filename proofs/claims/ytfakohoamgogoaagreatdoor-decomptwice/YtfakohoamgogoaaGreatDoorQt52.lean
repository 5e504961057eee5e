/- twice4: a law of stage 9 walked. -/
import Derived.Test.YtfakohoamgogoaaGreatDoorQt51
import Derived.Deep.RegionHeld3
import Derived.Deep.QuietTactic
import Derived.BigQuiet
namespace Go.Proofs.YtfakohoamgogoaaGreatDoor
open Go.RowKit Go.Shelf
attribute [local go_sem] Oper.semAt_some

def TwI (ps : List Uc.Pr) (Z : List Int) (w X : World) (b : Nat) (A : Option Addr) (nx kx : Nat) (s10 : Value) (wr : World) : Prop :=
  ∃ k : Nat, s10 = .int .i64 k ∧ k ≤ nx ∧ nx - k ≤ kx ∧ Hid (Vals wr A nx (nums .i64 Z) ∧ Below X.heap.size X wr ∧ Hd w wr b ps)
theorem lit_one (W : World) (x : Int) : Vals (W.alloc (.cells #[.int .i64 x] 3)) (some ⟨W.heap.size, 0, none⟩) 1 (nums .i64 [x]) := vals_lit W (nums .i64 [x]) 3
theorem vals_take {W : World} {A : Option Addr} {n r : Nat} {s : List Int} (h : Vals W A n (nums .i64 s)) (hr : r ≤ n) : Vals W A r (nums .i64 (s.take r)) := by
  have hl : s.length = n := by have := h.1; rwa [nlen] at this
  refine ⟨by rw [nlen, List.length_take]; omega, fun h0 => ?_⟩
  obtain ⟨b, off, e, hb, hc⟩ := h.2 (by omega)
  refine ⟨b, off, e, hb, fun j v hj => hc j v ?_⟩
  unfold nums at hj ⊢
  rw [List.map_take] at hj
  have hjr : j < r := by have := (List.getElem?_eq_some_iff.1 hj).1; rw [List.length_take] at this; omega
  rwa [List.getElem?_take_of_lt hjr] at hj
theorem vals_drop {W : World} {ad : Addr} {n r : Nat} {s : List Int} (h : Vals W (some ad) n (nums .i64 s)) (hr : r ≤ n) : Vals W (some (ad.add r)) (n - r) (nums .i64 (s.drop r)) := by
  have hl : s.length = n := by have := h.1; rwa [nlen] at this
  refine ⟨by rw [nlen, List.length_drop]; omega, fun h0 => ?_⟩
  obtain ⟨b, off, e, hb, hc⟩ := h.2 (by omega)
  cases e
  refine ⟨b, off + r, by unfold Addr.add; split <;> simp_all, hb, fun j v hj => ?_⟩
  rw [Nat.add_assoc]
  refine hc (r + j) v ?_
  unfold nums at hj ⊢
  rwa [List.map_drop, List.getElem?_drop] at hj

set_option maxRecDepth 100000 in
set_option maxHeartbeats 8000000 in
theorem twice4 (b0 b1 b2 b3 b4 b5 b6 : Option Addr) (n0 n1 n2 n3 n4 n5 n6 m0 m1 m2 m3 m4 m5 m6 : Nat) (f : Nat → List UInt8) (As : Option Addr) (ns cs : Nat) (s : List Int) (a1 : Int) (w : World) (h0 : Octs w b0 n0 (f 0)) (h1 : Octs w b1 n1 (f 1)) (h2 : Octs w b2 n2 (f 2)) (h3 : Octs w b3 n3 (f 3)) (h4 : Octs w b4 n4 (f 4)) (h5 : Octs w b5 n5 (f 5)) (h6 : Octs w b6 n6 (f 6))
    (l0 : n0 ≤ 1000000000000000) (l1 : n1 ≤ 1000000000000000) (l2 : n2 ≤ 1000000000000000) (l3 : n3 ≤ 1000000000000000) (l4 : n4 ≤ 1000000000000000) (l5 : n5 ≤ 1000000000000000) (l6 : n6 ≤ 1000000000000000) (hf7 : ∀ i, 7 ≤ i → f i = []) (hM : ML w) (hH : HanT w) (hs : Vals w As ns (nums .i64 s)) (hcp : ns ≤ cs ∧ (As = none → cs = 0)) :
    Calls Tryz.prog 4 #[.agg #[.slice b0 n0 m0, .slice b1 n1 m1, .slice b2 n2 m2, .slice b3 n3 m3, .slice b4 n4 m4, .slice b5 n5 m5, .slice b6 n6 m6], .slice As ns cs, .int .i64 a1] w fun e w' => e = .returned (.bool true) ∧ Below w.heap.size w w' := by
  have C7 : Hid (∀ W, BnB w W (.slice b0 n0 m0) (.slice b1 n1 m1) (.slice b2 n2 m2) (.slice b3 n3 m3) (.slice b4 n4 m4) (.slice b5 n5 m5) (.slice b6 n6 m6) → Calls Tryz.prog 7 #[] W fun e W' => e = .returned (.bool true) ∧ BnB w W' (.slice b0 n0 m0) (.slice b1 n1 m1) (.slice b2 n2 m2) (.slice b3 n3 m3) (.slice b4 n4 m4) (.slice b5 n5 m5) (.slice b6 n6 m6)) := Lib.hid (fun W hW => (awake7 W (ml_on hM hW.2) (hH.below hH.lt hW.2)).mono (by
    rintro e W' ⟨rfl, hb⟩
    exact ⟨rfl, hW.below hb⟩))
  have C8 : Hid (∀ W, BnB w W (.slice b0 n0 m0) (.slice b1 n1 m1) (.slice b2 n2 m2) (.slice b3 n3 m3) (.slice b4 n4 m4) (.slice b5 n5 m5) (.slice b6 n6 m6) → Calls Tryz.prog 8 #[.agg #[.slice b0 n0 m0, .slice b1 n1 m1, .slice b2 n2 m2, .slice b3 n3 m3, .slice b4 n4 m4, .slice b5 n5 m5, .slice b6 n6 m6]] W fun e W' => e = .returned (.bool (decide (n0 + n1 + n2 + n3 + n4 + n5 + n6 ≤ 3000))) ∧ BnB w W' (.slice b0 n0 m0) (.slice b1 n1 m1) (.slice b2 n2 m2) (.slice b3 n3 m3) (.slice b4 n4 m4) (.slice b5 n5 m5) (.slice b6 n6 m6)) := Lib.hid (fun W hW => (small8 b0 b1 b2 b3 b4 b5 b6 n0 n1 n2 n3 n4 n5 n6 m0 m1 m2 m3 m4 m5 m6 W l0 l1 l2 l3 l4 l5 l6).mono (by
    rintro e W' ⟨rfl, hb⟩
    exact ⟨rfl, hW.below hb⟩))
  have H1 := Lib.hid (bnb_new w (.slice b0 n0 m0) (.slice b1 n1 m1) (.slice b2 n2 m2) (.slice b3 n3 m3) (.slice b4 n4 m4) (.slice b5 n5 m5) (.slice b6 n6 m6))
  by_cases hsm : n0 + n1 + n2 + n3 + n4 + n5 + n6 ≤ 3000
  · rw [decide_eq_true hsm] at C8
    by_cases hln : ns ≤ 40
    · have hfl : ∀ i, (f i).length ≤ 3000 := by
        intro i
        rcases Nat.lt_or_ge i 7 with hi | hi
        · match i, hi with

          | 0, _ => have := h0.len; omega
          | 1, _ => have := h1.len; omega
          | 2, _ => have := h2.len; omega
          | 3, _ => have := h3.len; omega
          | 4, _ => have := h4.len; omega
          | 5, _ => have := h5.len; omega
          | 6, _ => have := h6.len; omega
        · rw [hf7 i hi]; simp
      have hlb : decide (40 < (ns : Int)) = false := decide_eq_false (by omega)
      have C9 : Hid (∀ W, BnB w W (.slice b0 n0 m0) (.slice b1 n1 m1) (.slice b2 n2 m2) (.slice b3 n3 m3) (.slice b4 n4 m4) (.slice b5 n5 m5) (.slice b6 n6 m6) → Calls Tryz.prog 21 #[.agg #[.slice b0 n0 m0, .slice b1 n1 m1, .slice b2 n2 m2, .slice b3 n3 m3, .slice b4 n4 m4, .slice b5 n5 m5, .slice b6 n6 m6]] W fun e W' => BnB w W' (.slice b0 n0 m0) (.slice b1 n1 m1) (.slice b2 n2 m2) (.slice b3 n3 m3) (.slice b4 n4 m4) (.slice b5 n5 m5) (.slice b6 n6 m6) ∧ LoadPost f W e W') := Lib.hid (fun W hW => (load29 b0 b1 b2 b3 b4 b5 b6 n0 n1 n2 n3 n4 n5 n6 m0 m1 m2 m3 m4 m5 m6 f W (h0.below hW.2) (h1.below hW.2) (h2.below hW.2) (h3.below hW.2) (h4.below hW.2) (h5.below hW.2) (h6.below hW.2) (by omega) (fun i => Nat.le_trans (hfl i) (by omega)) (ml_on hM hW.2) (hH.below hH.lt hW.2)).mono (fun e W' h => ⟨hW.below h.1, h⟩))
      by_cases hl : ∃ d, loadOf f = (⟨0, 0, 0⟩, some d)
      · obtain ⟨d, hl⟩ := hl
        have HF : Hid (Fit d.ps) := Lib.hid (load_fit hl (Nat.le_trans (hfl 0) (by omega)))
        have D9 : Hid (∀ W, BnB w W (.slice b0 n0 m0) (.slice b1 n1 m1) (.slice b2 n2 m2) (.slice b3 n3 m3) (.slice b4 n4 m4) (.slice b5 n5 m5) (.slice b6 n6 m6) → Calls Tryz.prog 21 #[.agg #[.slice b0 n0 m0, .slice b1 n1 m1, .slice b2 n2 m2, .slice b3 n3 m3, .slice b4 n4 m4, .slice b5 n5 m5, .slice b6 n6 m6]] W fun e W' => ∃ b, e = .returned (.tuple #[.pointer (some ⟨b, 0, none⟩), .agg #[.int .i64 0, .int .i64 0, .int .i64 0]]) ∧ Hid (Hd w W' b d.ps)) := Lib.hid (fun W hW => (C9.out W hW).mono (by
          rintro e W' ⟨hw, -, ⟨d', b, h, rfl, g1, g2, g3⟩ | ⟨x, h, rfl⟩⟩
          · rw [hl] at h
            injection h with _ h
            injection h with h
            subst h
            exact ⟨b, rfl, Lib.hid ⟨hw.2, ddr_pf g1⟩⟩
          · rw [hl] at h; injection h with _ h; cases h))
        have HS := Lib.hid hs
        have HCP := Lib.hid hcp
        have HN : Hid (s.length = ns ∧ ns ≤ 40) := Lib.hid ⟨by have := hs.1; rwa [nlen] at this, hln⟩
        obtain ⟨ps, hps⟩ : ∃ ps, d.ps = ps := ⟨_, rfl⟩
        rw [hps] at HF D9
        clear C9 hl hps hfl h0 h1 h2 h3 h4 h5 h6 l0 l1 l2 l3 l4 l5 l6 hf7 hM hH hs hcp hsm
        go_enter Tryz.func4, Tryz.ntmps4
        go_upto_region 6 with (first
          | (go_at_call 21; (with_reducible refine (D9.out _ H8.out).mono ?_); rintro e W9 ⟨b, rfl, H9⟩)
          | (go_at_call 7; (with_reducible refine (C7.out _ H1.out).mono ?_); rintro e W7 ⟨rfl, H7'⟩; have H7 := Lib.hid H7'; clear H7'; obtain ⟨⟨q0, q1, q2, q3, q4, q5, q6⟩, -⟩ := H7.out)
          | (go_at_call 8; (with_reducible refine (C8.out _ H7.out).mono ?_); rintro e W8 ⟨rfl, H8'⟩; have H8 := Lib.hid H8'; clear H8'; obtain ⟨⟨q0, q1, q2, q3, q4, q5, q6⟩, -⟩ := H8.out))
        have HX := Lib.hid (H9.out.on ((Below.refl _ _).alloc (Nat.le_refl _) (.cells #[.int .i64 0, .int .i64 0, .int .i64 0] 42)))
        obtain ⟨X, hX⟩ : ∃ z, W9.alloc (.cells #[.int .i64 0, .int .i64 0, .int .i64 0] 42) = z := ⟨_, rfl⟩
        rw [hX] at HX ⊢
        clear hX H9 H8 H7 H1 C7 C8 D9 q0 q1 q2 q3 q4 q5 q6
        have C17 : Hid (∀ W A n c (t : List Int), n ≤ 5000 → Vals W A n (nums .i64 t) → Hd w W b ps → Calls Tryz.prog 17 #[.pointer (some ⟨b, 0, none⟩), .slice A n c] W (ApO W (nfd ps t))) := Lib.hid (fun W A n c t hn hV h => nfd17 b ps A n c t W h.2 HF.out hV hn)
        have c17 := C17.out X As ns cs s (by have := HN.out; omega) (HS.out.below HX.out.1) HX.out
        obtain ⟨Z, hZ⟩ : ∃ Z, nfd ps s = Z := ⟨_, rfl⟩
        rw [hZ] at c17
        obtain ⟨nx, hnx⟩ : ∃ n, Z.length = n := ⟨_, rfl⟩
        have hnl : nx ≤ 480 := by
          have := HF.out.nlen s
          rw [hZ, hnx, HN.out.1] at this
          omega
        have hZZ : nfd ps Z = Z := by rw [← hZ]; exact HF.out.again s
        have d17 : Calls Tryz.prog 17 #[.pointer (some ⟨b, 0, none⟩), .slice As ns cs] X fun e W => ∃ A1 c1, e = .returned (.slice A1 nx c1) ∧ Hid (Below X.heap.size X W ∧ Hd w W b ps ∧ Vals W A1 nx (nums .i64 Z)) := c17.mono (by
          rintro e W ⟨A1, c1, rfl, h4, h5⟩
          rw [hnx] at h5 ⊢
          exact ⟨A1, c1, rfl, Lib.hid ⟨h4, HX.out.on h4, own_now h5.out⟩⟩)
        have E17 : Hid (∀ W A1 c1, (Below X.heap.size X W ∧ Hd w W b ps ∧ Vals W A1 nx (nums .i64 Z)) → Calls Tryz.prog 17 #[.pointer (some ⟨b, 0, none⟩), .slice A1 nx c1] W fun e W' => ∃ A2 c2, e = .returned (.slice A2 nx c2) ∧ Hid ((Below X.heap.size X W' ∧ Hd w W' b ps ∧ Vals W' A1 nx (nums .i64 Z)) ∧ Vals W' A2 nx (nums .i64 Z))) := Lib.hid (fun W A1 c1 ⟨g1, g2, g3⟩ => (C17.out W A1 nx c1 Z (by omega) g3 g2).mono (by
          rintro e W' ⟨A2, c2, rfl, h4, h5⟩
          rw [hZZ, hnx] at h5
          rw [hZZ, hnx]
          exact ⟨A2, c2, rfl, Lib.hid ⟨⟨g1.trans (h4.mono g1.size), g2.on h4, g3.below h4⟩, own_now h5.out⟩⟩))
        have E10 : Hid (∀ W A1 c1 A2 c2, ((Below X.heap.size X W ∧ Hd w W b ps ∧ Vals W A1 nx (nums .i64 Z)) ∧ Vals W A2 nx (nums .i64 Z)) → Calls Tryz.prog 10 #[.slice A2 nx c2, .slice A1 nx c1] W fun e W' => e = .returned (.bool true) ∧ Hid (Below X.heap.size X W' ∧ Hd w W' b ps ∧ Vals W' A1 nx (nums .i64 Z))) := Lib.hid (fun W A1 c1 A2 c2 ⟨⟨g1, g2, g3⟩, g4⟩ => (same17 A2 A1 nx c2 c1 Z W g4 g3 (by omega)).mono (by
          rintro e W' ⟨rfl, q, rfl⟩
          have hq : Below W.heap.size W (W.drewN q) := below_drewN (Below.refl _ _) q
          exact ⟨rfl, Lib.hid ⟨g1.trans (hq.mono g1.size), g2.on hq, g3.below hq⟩⟩))
        have E15 : Hid (∀ W A1 c1, (Below X.heap.size X W ∧ Hd w W b ps ∧ Vals W A1 nx (nums .i64 Z)) → Calls Tryz.prog 15 #[.pointer (some ⟨b, 0, none⟩), .slice A1 nx c1] W fun e W' => e = .returned (.bool true) ∧ Hid (Below X.heap.size X W' ∧ Hd w W' b ps ∧ Vals W' A1 nx (nums .i64 Z))) := Lib.hid (fun W A1 c1 ⟨g1, g2, g3⟩ => (inOrder15 b ps A1 nx c1 Z W g2.2 HF.out g3 (by omega)).mono (by
          rintro e W' ⟨rfl, hq⟩
          exact ⟨by rw [← hZ, HF.out.nin], Lib.hid ⟨g1.trans (hq.mono g1.size), g2.on hq, g3.below hq⟩⟩))
        have E19 : Hid (∀ W A1 c1, (Below X.heap.size X W ∧ Hd w W b ps ∧ Vals W A1 nx (nums .i64 Z)) → Calls Tryz.prog 19 #[.pointer (some ⟨b, 0, none⟩), .slice A1 nx c1] W fun e W' => e = .returned (.bool true) ∧ Hid (Below X.heap.size X W' ∧ Hd w W' b ps ∧ Vals W' A1 nx (nums .i64 Z))) := Lib.hid (fun W A1 c1 ⟨g1, g2, g3⟩ => (is19 b ps A1 nx c1 Z W g2.2 HF.out g3 (by omega)).mono (by
          rintro e W' ⟨rfl, hq⟩
          exact ⟨by rw [hZZ, decide_eq_true rfl], Lib.hid ⟨g1.trans (hq.mono g1.size), g2.on hq, g3.below hq⟩⟩))
        have HZ := Lib.hid (And.intro hZ hnx)
        clear c17 hZ hnx hZZ
        go_upto_region 9 with (first
          | (go_at_call 17; (with_reducible refine d17.mono ?_); rintro e W1 ⟨A1, c1, rfl, Y1⟩)
          | (go_at_call 17; (with_reducible refine (E17.out W1 A1 c1 Y1.out).mono ?_); rintro e W2 ⟨A2, c2, rfl, Y2⟩)
          | (go_at_call 10; (with_reducible refine (E10.out W2 A1 c1 A2 c2 Y2.out).mono ?_); rintro e W3 ⟨rfl, Y3⟩)
          | (go_at_call 15; (with_reducible refine (E15.out W3 A1 c1 Y3.out).mono ?_); rintro e W4 ⟨rfl, Y4⟩)
          | (go_at_call 19; (with_reducible refine (E19.out W4 A1 c1 Y4.out).mono ?_); rintro e W5 ⟨rfl, Y5⟩))
        clear d17 E17 E10 E15 E19 Y1 Y2 Y3 Y4
        go_wp2
        go_loopg [10] nx (fun kx s10 wr => TwI ps Z w X b A1 nx kx s10 wr)
        case atStart => exact ⟨0, rfl, Nat.zero_le _, by omega, Y5.out.2.2, Y5.out.1, Y5.out.2.1⟩
        case round =>
          clear Y5
          obtain ⟨k, rfl, hk, hkx, HI⟩ := hrel
          by_cases hlt : k < nx
          · obtain ⟨hI1, hI2, hI3⟩ := HI.out
            obtain ⟨x, hx⟩ : ∃ x, Z[k]? = some x := ⟨_, List.getElem?_eq_getElem (by have := HZ.out.2; omega)⟩
            have hfx : fl ps x = [x] := HF.out.nown (s := s) (by rw [HZ.out.1]; exact List.mem_of_getElem? hx)
            obtain ⟨b2, off, rfl, hbl, hc⟩ := hI1.2 (by omega)
            have hcx : wr.cell? ⟨b2, off + k, none⟩ = some (.int .i64 x) := hc k _ (by unfold nums; rw [List.getElem?_map, hx]; rfl)
            have hcd : wr.drew.cell? ⟨b2, off + k, none⟩ = some (.int .i64 x) := hcx
            have hca : ∀ o, (wr.alloc o).drew.cell? ⟨b2, off + k, none⟩ = some (.int .i64 x) := fun o => ((Below.refl _ _).alloc (Nat.le_refl _) o).cell (p := ⟨b2, off + k, none⟩) hbl |>.trans hcx
            have K11 : Hid (∀ V, Below wr.heap.size wr V → Calls Tryz.prog 11 #[.pointer (some ⟨b, 0, none⟩), .int .i64 x] V fun e W2 => ∃ A5 c5, e = .returned (.slice A5 1 c5) ∧ W2.cell? ⟨b2, off + k, none⟩ = some (.int .i64 x) ∧ (∀ o, (W2.alloc o).cell? ⟨b2, off + k, none⟩ = some (.int .i64 x)) ∧ Hid (Below V.heap.size V W2 ∧ Vals W2 A5 1 (nums .i64 [x]))) := Lib.hid (fun V hV => (full11 b ps x V (hI3.on hV).2 HF.out).mono (by
              rintro e W2 ⟨A5, c5, rfl, h4, h5⟩
              rw [hfx] at h5 ⊢
              have h6 := hV.trans (h4.mono hV.size)
              exact ⟨A5, c5, rfl, (h6.cell (p := ⟨b2, off + k, none⟩) hbl).trans hcx, fun o => ((h6.alloc h6.size o).cell (p := ⟨b2, off + k, none⟩) hbl).trans hcx, Lib.hid ⟨h4, own_now h5.out⟩⟩))
            have KR : Hid (∀ W, Below wr.heap.size wr W → TwI ps Z w X b (some ⟨b2, off, none⟩) nx (nx - (k + 1)) (.int .i64 (k + 1 : Nat)) W) := Lib.hid (fun W hW => ⟨k + 1, rfl, by omega, by omega, hI1.below hW, hI2.trans (hW.mono hI2.size), hI3.on hW⟩)
            have K10a : Hid (∀ W A5 c5, (Below wr.drew.heap.size wr.drew W ∧ Vals W A5 1 (nums .i64 [x])) → Calls Tryz.prog 10 #[.slice A5 1 c5, .slice (some ⟨W.heap.size, 0, none⟩) 1 1] (W.alloc (.cells #[.int .i64 x] 3)) fun e W' => e = .returned (.bool true) ∧ W'.cell? ⟨b2, off + k, none⟩ = some (.int .i64 x) ∧ Hid (Below wr.heap.size wr W')) := Lib.hid (fun W A5 c5 ⟨g1, g2⟩ => by
              have ha : Below W.heap.size W (W.alloc (.cells #[.int .i64 x] 3)) := (Below.refl _ _).alloc (Nat.le_refl _) _
              refine (same17 A5 _ 1 c5 1 [x] _ (g2.below ha) (lit_one W x) (by omega)).mono ?_
              rintro e W' ⟨rfl, q, rfl⟩
              have g3 : Below wr.heap.size wr W := ⟨g1.os, g1.tape, g1.output, g1.size, g1.block⟩
              have g4 := below_drewN (g3.trans (ha.mono g3.size)) q
              exact ⟨rfl, (g4.cell (p := ⟨b2, off + k, none⟩) hbl).trans hcx, Lib.hid g4⟩)
            have K10b : Hid (∀ W A5 c5, (Below (wr.alloc (.cells #[.int .i64 x] 3)).drew.heap.size (wr.alloc (.cells #[.int .i64 x] 3)).drew W ∧ Vals W A5 1 (nums .i64 [x])) → Calls Tryz.prog 10 #[.slice A5 1 c5, .slice (some ⟨wr.heap.size, 0, none⟩) 1 1] W fun e W' => e = .returned (.bool true) ∧ W'.cell? ⟨b2, off + k, none⟩ = some (.int .i64 x) ∧ Hid (Below wr.heap.size wr W')) := Lib.hid (fun W A5 c5 ⟨g1, g2⟩ => by
              have ha : Below wr.heap.size wr (wr.alloc (.cells #[.int .i64 x] 3)).drew := below_drew ((Below.refl _ _).alloc (Nat.le_refl _) _)
              have hv : Vals (wr.alloc (.cells #[.int .i64 x] 3)).drew (some ⟨wr.heap.size, 0, none⟩) 1 (nums .i64 [x]) := lit_one wr x
              refine (same17 A5 _ 1 c5 1 [x] _ g2 (hv.below g1) (by omega)).mono ?_
              rintro e W' ⟨rfl, q, rfl⟩
              have g4 := below_drewN (ha.trans (g1.mono ha.size)) q
              exact ⟨rfl, (g4.cell (p := ⟨b2, off + k, none⟩) hbl).trans hcx, Lib.hid g4⟩)
            have hb9 : decide (k < nx) = true := decide_eq_true hlt
            clear hc hx HI hI1 hI2 hI3 hbl hfx
            go_upto_region 12 with fail
            go_region_held3 (fun W => W.cell? ⟨b2, off + k, none⟩ = some (.int .i64 x))
              (first | exact hcd | exact hca _ | exact z1 | exact z2 _ | exact z3 | exact z4)
              (first
                | (go_simp; go_at_call 11; (with_reducible refine (K11.out _ (below_drew (Below.refl _ _))).mono ?_); rintro e W2 ⟨A5, c5, rfl, z1, z2, Y2⟩)
                | (go_simp; go_at_call 11; (with_reducible refine (K11.out _ (below_drew ((Below.refl _ _).alloc (Nat.le_refl _) _))).mono ?_); rintro e W2 ⟨A5, c5, rfl, z1, z2, Y2⟩)
                | (go_simp; go_at_call 10; (with_reducible refine (K10a.out W2 A5 c5 Y2.out).mono ?_); rintro e W3 ⟨rfl, z3, Y3⟩)
                | (go_simp; go_at_call 10; (with_reducible refine (K10b.out W2 A5 c5 Y2.out).mono ?_); rintro e W3 ⟨rfl, z4, Y3⟩))
            all_goals
              have HR := Lib.hid (KR.out _ Y3.out)
              clear KR K11 K10a K10b Y3 Y2 hcx hcd hca
              go_wp2
              go_roundg (nx - (k + 1))
              case measure => omega
              case rel => exact HR.out
          · obtain rfl : k = nx := by omega
            have hb9 : decide (k < k) = false := decide_eq_false hlt
            obtain ⟨r, hr⟩ : ∃ r, restOf a1 (ns + 1) = r := ⟨_, rfl⟩
            have hrn : r ≤ ns := by have := rest_lt (t := a1) (n := ns + 1) (by omega); omega
            have c22 := rest22 a1 (ns + 1) wr (by omega) (by omega)
            rw [hr, show ((ns + 1 : Nat) : Int) = (ns : Int) + 1 by omega] at c22
            obtain ⟨hcs, hnil⟩ := HCP.out
            obtain ⟨hI1, hI2, hI3⟩ := HI.out
            have hVs := (HS.out.below HX.out.1).below hI2
            have hVt : Vals wr As r (nums .i64 (s.take r)) := vals_take hVs hrn
            obtain ⟨P1, hP1⟩ : ∃ P, nfd ps (s.take r) = P := ⟨_, rfl⟩
            obtain ⟨P2, hP2⟩ : ∃ P, nfd ps (s.drop r) = P := ⟨_, rfl⟩
            obtain ⟨p1, hp1⟩ : ∃ p, P1.length = p := ⟨_, rfl⟩
            obtain ⟨p2, hp2⟩ : ∃ p, P2.length = p := ⟨_, rfl⟩
            have HP := Lib.hid (And.intro hP1 (And.intro hP2 (And.intro hp1 hp2)))
            have hp12 : p1 ≤ 480 ∧ p2 ≤ 480 := by
              have q1 := HF.out.nlen (s.take r)
              have q2 := HF.out.nlen (s.drop r)
              rw [hP1, hp1, List.length_take] at q1
              rw [hP2, hp2, List.length_drop] at q2
              have := HN.out
              omega
            obtain ⟨hp1b, hp2b⟩ := hp12
            have hPP : nfd ps (P1 ++ P2) = Z := by rw [← hP1, ← hP2, HF.out.parts, List.take_append_drop]; exact HZ.out.1
            have y1 : (0 : Int) ≤ (r : Int) := by omega
            have y2 : (r : Int) ≤ (ns : Int) := by omega
            have y3 : (r : Int) ≤ (cs : Int) := by omega
            have y4 : (ns : Int) ≤ (cs : Int) := by omega
            have y5 : (0 : Int) ≤ (cs : Int) := by omega
            go_upto_region 15 with (go_at_call 22; (with_reducible refine c22.mono ?_); rintro e w2 ⟨rfl, rfl⟩)
            have K17a : Hid (∀ V, Below wr.heap.size wr V → Calls Tryz.prog 17 #[.pointer (some ⟨b, 0, none⟩), .slice As r cs] V fun e W => ∃ A5 c5, e = .returned (.slice A5 p1 c5) ∧ Hid (Below V.heap.size V W ∧ Vals W A5 p1 (nums .i64 P1))) := Lib.hid (fun V hV => (C17.out V As r cs (s.take r) (by omega) (hVt.below hV) (hI3.on hV)).mono (by
              rintro e W ⟨A5, c5, rfl, h4, h5⟩
              rw [HP.out.1, HP.out.2.2.1] at h5
              rw [HP.out.1, HP.out.2.2.1]
              exact ⟨A5, c5, rfl, Lib.hid ⟨h4, own_now h5.out⟩⟩))
            have G1 : Hid (∀ W1 A5, (Below wr.drew.heap.size wr.drew W1 ∧ Vals W1 A5 p1 (nums .i64 P1)) → AppH wr (W1.alloc (.cells #[] 3)) (.slice (some ⟨W1.heap.size, 0, none⟩) 0 0) 0 [] A5 p1 P1) := Lib.hid (fun W1 A5 ⟨g1, g2⟩ => by
              have g3 : Below wr.heap.size wr W1 := ⟨g1.os, g1.tape, g1.output, g1.size, g1.block⟩
              have ha : Below W1.heap.size W1 (W1.alloc (.cells #[] 3)) := (Below.refl _ _).alloc (Nat.le_refl _) _
              exact ⟨own_empty W1 g3.size, g2.below ha, g3.trans (ha.mono g3.size)⟩)
            have G2 : Hid (∀ W1 A5, (Below (wr.alloc (.cells #[] 3)).drew.heap.size (wr.alloc (.cells #[] 3)).drew W1 ∧ Vals W1 A5 p1 (nums .i64 P1)) → AppH wr W1 (.slice (some ⟨wr.heap.size, 0, none⟩) 0 0) 0 [] A5 p1 P1) := Lib.hid (fun W1 A5 ⟨g1, g2⟩ => by
              have ha : Below wr.heap.size wr (wr.alloc (.cells #[] 3)).drew := below_drew ((Below.refl _ _).alloc (Nat.le_refl _) _)
              have ho : (wr.alloc (.cells #[] 3)).drew.ownsRow wr.heap.size 3 1 (.slice (some ⟨wr.heap.size, 0, none⟩) 0 0) 0 (nums .i64 []) := own_empty wr (Nat.le_refl _)
              exact ⟨own_below ho g1 (Nat.le_refl _), g2, ha.trans (g1.mono ha.size)⟩)
            have KB : ∀ V A6 c6 A m c (t : List Int), m ≤ 40 → Vals wr A m (nums .i64 t) → nfd ps t = P2 → AppR wr V A6 p1 c6 ([] ++ P1) → Calls Tryz.prog 17 #[.pointer (some ⟨b, 0, none⟩), .slice A m c] V fun e W => ∃ A7 c7, e = .returned (.slice A7 p2 c7) ∧ Hid (AppH wr W (.slice A6 p1 c6) p1 P1 A7 p2 P2) := fun V A6 c6 A m c t hm hv hn ⟨g1, g2⟩ => (C17.out V A m c t (by omega) (hv.below g2) (hI3.on g2)).mono (by
              rintro e W ⟨A7, c7, rfl, h4, h5⟩
              rw [hn, hp2] at h5
              rw [hn, hp2]
              exact ⟨A7, c7, rfl, Lib.hid ⟨own_below g1 h4 (Nat.le_refl _), own_now h5.out, g2.trans (h4.mono g2.size)⟩⟩)
            have KB1 : cs = r → Hid (∀ V A6 c6, AppR wr V A6 p1 c6 ([] ++ P1) → Calls Tryz.prog 17 #[.pointer (some ⟨b, 0, none⟩), .slice As 0 0] V fun e W => ∃ A7 c7, e = .returned (.slice A7 p2 c7) ∧ Hid (AppH wr W (.slice A6 p1 c6) p1 P1 A7 p2 P2)) := fun he => Lib.hid (fun V A6 c6 h => KB V A6 c6 As 0 0 (s.drop r) (by omega) ⟨by rw [nlen, List.length_drop, HN.out.1]; omega, fun h => absurd h (by omega)⟩ hP2 h)
            have KB2 : ∀ ad, As = some ad → Hid (∀ V A6 c6, AppR wr V A6 p1 c6 ([] ++ P1) → Calls Tryz.prog 17 #[.pointer (some ⟨b, 0, none⟩), .slice (some (ad.add r)) (ns - r) (cs - r)] V fun e W => ∃ A7 c7, e = .returned (.slice A7 p2 c7) ∧ Hid (AppH wr W (.slice A6 p1 c6) p1 P1 A7 p2 P2)) := fun ad he => Lib.hid (fun V A6 c6 h => KB V A6 c6 (some (ad.add r)) (ns - r) (cs - r) (s.drop r) (by omega) (vals_drop (he ▸ hVs) hrn) hP2 h)
            obtain ⟨pN, hpN⟩ : ∃ n, p1 + p2 = n := ⟨_, rfl⟩
            have K17c : Hid (∀ V A c, AppR wr V A pN c (P1 ++ P2) → Calls Tryz.prog 17 #[.pointer (some ⟨b, 0, none⟩), .slice A pN c] V fun e W => ∃ A9 c9, e = .returned (.slice A9 k c9) ∧ Hid (Vals W A9 k (nums .i64 Z) ∧ Vals W A1 k (nums .i64 Z) ∧ Below w.heap.size w W)) := Lib.hid (fun V A c ⟨g1, g2⟩ => (C17.out V A pN c (P1 ++ P2) (by omega) (own_now g1) (hI3.on g2)).mono (by
              rintro e W ⟨A9, c9, rfl, h4, h5⟩
              rw [hPP, HZ.out.2] at h5
              rw [hPP, HZ.out.2]
              exact ⟨A9, c9, rfl, Lib.hid ⟨own_now h5.out, (hI1.below g2).below h4, ((hI3.on g2).on h4).1⟩⟩))
            have K10c : Hid (∀ V A9 c9, (Vals V A9 k (nums .i64 Z) ∧ Vals V A1 k (nums .i64 Z) ∧ Below w.heap.size w V) → Calls Tryz.prog 10 #[.slice A9 k c9, .slice A1 k c1] V fun e W => e = .returned (.bool true) ∧ Hid (Below w.heap.size w W)) := Lib.hid (fun V A9 c9 ⟨g1, g2, g3⟩ => (same17 A9 A1 k c9 c1 Z V g1 g2 (by omega)).mono (by
              rintro e W ⟨rfl, q, rfl⟩
              exact ⟨rfl, Lib.hid (below_drewN g3 q)⟩))
            by_cases hcr : cs = r
            · have KC := KB1 hcr
              clear KB KB1 KB2
              obtain rfl : ns = cs := by omega
              subst hcr
              clear hnil hVs hVt hI1 hI2 hI3 hPP hP1 hP2 hp1 hp2 HI
              go_region_held3 (fun _ => True)
                (first | exact trivial)
                (first
                | (go_simp; go_at_call 17; (with_reducible refine (K17a.out _ (below_drew (Below.refl _ _))).mono ?_); rintro e W1 ⟨A5, c5, rfl, Y1⟩)
                | (go_simp; go_at_call 17; (with_reducible refine (K17a.out _ (below_drew ((Below.refl _ _).alloc (Nat.le_refl _) _))).mono ?_); rintro e W1 ⟨A5, c5, rfl, Y1⟩)
                | (refine step_app9 wr rfl (.tmp 81) (.tmp 86) rfl _ 0 [] rfl A5 p1 c5 P1 rfl (G1.out W1 A5 Y1.out) p1 (Nat.zero_add _) (by omega) ?_; intro A6 c6 W6 Y6)
                | (refine step_app9 wr rfl (.tmp 81) (.tmp 86) rfl _ 0 [] rfl A5 p1 c5 P1 rfl (G2.out W1 A5 Y1.out) p1 (Nat.zero_add _) (by omega) ?_; intro A6 c6 W6 Y6)
                | (go_simp; go_at_call 17; (with_reducible refine (KC.out W6 A6 c6 Y6.out).mono ?_); rintro e W7 ⟨A7, c7, rfl, Y7⟩)
                | (refine step_app9 wr rfl (.tmp 87) (.tmp 92) rfl _ p1 P1 rfl A7 p2 c7 P2 rfl Y7.out pN hpN (by omega) ?_; intro A8 c8 W8 Y8))
              all_goals
                clear K17a G1 G2 KC Y1 Y6 Y7
                go_wp2_with (first
                  | (go_at_call 17; (with_reducible refine (K17c.out W8 A8 c8 Y8.out).mono ?_); rintro e W9 ⟨A9, c9, rfl, Y9⟩)
                  | (go_at_call 10; (with_reducible refine (K10c.out W9 A9 c9 Y9.out).mono ?_); rintro e W10 ⟨rfl, Y10⟩))
                go_ret
                exact ⟨rfl, Y10.out⟩
            · obtain ⟨ad, rfl⟩ : ∃ ad, As = some ad := by
                cases As with
                | none => exact absurd (by have := hnil rfl; omega) hcr
                | some ad => exact ⟨ad, rfl⟩
              have KC := KB2 ad rfl
              clear KB KB1 KB2
              clear hnil hVs hVt hI1 hI2 hI3 hPP hP1 hP2 hp1 hp2 HI
              go_region_held3 (fun _ => True)
                (first | exact trivial)
                (first
                | (go_simp; go_at_call 17; (with_reducible refine (K17a.out _ (below_drew (Below.refl _ _))).mono ?_); rintro e W1 ⟨A5, c5, rfl, Y1⟩)
                | (go_simp; go_at_call 17; (with_reducible refine (K17a.out _ (below_drew ((Below.refl _ _).alloc (Nat.le_refl _) _))).mono ?_); rintro e W1 ⟨A5, c5, rfl, Y1⟩)
                | (refine step_app9 wr rfl (.tmp 81) (.tmp 86) rfl _ 0 [] rfl A5 p1 c5 P1 rfl (G1.out W1 A5 Y1.out) p1 (Nat.zero_add _) (by omega) ?_; intro A6 c6 W6 Y6)
                | (refine step_app9 wr rfl (.tmp 81) (.tmp 86) rfl _ 0 [] rfl A5 p1 c5 P1 rfl (G2.out W1 A5 Y1.out) p1 (Nat.zero_add _) (by omega) ?_; intro A6 c6 W6 Y6)
                | (go_simp; go_at_call 17; (with_reducible refine (KC.out W6 A6 c6 Y6.out).mono ?_); rintro e W7 ⟨A7, c7, rfl, Y7⟩)
                | (refine step_app9 wr rfl (.tmp 87) (.tmp 92) rfl _ p1 P1 rfl A7 p2 c7 P2 rfl Y7.out pN hpN (by omega) ?_; intro A8 c8 W8 Y8))
              all_goals
                clear K17a G1 G2 KC Y1 Y6 Y7
                go_wp2_with (first
                  | (go_at_call 17; (with_reducible refine (K17c.out W8 A8 c8 Y8.out).mono ?_); rintro e W9 ⟨A9, c9, rfl, Y9⟩)
                  | (go_at_call 10; (with_reducible refine (K10c.out W9 A9 c9 Y9.out).mono ?_); rintro e W10 ⟨rfl, Y10⟩))
                go_ret
                exact ⟨rfl, Y10.out⟩
      · rcases hlo : loadOf f with ⟨⟨vf, vl, ve⟩, _ | d⟩
        · have hve : ve ≠ 0 := (load_wrong hlo).1
          have hvb : (ve != 0) = true := bne_iff_ne.2 hve
          have D9 : Hid (∀ W, BnB w W (.slice b0 n0 m0) (.slice b1 n1 m1) (.slice b2 n2 m2) (.slice b3 n3 m3) (.slice b4 n4 m4) (.slice b5 n5 m5) (.slice b6 n6 m6) → Calls Tryz.prog 21 #[.agg #[.slice b0 n0 m0, .slice b1 n1 m1, .slice b2 n2 m2, .slice b3 n3 m3, .slice b4 n4 m4, .slice b5 n5 m5, .slice b6 n6 m6]] W fun e W' => e = .returned (.tuple #[.pointer none, .agg #[.int .i64 vf, .int .i64 vl, .int .i64 ve]]) ∧ Hid (Below w.heap.size w W')) := Lib.hid (fun W hW => (C9.out W hW).mono (by
            rintro e W' ⟨hw, -, ⟨d', b, h, rfl, g1, g2, g3⟩ | ⟨x, h, rfl⟩⟩
            · rw [hlo] at h; injection h with _ h; cases h
            · rw [hlo] at h; injection h with h _; subst h; exact ⟨rfl, Lib.hid hw.2⟩))
          have HB : Hid (∀ W o, Below w.heap.size w W → Below w.heap.size w (W.alloc o)) := Lib.hid (fun W o h => h.trans ((Below.refl _ _).alloc h.size _))
          clear C9 hl hlo hfl h0 h1 h2 h3 h4 h5 h6 l0 l1 l2 l3 l4 l5 l6 hf7 hM hH hs hcp hsm hve
          go_enter Tryz.func4, Tryz.ntmps4
          go_wp2_with (first
            | (go_at_call 21; (with_reducible refine (D9.out _ H8.out).mono ?_); rintro e W9 ⟨rfl, H9⟩)
            | (go_at_call 7; (with_reducible refine (C7.out _ H1.out).mono ?_); rintro e W7 ⟨rfl, H7'⟩; have H7 := Lib.hid H7'; clear H7'; obtain ⟨⟨q0, q1, q2, q3, q4, q5, q6⟩, -⟩ := H7.out)
            | (go_at_call 8; (with_reducible refine (C8.out _ H7.out).mono ?_); rintro e W8 ⟨rfl, H8'⟩; have H8 := Lib.hid H8'; clear H8'; obtain ⟨⟨q0, q1, q2, q3, q4, q5, q6⟩, -⟩ := H8.out))
          go_ret
          exact ⟨rfl, HB.out _ _ H9.out⟩
        · exact absurd ⟨d, by rw [hlo, load_zero hlo]⟩ hl
    · have hlb : decide (40 < (ns : Int)) = true := decide_eq_true (by omega)
      clear h0 h1 h2 h3 h4 h5 h6 l0 l1 l2 l3 l4 l5 l6 hf7 hM hH hs hcp hsm
      go_enter Tryz.func4, Tryz.ntmps4
      go_wp2_with (first
        | (go_at_call 7; (with_reducible refine (C7.out _ H8.out).mono ?_); rintro e W9 ⟨rfl, H9'⟩; have H9 := Lib.hid H9'; clear H9')
        | (go_at_call 7; (with_reducible refine (C7.out _ H1.out).mono ?_); rintro e W7 ⟨rfl, H7'⟩; have H7 := Lib.hid H7'; clear H7'; obtain ⟨⟨q0, q1, q2, q3, q4, q5, q6⟩, -⟩ := H7.out)
        | (go_at_call 8; (with_reducible refine (C8.out _ H7.out).mono ?_); rintro e W8 ⟨rfl, H8'⟩; have H8 := Lib.hid H8'; clear H8'; obtain ⟨⟨q0, q1, q2, q3, q4, q5, q6⟩, -⟩ := H8.out))
      go_ret
      exact ⟨rfl, H9.out.2⟩
  · rw [decide_eq_false hsm] at C8
    clear h0 h1 h2 h3 h4 h5 h6 l0 l1 l2 l3 l4 l5 l6 hf7 hM hH hs hcp hsm
    go_enter Tryz.func4, Tryz.ntmps4
    go_wp2_with (first
      | (go_at_call 7; (with_reducible refine (C7.out _ H8.out).mono ?_); rintro e W9 ⟨rfl, H9'⟩; have H9 := Lib.hid H9'; clear H9')
      | (go_at_call 7; (with_reducible refine (C7.out _ H1.out).mono ?_); rintro e W7 ⟨rfl, H7'⟩; have H7 := Lib.hid H7'; clear H7'; obtain ⟨⟨q0, q1, q2, q3, q4, q5, q6⟩, -⟩ := H7.out)
      | (go_at_call 8; (with_reducible refine (C8.out _ H7.out).mono ?_); rintro e W8 ⟨rfl, H8'⟩; have H8 := Lib.hid H8'; clear H8'; obtain ⟨⟨q0, q1, q2, q3, q4, q5, q6⟩, -⟩ := H8.out))
    go_ret
    exact ⟨rfl, H9.out.2⟩
end Go.Proofs.YtfakohoamgogoaaGreatDoor
