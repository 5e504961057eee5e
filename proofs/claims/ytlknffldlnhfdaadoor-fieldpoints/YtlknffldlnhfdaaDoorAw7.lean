/- The document's examples hold: the statements' own first test. -/
import Derived.Test.YtlknffldlnhfdaaDoorAwake
namespace Go.Proofs.YtlknffldlnhfdaaDoor
open Go.RowKit Go.Shelf
attribute [local go_sem] Oper.semAt_some

set_option maxRecDepth 100000 in
set_option maxHeartbeats 4000000 in
theorem awake7 (w : World) (hM : ML w) : Calls Tryd.prog 7 #[] w fun e w' => e = .returned (.bool true) ∧ Below w.heap.size w w' := by
  have c13 : CallsIn Fence.wide 7 Tryd.prog 13 #[.string ⟨#[48, 48, 52, 49, 46, 46, 48, 48, 53, 65]⟩] w fun e w' => e = .returned (.tuple #[.int .i64 65, .int .i64 90, .int .i64 0]) ∧ Below w.heap.size w w' := by
    obtain ⟨mm, hmm⟩ := hM
    have c := range13 [48, 48, 52, 49, 46, 46, 48, 48, 53, 65] mm w (by decide) hmm
    rw [exRange] at c
    refine callsIn_wide.2 (c.mono ?_)
    rintro e w' ⟨rfl, q, rfl⟩
    exact ⟨rfl, below_drewN (Below.refl _ _) q⟩
  have h0w : 0 < w.heap.size := by obtain ⟨mm, hmm⟩ := hM; exact World.block_lt_of_cell? w _ hmm
  have HM := Lib.hid hM
  clear hM
  refine (callsIn_wide (n := 8)).1 ?_
  refine callsIn_of_wp_marks Tryd.func7 rfl trivial ?_ rfl
  simp only [Tryd.ntmps7, List.size_toArray, List.length_nil, Nat.reduceSub, Array.replicate_succ, Array.replicate_zero, List.push_toArray, List.append_toArray, List.nil_append, List.cons_append]
  gi_wp2_with (refine ⟨trivial, ?_⟩; gi_at_call 13; (with_reducible refine c13.mono ?_); rintro e w1 ⟨rfl, hb1⟩)
  have kc := Lib.run_convert_bytes_const (P := Tryd.prog) (w1.alloc (.cells #[.int .i64 0] 3)) 22 5 #[.int .u8 48, .int .u8 48, .int .u8 52, .int .u8 49, .int .u8 46, .int .u8 46, .int .u8 48, .int .u8 48, .int .u8 53, .int .u8 65, .int .u8 32, .int .u8 59, .int .u8 32, .int .u8 80, .int .u8 86, .int .u8 65, .int .u8 76, .int .u8 73, .int .u8 68, .int .u8 32, .int .u8 35, .int .u8 32, .int .u8 108, .int .u8 101, .int .u8 116, .int .u8 116, .int .u8 101, .int .u8 114, .int .u8 115, .int .u8 10] 30 30 Tryd.underlying22 Tryd.underlying5
  have hO := exOcts (w1.alloc (.cells #[.int .i64 0] 3)) (30, 31)
  have hsz : (#[.int .u8 48, .int .u8 48, .int .u8 52, .int .u8 49, .int .u8 46, .int .u8 46, .int .u8 48, .int .u8 48, .int .u8 53, .int .u8 65, .int .u8 32, .int .u8 59, .int .u8 32, .int .u8 80, .int .u8 86, .int .u8 65, .int .u8 76, .int .u8 73, .int .u8 68, .int .u8 32, .int .u8 35, .int .u8 32, .int .u8 108, .int .u8 101, .int .u8 116, .int .u8 116, .int .u8 101, .int .u8 114, .int .u8 115, .int .u8 10] : Array Value).size = 30 := rfl
  rw [World.size_alloc] at kc hO
  rw [hsz] at kc
  clear hsz
  generalize (#[.int .u8 48, .int .u8 48, .int .u8 52, .int .u8 49, .int .u8 46, .int .u8 46, .int .u8 48, .int .u8 48, .int .u8 53, .int .u8 65, .int .u8 32, .int .u8 59, .int .u8 32, .int .u8 80, .int .u8 86, .int .u8 65, .int .u8 76, .int .u8 73, .int .u8 68, .int .u8 32, .int .u8 35, .int .u8 32, .int .u8 108, .int .u8 101, .int .u8 116, .int .u8 116, .int .u8 101, .int .u8 114, .int .u8 115, .int .u8 10] : Array Value) = C at kc hO ⊢
  have b3 : Below w1.heap.size w1 ((w1.alloc (.cells #[.int .i64 0] 3)).alloc (.cells C 5 (30, 31))) := ((Below.refl _ _).alloc (Nat.le_refl _) _).alloc (by simp) _
  have hcn : ((w1.alloc (.cells #[.int .i64 0] 3)).alloc (.cells C 5 (30, 31))).cell? ⟨w1.heap.size, 0, none⟩ = some (.int .i64 0) := by
    rw [World.cell?_alloc_lt _ _ _ (by simp)]
    simp
  have hfn : ((w1.alloc (.cells #[.int .i64 0] 3)).alloc (.cells C 5 (30, 31))).frozen? ⟨w1.heap.size, 0, none⟩ = false := by
    rw [World.frozen?_alloc_past _ _ _ (by simp)]
    exact frozen_new w1 _ _ _
  have hs3 : ((w1.alloc (.cells #[.int .i64 0] 3)).alloc (.cells C 5 (30, 31))).heap.size = w1.heap.size + 2 := by simp
  have hM3 := (HM.out.below hb1).below b3
  have c9 := callsIn_wide (n := 7) |>.2 (lines9 (some ⟨w1.heap.size + 1, 0, none⟩) 30 30 exOct _ hO (by omega))
  generalize (w1.alloc (.cells #[.int .i64 0] 3)).alloc (.cells C 5 (30, 31)) = W3 at kc hO b3 hcn hfn hs3 hM3 c9
  have HS3 := Lib.hid hs3
  clear hs3
  rw [kc]
  clear kc
  gi_wp2_with (refine ⟨trivial, ?_⟩; gi_at_call 9; (with_reducible refine c9.mono ?_); rintro e W4 ⟨hb4, B, P, ca, rfl, hB1, hB2, hBc, hOP, hca, hPn, hPb⟩; have h1 := Lib.hid hOP; have h2 := Lib.hid hPn; have h3 := Lib.hid hPb; clear hOP hPn hPb)
  have hs3 := HS3.out
  have hs4 := hb4.size
  have hq := iter23 7 B 30 ca W3.heap.size P exOct W4 (by omega) (by omega) hB1 hB2 hBc h1.out h3.out (hM3.below hb4) h2.out hca
  have h0 : AwI w w1.heap.size [] W4 := ⟨⟨(hb4.cell (p := ⟨w1.heap.size, 0, none⟩) (by show w1.heap.size < _; omega)).trans hcn, (hb4.frozen (p := ⟨w1.heap.size, 0, none⟩) (by show w1.heap.size < _; omega)).trans hfn⟩, hb1.trans ((b3.trans (hb4.mono b3.size)).mono hb1.size)⟩
  have hw1 := hb1.size
  have HQ := Lib.hid hq
  have H0 := Lib.hid h0
  have HL : Hid (W3.heap.size ≤ W4.heap.size ∧ w.heap.size ≤ W4.heap.size ∧ w1.heap.size < W3.heap.size) := Lib.hid ⟨hs4, by omega, by omega⟩
  clear hq h0 hs3 hs4 hcn hfn hBc hb4 b3 hM3 hO c9 HS3
  refine range_own2 rfl (by omega) rfl trivial (enters_of Tryd.func23 (by kernel_rfl) rfl) HQ.out (Nat.zero_le _) (.inr HL.out.1) (.inr (by have := HL.out.1; omega)) (fun _ => rfl) (fun x => lnRd_abide x _)
    (AwI w w1.heap.size) (fun _ _ _ => False) (awI_abide _ _ _ HL.out.2.1) (fun _ => Abide.pure _ _ _ _) H0.out LnBox (fun x b => lnBox_abide x b _) ?a1 ?assign ?body ?done ?stop
  case assign =>
    rintro l pre x W K hi hr hK
    simp only [lnVal]
    gi_wp2
    obtain ⟨b, hb⟩ : ∃ b, W.heap.size = b := ⟨_, rfl⟩
    rw [hb]
    refine hK b _ (Kept.alloc _ _) ((awI_abide _ _ _ (Nat.le_refl _)).alloc _ hi) ((lnRd_abide x 0).alloc (s := ()) _ hr) ?_
    rw [← hb]
    exact lnBox_new x W
  case body =>
    rintro l pre ⟨num, Af, fs⟩ b W hi hr ⟨hb1, hb2⟩ hlen
    have hcn := hi.1.1
    have hfn := hi.1.2
    have hcl := cnt_le pre
    have hbn : w.heap.size ≤ w1.heap.size := hw1
    obtain ⟨N, hN⟩ : ∃ N, cnt pre = N := ⟨_, rfl⟩
    have hyes := fun hg => @aw_yes w W w1.heap.size W3.heap.size pre (num, Af, fs) hi hg hbn (by omega) HL.out.2.2
    have hno := fun hg => @aw_no w W w1.heap.size W3.heap.size pre (num, Af, fs) hi hg
    rw [hN] at hcn hcl hyes
    have HY := Lib.hid hyes
    have HNO := Lib.hid hno
    have hfl : fs.length = fs.length := rfl
    simp only at hb1 hb2
    by_cases g1 : num = 1
    · subst g1
      by_cases g2 : fs.length = 2
      · obtain ⟨fb, off, hAf, -, hc⟩ := hr.1.2 (by show 0 < fs.length; omega)
        have hAf : Af = some ⟨fb, off, none⟩ := hAf
        subst hAf
        have hc1 := hc 1 _ (strs_get (by show 1 < fs.length; omega))
        replace hc1 : W.cell? ⟨fb, off + 1, none⟩ = some (.string (bs (fs.getD 1 []))) := hc1
        rw [g2] at hb2
        by_cases g3 : fs.getD 1 [] = pval
        · have hg : good (view ((1, some ⟨fb, off, none⟩, fs) : LnV)) = true := by
            show (decide ((1 : Int) = 1) && (decide (fs.length = 2) && decide (fs.getD 1 [] = pval))) = true
            rw [decide_eq_true g2, decide_eq_true g3]
            rfl
          rw [g3] at hc1
          replace hc1 : W.cell? ⟨fb, off + 1, none⟩ = some (.string ⟨#[80, 86, 65, 76, 73, 68]⟩) := hc1
          have R := Lib.hid (HY.out hg)
          clear hg g3 hyes hno HY HNO hc hr hi hN g2 hfl
          gi_wp2
          exact R.out
        · have hg : good (view ((1, some ⟨fb, off, none⟩, fs) : LnV)) = false := by
            show (decide ((1 : Int) = 1) && (decide (fs.length = 2) && decide (fs.getD 1 [] = pval))) = false
            rw [decide_eq_true g2, decide_eq_false g3]
            rfl
          have hne : ¬ (bs (fs.getD 1 [])).toList = [80, 86, 65, 76, 73, 68] := by
            rw [bs_toList]
            exact g3
          have R := Lib.hid (HNO.out hg)
          obtain ⟨S, hS⟩ : ∃ S, bs (fs.getD 1 []) = S := ⟨_, rfl⟩
          rw [hS] at hc1 hne
          have hneb : (S.toList == [80, 86, 65, 76, 73, 68]) = false := beq_false_of_ne hne
          clear hg g3 hyes hno HY HNO hc hr hi hN g2 hfl hS
          gi_wp2
          exact R.out
      · have hg : good (view ((1, Af, fs) : LnV)) = false := by simp [good, view, g2]
        have R := Lib.hid (HNO.out hg)
        obtain ⟨L, hL⟩ : ∃ L, fs.length = L := ⟨_, rfl⟩
        rw [hL] at hb2 g2
        have g2b : ((L : Int) == 2) = false := beq_false_of_ne (by omega)
        clear hg hyes hno HY HNO hr hi hN hfl hL
        gi_wp2
        exact R.out
    · have hg : good (view ((num, Af, fs) : LnV)) = false := by simp [good, view, g1]
      have R := Lib.hid (HNO.out hg)
      have g1b : (num == 1) = false := beq_false_of_ne g1
      clear hg hyes hno HY HNO hr hi hN hfl
      gi_wp2
      exact R.out
  case done =>
    rintro D xs W hD hxs hi hKD
    have hcn := hi.1.1
    rw [cnt_ex hxs] at hcn
    have hbel : Hid (Below w.heap.size w (W.putObj D (.deferred none))) := Lib.hid (hi.2.trans (belowK_b (w := w) (Nat.le_refl _) W D _ _ (Nat.le_trans HL.out.2.1 hD) hKD rfl rfl))
    clear hi hxs
    gi_wp2
    exact leave7 rfl hKD ⟨rfl, hbel.out⟩
  case stop =>
    rintro D c pre W _ _ h _
    exact h.elim
end Go.Proofs.YtlknffldlnhfdaaDoor
