/- For any octets and any small number the statement FieldLines answers true: Lines shows each line that has fields, with its number, however early who asks leaves off. Conditions: those of the row itself (the two tables of unicode/utf8 hold what Go's text lays in them; the card ties that to the text). -/
import Derived.Test.YtlknffldlnhfdaaDoorCards
import Derived.Test.YtlknffldlnhfdaaDoorTie
import Derived.Test.YtlknffldlnhfdaaDoorLaid
import Derived.Test.YtlknffldlnhfdaaDoorLoop
import Derived.Test.YtlknffldlnhfdaaDoorQuietin
namespace Go.Proofs.YtlknffldlnhfdaaDoor.fieldLines
open Go.ChangeShapes Go.WideShapes Go.ChangeAt Go.RowKit Go.Shelf
attribute [local go_sem] Oper.semAt_some
attribute [local go_sem] round_fn
attribute [local simp] round_fn

/-- The two boxes that the statement lays first, in whatever world comes later. -/
def Boxes (w : World) (most : Nat) (W : World) : Prop :=
  Below w.heap.size w W ∧ W.cell? ⟨w.heap.size, 0, none⟩ = some (.int .u8 most) ∧ W.cell? ⟨w.heap.size + 1, 0, none⟩ = some (.bool false) ∧ W.frozen? ⟨w.heap.size + 1, 0, none⟩ = false ∧ w.heap.size + 1 < W.heap.size
theorem boxes_first (w : World) (most : Nat) : Boxes w most ((w.alloc (.cells #[.int .u8 most] 5)).alloc (.cells #[.bool false] 4)) := by
  refine ⟨((Below.refl _ w).alloc (Nat.le_refl _) _).alloc (by simp) _, ?_, ?_, ?_, by simp⟩
  · simp
  · simp
  · have := frozen_new (w.alloc (.cells #[.int .u8 most] 5)) #[.bool false] 4 0
    rwa [World.size_alloc] at this
theorem Boxes.below {w : World} {most : Nat} {W W' : World} (h : Boxes w most W) (hb : Below W.heap.size W W') : Boxes w most W' := by
  obtain ⟨h1, h2, h3, h4, h5⟩ := h
  exact ⟨h1.trans (hb.mono h1.size), (hb.cell (p := ⟨w.heap.size, 0, none⟩) (by show w.heap.size < _; omega)).trans h2, (hb.cell (p := ⟨w.heap.size + 1, 0, none⟩) h5).trans h3, (hb.frozen (p := ⟨w.heap.size + 1, 0, none⟩) h5).trans h4, Nat.lt_of_lt_of_le h5 hb.size⟩
theorem leave {w Wf : World} {D : Nat} {tmps : Array Value} {m : Nat} (ht : tmps[4]?.getD undef = .pointer (some ⟨w.heap.size + 1, 0, none⟩)) (hk : Wf.heap[D]? = some (.deferred (some []))) (hd : w.heap.size ≤ D)
    (hr : Wf.cell? ⟨w.heap.size + 1, 0, none⟩ = some (.bool true)) (hb : Below w.heap.size w Wf) :
    LeavesInM Fence.wide m Tryd.prog Tryd.f3 tmps (fun e w' => e = .returned (.bool true) ∧ Below w.heap.size w w') [{ target := .collected D, args := #[] }] .returning Wf := by
  refine ⟨by simp, .inl ⟨_, _, rfl, run_takeDeferred hk, ?_⟩⟩
  have h1 := cell_kept hr (grownBy_putObj' _ D (.deferred none)) (fun r e => by cases e; exact ⟨_, hk, rfl⟩)
  refine ⟨.bool true, ?_, rfl, hb.trans (belowK_b (w := w) (Nat.le_refl _) _ D _ _ hd hk rfl rfl)⟩
  simp [results, Tryd.results3, go_sem, h1, ht]
theorem leave0 {w Wf : World} {tmps : Array Value} {m : Nat} (ht : tmps[4]?.getD undef = .pointer (some ⟨w.heap.size + 1, 0, none⟩)) (hr : Wf.cell? ⟨w.heap.size + 1, 0, none⟩ = some (.bool true)) (hb : Below w.heap.size w Wf) :
    LeavesInM Fence.wide m Tryd.prog Tryd.f3 tmps (fun e w' => e = .returned (.bool true) ∧ Below w.heap.size w w') [] .returning Wf := by
  refine ⟨.bool true, ?_, rfl, hb⟩
  simp [results, Tryd.results3, go_sem, hr, ht]

set_option maxRecDepth 100000 in
set_option maxHeartbeats 1000000 in
theorem walk_long (a0 : Option Addr) (len0 cap0 most : Nat) (w : World) (hM : ML w) (h : 800 < len0) :
    Calls Tryd.prog 3 #[.slice a0 len0 cap0, .int .u8 most] w fun e w' => e = .returned (.bool true) ∧ Below w.heap.size w w' := by
  have BB := boxes_first w most
  have hM0 := hM.below BB.1
  have c7 := callsIn_wide (n := 8) |>.2 (awake7 ((w.alloc (.cells #[.int .u8 most] 5)).alloc (.cells #[.bool false] 4)) hM0)
  have HB := Lib.hid BB
  have MM := Lib.hid hM0
  clear BB hM hM0
  refine (callsIn_wide (n := 9)).1 ?_
  refine callsIn_of_wp_marks Tryd.func3 rfl trivial ?_ rfl
  simp only [Tryd.ntmps3, List.size_toArray, List.length_cons, List.length_nil, Nat.reduceAdd, Nat.reduceSub, Array.replicate_succ, Array.replicate_zero, List.push_toArray, List.append_toArray, List.nil_append, List.cons_append]
  gi_wp2_with (refine ⟨trivial, ?_⟩; gi_at_call 7; (with_reducible refine c7.mono ?_); rintro e w1 ⟨rfl, hb1⟩)
  have HB1 := Lib.hid (HB.out.below hb1)
  have MM1 := Lib.hid (MM.out.below hb1)
  clear c7 hb1 HB MM
  have c7 := callsIn_wide (n := 8) |>.2 (awake7 w1 MM1.out)
  gi_wp2_with (refine ⟨trivial, ?_⟩; gi_at_call 7; (with_reducible refine c7.mono ?_); rintro e w2 ⟨rfl, hb2⟩; have HB2 := Lib.hid (HB1.out.below hb2); have r2 := HB2.out.2.2.1; have f2 := HB2.out.2.2.2.1)
  exact leave0 rfl (World.cell?_setCell_same' _ _ _ (by rw [r2]; rfl)) (HB2.out.1.setCell (p := ⟨w.heap.size + 1, 0, none⟩) (by simp) _)

set_option maxRecDepth 100000 in
set_option maxHeartbeats 4000000 in
theorem walk_short (a0 : Option Addr) (len0 cap0 most : Nat) (l : List UInt8) (w : World) (hM : ML w) (hO : Octs w a0 len0 l) (h : len0 ≤ 800) (hm : most < 256) :
    Calls Tryd.prog 3 #[.slice a0 len0 cap0, .int .u8 most] w fun e w' => e = .returned (.bool true) ∧ Below w.heap.size w w' := by
  have BB := boxes_first w most
  have hM0 := hM.below BB.1
  have hl := hO.len
  have h0w : 0 < w.heap.size := by obtain ⟨mm, hmm⟩ := hM; exact World.block_lt_of_cell? w _ hmm
  have c7 := callsIn_wide (n := 8) |>.2 (awake7 ((w.alloc (.cells #[.int .u8 most] 5)).alloc (.cells #[.bool false] 4)) hM0)
  have HB := Lib.hid BB
  have MM := Lib.hid hM0
  have OO := Lib.hid (hO.below BB.1)
  have HLN := Lib.hid hl
  clear BB hM hM0 hO hl
  refine (callsIn_wide (n := 9)).1 ?_
  refine callsIn_of_wp_marks Tryd.func3 rfl trivial ?_ rfl
  simp only [Tryd.ntmps3, List.size_toArray, List.length_cons, List.length_nil, Nat.reduceAdd, Nat.reduceSub, Array.replicate_succ, Array.replicate_zero, List.push_toArray, List.append_toArray, List.nil_append, List.cons_append]
  gi_wp2_with (refine ⟨trivial, ?_⟩; gi_at_call 7; (with_reducible refine c7.mono ?_); rintro e w1 ⟨rfl, hb1⟩; have hconv := conv22 cap0 (OO.out.below hb1))
  have HB1 := Lib.hid (HB.out.below hb1)
  have MM1 := Lib.hid (MM.out.below hb1)
  have OO1 := Lib.hid (OO.out.below hb1)
  clear c7 hb1 HB MM OO
  have c8 := callsIn_wide (n := 8) |>.2 (lines8 l w1 (by rw [HLN.out]; omega))
  gi_wp2_with (refine ⟨trivial, ?_⟩; gi_at_call 8; (with_reducible refine c8.mono ?_); rintro e w2 ⟨hb2, A, ca, rfl, hca, hLA⟩)
  have hwl : (linesIn l).length ≤ 1000 := by
    rw [← lines_pieces]
    have h1 := List.length_filterMap_le lineOf (numbered 1 (pieces l))
    rw [numbered_length] at h1
    have h2 := pieces_length l
    have h3 := HLN.out
    omega
  have HB2 := Lib.hid (HB1.out.below hb2)
  have MM2 := Lib.hid (MM1.out.below hb2)
  have OO2 := Lib.hid (OO1.out.below hb2)
  clear c8 HB1 MM1 OO1 hconv
  have hwant : Hid (linesIn l = linesIn l) := Lib.hid rfl
  obtain ⟨want, hwt⟩ : ∃ want, linesIn l = want := ⟨_, rfl⟩
  rw [hwt] at hca hLA hwl ⊢
  have HWT := Lib.hid hwt
  clear hwt hwant
  obtain ⟨N, hN⟩ : ∃ N, want.length = N := ⟨_, rfl⟩
  rw [hN] at hca hLA hwl ⊢
  have HN := Lib.hid hN
  clear hN
  have b3 : Below w2.heap.size w2 ((w2.alloc (.cells #[.slice A N ca] 24)).alloc (.cells #[.int .i64 0] 3)) := ((Below.refl _ _).alloc (Nat.le_refl _) _).alloc (by simp) _
  have hcw : ((w2.alloc (.cells #[.slice A N ca] 24)).alloc (.cells #[.int .i64 0] 3)).cell? ⟨w2.heap.size, 0, none⟩ = some (.slice A N ca) := by simp
  have hcn : ((w2.alloc (.cells #[.slice A N ca] 24)).alloc (.cells #[.int .i64 0] 3)).cell? ⟨w2.heap.size + 1, 0, none⟩ = some (.int .i64 0) := by simp
  have hfn : ((w2.alloc (.cells #[.slice A N ca] 24)).alloc (.cells #[.int .i64 0] 3)).frozen? ⟨w2.heap.size + 1, 0, none⟩ = false := by
    have := frozen_new (w2.alloc (.cells #[.slice A N ca] 24)) #[.int .i64 0] 3 0
    rwa [World.size_alloc] at this
  have hs3 : ((w2.alloc (.cells #[.slice A N ca] 24)).alloc (.cells #[.int .i64 0] 3)).heap.size = w2.heap.size + 2 := by simp
  have c9 := callsIn_wide (n := 8) |>.2 (lines9 a0 len0 cap0 l _ (OO2.out.below b3) (by omega))
  have hM3 := MM2.out.below b3
  generalize (w2.alloc (.cells #[.slice A N ca] 24)).alloc (.cells #[.int .i64 0] 3) = W3 at b3 hcw hcn hfn hs3 c9 hM3 ⊢
  have HS3 := Lib.hid hs3
  have HLA := Lib.hid hLA
  clear hs3 hLA
  gi_wp2_with (refine ⟨trivial, ?_⟩; gi_at_call 9; (with_reducible refine c9.mono ?_); rintro e W4 ⟨hb4, B, P, cb, rfl, hB1, hB2, hBc, hOP, hcb, hPn, hPb⟩; have h1 := Lib.hid hOP; have h2 := Lib.hid hPn; have h3 := Lib.hid hPb; clear hOP hPn hPb)
  have hs3 := HS3.out
  have hs4 := hb4.size
  have hs2 := HB2.out.2.2.2.2
  have hq := iter23 8 B len0 cb W3.heap.size P l W4 (by omega) (by omega) hB1 hB2 hBc h1.out h3.out (hM3.below hb4) h2.out hcb
  rw [HWT.out] at hq
  have hb24 : Below w2.heap.size w2 W4 := b3.trans (hb4.mono b3.size)
  have h0 : FlI want most (w2.heap.size + 1) w W4 [] W4 := ⟨⟨List.nil_prefix, Nat.zero_le _⟩, ⟨(hb4.cell (p := ⟨w2.heap.size + 1, 0, none⟩) (by show w2.heap.size + 1 < _; omega)).trans hcn, (hb4.frozen (p := ⟨w2.heap.size + 1, 0, none⟩) (by show w2.heap.size + 1 < _; omega)).trans hfn⟩, Kept.refl _ _, HB2.out.1.trans (hb24.mono HB2.out.1.size)⟩
  have hcw4 : W4.cell? ⟨w2.heap.size, 0, none⟩ = some (.slice A N ca) := (hb4.cell (p := ⟨w2.heap.size, 0, none⟩) (by show w2.heap.size < _; omega)).trans hcw
  have HQ := Lib.hid hq
  have H0 := Lib.hid h0
  have HB24 := Lib.hid hb24
  have HCW := Lib.hid hcw4
  have HL : Hid (W3.heap.size ≤ W4.heap.size ∧ w.heap.size ≤ W4.heap.size ∧ w2.heap.size + 1 < W3.heap.size ∧ w.heap.size + 1 < w2.heap.size) := Lib.hid ⟨hs4, by omega, by omega, hs2⟩
  clear hq h0 hs3 hs4 hs2 hcn hfn hBc hb4 b3 hM3 c9 HS3 hcw hcw4 hb24 hb2 hB1 hB2 OO2 MM2
  refine range_own2 rfl (by omega) rfl trivial (enters_of Tryd.func23 (by kernel_rfl) rfl) HQ.out (Nat.zero_le _) (.inr HL.out.1) (.inr (by have := HL.out.1; omega)) (fun _ => rfl) (fun x => lnRd_abide x _)
    (FlI want most (w2.heap.size + 1) w W4) (FlX 0 want most (w2.heap.size + 1) w W4) (fli_abide _ _ _ _ _ HL.out.2.1) (flx_abide _ _ _ _ _ _ HL.out.2.1) H0.out LnBox (fun x b => lnBox_abide x b _) ?a1 ?assign ?body ?done ?stop
  case assign =>
    rintro l' pre x W K hi hr hK
    simp only [lnVal]
    gi_wp2
    obtain ⟨b, hb⟩ : ∃ b, W.heap.size = b := ⟨_, rfl⟩
    rw [hb]
    refine hK b _ (Kept.alloc _ _) ((fli_abide _ _ _ _ _ HL.out.2.1).alloc _ hi) ((lnRd_abide x 0).alloc (s := ()) _ hr) ?_
    rw [← hb]
    exact lnBox_new x W
  case body =>
    rintro lq pre ⟨num, Af, fs⟩ b W hi hr ⟨hb1, hb2⟩ hlen
    have hK2 : Kept (fun k => k < w2.heap.size) w2 W := (Kept.of_below HB24.out).trans (hi.2.2.1.mono (fun k hk => by omega))
    have hL := HL.out
    have q1 : W.cell? ⟨w.heap.size, 0, none⟩ = some (.int .u8 most) := hK2.cell (a := ⟨w.heap.size, 0, none⟩) (by show w.heap.size < _; omega) HB2.out.2.1
    have q2 : W.cell? ⟨w.heap.size + 1, 0, none⟩ = some (.bool false) := hK2.cell (a := ⟨w.heap.size + 1, 0, none⟩) (by show w.heap.size + 1 < _; omega) HB2.out.2.2.1
    have q3 : W.frozen? ⟨w.heap.size + 1, 0, none⟩ = false := (hK2.frozen (a := ⟨w.heap.size + 1, 0, none⟩) (by show w.heap.size + 1 < _; omega) HB2.out.2.2.1).trans HB2.out.2.2.2.1
    have q4 : W.cell? ⟨w2.heap.size, 0, none⟩ = some (.slice A N ca) := hi.2.2.1.cell (a := ⟨w2.heap.size, 0, none⟩) (by show w2.heap.size ≠ _; omega) HCW.out
    have q5 := HLA.out.kept hK2
    have hcn := hi.2.1.1
    have hfn := hi.2.1.2
    have hkm := hi.1.2
    have hnext := fun q hx hm => @fl_next want most (w2.heap.size + 1) W3.heap.size w W4 W pre (num, Af, fs) q hi hx hm (by omega) (by omega) (by omega)
    have hbad := @fl_bad want pre (num, Af, fs)
    have hbrk : Hid (Kept (fun k => k = 0 ∨ W3.heap.size ≤ k) W W ∧ (pre.length = most → FlX 0 want most (w2.heap.size + 1) w W4 (.exit 0) (pre ++ [(num, Af, fs)]) W)) :=
      Lib.hid ⟨Kept.refl _ _, fun e => .inl ⟨⟨rfl, by simp [e]⟩, ⟨by rw [← e]; exact hcn, hfn⟩, hi.2.2.1, hi.2.2.2⟩⟩
    have HI := Lib.hid hi
    obtain ⟨k, hk⟩ : ∃ k, pre.length = k := ⟨_, rfl⟩
    rw [hk] at hcn hkm hnext hbad hbrk hlen
    have HNX := Lib.hid hnext
    have HBD := Lib.hid hbad
    clear hnext hbad hi hk hK2
    have hmx : Tryd.prog.follows .mixedOrders = true := by kernel_rfl
    have hbad2 : ∀ q, want[k]? ≠ some (view (num, Af, fs)) → Kept (fun k => k = 0 ∨ W3.heap.size ≤ k) W ((W.drewN q).setCell ⟨w.heap.size + 1, 0, none⟩ (.bool false)) ∧ FlX 0 want most (w2.heap.size + 1) w W4 .ret (pre ++ [(num, Af, fs)]) ((W.drewN q).setCell ⟨w.heap.size + 1, 0, none⟩ (.bool false)) := fun q hne =>
      ⟨(Kept.of_drew W q).trans (Kept.setCell _ _ _ (by have := HL.out; omega)), .inr ⟨rfl, HBD.out hne⟩⟩
    have HB2' := Lib.hid hbad2
    have hrV := hr.1
    have hrL : fs.length ≤ 20000 := hr.2
    have HRV : Hid (Vals W Af fs.length (strs fs)) := Lib.hid hrV
    have Q5 := Lib.hid q5
    clear hbad2 hr hrV q5 HBD
    by_cases hge : k < most
    · by_cases hkN : k < N
      · have hkw : k < want.length := by rw [HN.out]; exact hkN
        obtain ⟨wb, hA, -, hc⟩ := Q5.out.2 (by omega)
        subst hA
        obtain ⟨y, hy⟩ : ∃ y, want[k]? = some y := ⟨_, List.getElem?_eq_getElem hkw⟩
        obtain ⟨e1, F, cf, e2, hVF⟩ := hc k y hy
        have hyl : y.2.length ≤ 1000000 := by
          have h1 : y ∈ linesIn l := by rw [HWT.out]; exact List.mem_of_getElem? hy
          have h2 := lines_bound h1
          have h3 := HLN.out
          omega
        have HY := Lib.hid hy
        have HVF := Lib.hid hVF
        clear hc hy hVF hkw
        obtain ⟨ny, gs⟩ := y
        simp only at e1 e2 hyl
        rw [Nat.mul_comm] at e1 e2
        have HVF' : Hid (Vals W F gs.length (strs gs)) := Lib.hid HVF.out
        clear HVF
        have hd0 : decide (N ≤ k) = false := decide_eq_false (by omega)
        by_cases g1 : num = ny
        · subst g1
          by_cases g2 : fs = gs
          · have R := Lib.hid (fun q => HNX.out q (by rw [HY.out, g2]; rfl) hge)
            have hd : Hid (decide (fs = gs) = true) := by rw [decide_eq_true g2]; exact Lib.hid rfl
            have hfl : Hid (fs.length ≤ 1000000) := Lib.hid (by omega)
            clear HNX HB2' hbrk HY g2
            gi_wp2
            refine region_round (by kernel_rfl) hmx (by kernel_rfl) ?_
            repeat (gi_big_quiet_step (((gi_at_call 10; exact same_quiet lq _ Af F _ _ _ cf fs gs W HRV.out HVF'.out hfl.out hyl true hd.out _))))
            refine wpQuietIn_nil ?_
            intro _ hw'
            obtain ⟨nq, hw''⟩ := hw'
            subst hw''
            gi_wp2
            exact R.out nq
          · have R := Lib.hid (fun q => HB2'.out q (by rw [HY.out]; intro e; cases e; exact g2 rfl))
            have hd : Hid (decide (fs = gs) = false) := by rw [decide_eq_false g2]; exact Lib.hid rfl
            have hfl : Hid (fs.length ≤ 1000000) := Lib.hid (by omega)
            clear HNX HB2' hbrk HY g2
            gi_wp2
            refine region_round (by kernel_rfl) hmx (by kernel_rfl) ?_
            repeat (gi_big_quiet_step (((gi_at_call 10; exact same_quiet lq _ Af F _ _ _ cf fs gs W HRV.out HVF'.out hfl.out hyl false hd.out _))))
            refine wpQuietIn_nil ?_
            intro _ hw'
            obtain ⟨nq, hw''⟩ := hw'
            subst hw''
            gi_wp2
            exact R.out nq
        · have R := Lib.hid (fun q => HB2'.out q (by rw [HY.out]; intro e; cases e; exact g1 rfl))
          have g1b : (num == ny) = false := beq_false_of_ne g1
          have g1c : (num != ny) = true := by simp [bne, g1b]
          clear HNX HB2' hbrk HY
          gi_wp2
          refine region_round (by kernel_rfl) hmx (by kernel_rfl) ?_
          repeat (gi_big_quiet_step (fail))
          refine wpQuietIn_nil ?_
          intro _ hw'
          obtain ⟨nq, hw''⟩ := hw'
          subst hw''
          gi_wp2
          exact R.out nq
      · have hd0 : decide (N ≤ k) = true := decide_eq_true (by omega)
        have R := Lib.hid (fun q => HB2'.out q (by rw [List.getElem?_eq_none (by rw [HN.out]; omega)]; intro e; cases e))
        clear HNX HB2' hbrk
        gi_wp2
        refine region_round (by kernel_rfl) hmx (by kernel_rfl) ?_
        repeat (gi_big_quiet_step (fail))
        refine wpQuietIn_nil ?_
        intro _ hw'
        obtain ⟨nq, hw''⟩ := hw'
        subst hw''
        gi_wp2
        exact R.out nq
    · have hke : k = most := by omega
      subst hke
      clear HNX HB2' Q5 HRV hL
      gi_wp2
      exact ⟨hbrk.out.1, hbrk.out.2 trivial⟩
  case done =>
    rintro D xs W hD hxs hi hKD
    have hK2 : Kept (fun k => k < w2.heap.size) w2 W := (Kept.of_below HB24.out).trans (hi.2.2.1.mono (fun k hk => by omega))
    have hL := HL.out
    have q1 : W.cell? ⟨w.heap.size, 0, none⟩ = some (.int .u8 most) := hK2.cell (a := ⟨w.heap.size, 0, none⟩) (by show w.heap.size < _; omega) HB2.out.2.1
    have q2 : W.cell? ⟨w.heap.size + 1, 0, none⟩ = some (.bool false) := hK2.cell (a := ⟨w.heap.size + 1, 0, none⟩) (by show w.heap.size + 1 < _; omega) HB2.out.2.2.1
    have q3 : W.frozen? ⟨w.heap.size + 1, 0, none⟩ = false := (hK2.frozen (a := ⟨w.heap.size + 1, 0, none⟩) (by show w.heap.size + 1 < _; omega) HB2.out.2.2.1).trans HB2.out.2.2.2.1
    have q4 : W.cell? ⟨w2.heap.size, 0, none⟩ = some (.slice A N ca) := hi.2.2.1.cell (a := ⟨w2.heap.size, 0, none⟩) (by show w2.heap.size ≠ _; omega) HCW.out
    have hlen : xs.length = N := by
      have := congrArg List.length hxs
      rw [List.length_map, HN.out] at this
      exact this
    have hcn := hi.2.1.1
    have hkm := hi.1.2
    rw [hlen] at hcn hkm
    have HBW := Lib.hid hi.2.2.2
    have hmin : ((N : Int) == min (most : Int) (N : Int)) = true := by rw [Int.min_eq_right (by omega)]; simp
    clear hi hxs hK2 hlen
    gi_wp2
    exact leave rfl ((KeepsOthers.setCell W ⟨w.heap.size + 1, 0, none⟩ _).same D _ hKD rfl) (Nat.le_trans HL.out.2.1 hD) (World.cell?_setCell_same' _ _ _ (by rw [q2]; rfl)) (HBW.out.setCell (p := ⟨w.heap.size + 1, 0, none⟩) (by simp) _)
  case stop =>
    rintro D c pre W hD hpre (⟨⟨rfl, hpl⟩, ⟨hcn, -⟩, hkp, hbw⟩ | ⟨-, hno⟩) hKD
    · have hK2 : Kept (fun k => k < w2.heap.size) w2 W := (Kept.of_below HB24.out).trans (hkp.mono (fun k hk => by omega))
      have hL := HL.out
      have q1 : W.cell? ⟨w.heap.size, 0, none⟩ = some (.int .u8 most) := hK2.cell (a := ⟨w.heap.size, 0, none⟩) (by show w.heap.size < _; omega) HB2.out.2.1
      have q2 : W.cell? ⟨w.heap.size + 1, 0, none⟩ = some (.bool false) := hK2.cell (a := ⟨w.heap.size + 1, 0, none⟩) (by show w.heap.size + 1 < _; omega) HB2.out.2.2.1
      have q3 : W.frozen? ⟨w.heap.size + 1, 0, none⟩ = false := (hK2.frozen (a := ⟨w.heap.size + 1, 0, none⟩) (by show w.heap.size + 1 < _; omega) HB2.out.2.2.1).trans HB2.out.2.2.2.1
      have q4 : W.cell? ⟨w2.heap.size, 0, none⟩ = some (.slice A N ca) := hkp.cell (a := ⟨w2.heap.size, 0, none⟩) (by show w2.heap.size ≠ _; omega) HCW.out
      have hle : most + 1 ≤ N := by
        have := hpre.length_le
        rw [List.length_map, hpl, HN.out] at this
        exact this
      have HBW := Lib.hid hbw
      have hmin : ((most : Int) == min (most : Int) (N : Int)) = true := by rw [Int.min_eq_left (by omega)]; simp
      clear hkp hbw hK2 hpre hpl
      gi_wp2
      exact leave rfl ((KeepsOthers.setCell W ⟨w.heap.size + 1, 0, none⟩ _).same D _ hKD rfl) (Nat.le_trans HL.out.2.1 hD) (World.cell?_setCell_same' _ _ _ (by rw [q2]; rfl)) (HBW.out.setCell (p := ⟨w.heap.size + 1, 0, none⟩) (by simp) _)
    · exact absurd hpre hno

theorem walk (a0 : Option Addr) (len0 cap0 : Nat) (z0 : List Int) (a1 : Int) (w : World) (hM : ML w) (w0 : IsRow .u8 w a0 len0 cap0 z0) (w1 : (Lit.int .u8 a1).wf = true) :
    Calls Tryd.prog 3 #[.slice a0 len0 cap0, .int .u8 a1] w fun e w' => e = .returned (.bool true) ∧ Below w.heap.size w w' := by
  have hb := bounds_u8 w1
  obtain ⟨most, rfl⟩ : ∃ m : Nat, a1 = (m : Int) := ⟨a1.toNat, by omega⟩
  by_cases h0 : 800 < len0
  · exact walk_long a0 len0 cap0 most w hM h0
  · obtain ⟨l, hO, -, -⟩ := w0.octs
    exact walk_short a0 len0 cap0 most l w hM hO (by omega) (by omega)

set_option maxRecDepth 100000 in
theorem contract (H : Type) (enc : TypeId × Value → H) (W : World) (base : Nat) (args : Array Value) (ds gs : List (DataW H)) (before : List MemPlace)
    (hval : ∀ (j : Nat) t v, Tryd.f3.params[j]? = some t → args[j]? = some v → Value.okWide Tryd.prog W .any base t v)
    (hW : DataW.Whole enc Tryd.prog Tryd.f3.params.toList Rows.fieldLinesSpec.vars false W args.toList ds gs before) (hsh : W.ShapedOpen Tryd.prog) :
    Calls Tryd.prog 3 args W fun e W' => ∃ v, e = .returned v ∧ Rows.fieldLinesSpec.post enc Tryd.prog Tryd.f3 false true false false W args v W' := by
  have hM : ML W := Tryd.maxLen_cell W hsh
  have hW' := hW
  obtain ⟨p, q, hA0, hV, rfl, hfz, hnd⟩ := hW
  have hA : DataW.TrodAll enc Tryd.prog W 0 (fun _ => true) true Tryd.f3.params.toList args.toList ds p := hA0
  rw [Tryd.params3] at hA hval
  obtain ⟨v0, vs0, d0, ds0, p0, q0, hargs, rfl, rfl, h0, r0⟩ := trodAll_cons hA
  obtain ⟨v1, vs1, d1, ds1, p1, q1, rfl, rfl, rfl, h1, r1⟩ := trodAll_cons r0
  obtain ⟨rfl, rfl, rfl⟩ := trodAll_nil r1
  obtain rfl : args = #[v0, v1] := by cases args; simp_all
  obtain ⟨rfl, rfl⟩ := trodVars_none hV
  obtain ⟨a0, len0, cap0, rfl⟩ := okWide_slice Tryd.underlying22 (hval 0 22 v0 rfl rfl)
  have k0 := h0
  have lt0 : ∀ x ∈ p0, x.block < W.heap.size := by obtain ⟨m, hm⟩ := k0; exact DataW.trod_lt m _ _ _ hm
  obtain ⟨z0, w0⟩ : ∃ zs, IsRow .u8 W a0 len0 cap0 zs := by
    obtain ⟨fuel, hf⟩ := h0
    rcases open_ints Tryd.underlying22 Tryd.underlying5 (by kernel_rfl) hf with ⟨hcs, _⟩ | ⟨x, l, c, zs, hcs, _, hl, hm, hz, _, hcell, hwz⟩
    · simp [Value.cells] at hcs
      obtain ⟨rfl, rfl, rfl⟩ := hcs
      exact ⟨[], .inl ⟨rfl, rfl, rfl, rfl⟩⟩
    · simp [Value.cells] at hcs
      obtain ⟨rfl, rfl, rfl⟩ := hcs
      exact ⟨zs, .inr ⟨_, rfl, hl, hm, by simpa using hz, hcell, hwz⟩⟩
  obtain ⟨a1, rfl, rfl, rfl, w1⟩ := open_int Tryd.underlying5 (hval 1 5 v1 rfl rfl) h1
  clear hA0
  refine (walk a0 len0 cap0 z0 a1 W hM w0 w1).mono fun e W' ⟨he, bel⟩ => ?_
  subst he
  exact ⟨_, rfl, _, _, _, [], _, [], hW', trodAll_mk1 (shut_bool Tryd.underlying4 _), (trodAll_cons_mk (Below.trod laidOut (by kernel_rfl) (of_decide_eq_true (by kernel_rfl)) k0 bel lt0) (trodAll_cons_mk (shut_int Tryd.underlying5 w1) trodAll_mk0)), rfl, bel.frame _, fun h => by cases h⟩

theorem laid_met (os : Os) : laidMet Tryd.prog Rows.fieldLinesRow.laid ((laidWorld os).forCall (fun _ _ => 0) ⟨#[], #[.slice none 0 0, .int .u8 0], []⟩).memory :=
  laidMet_of_run' 8 (by kernel_rfl) (by kernel_rfl)
theorem reads (os : Os) {H : Type} (enc : TypeId × Value → H) : ∃ places, DataW.whole enc Tryd.prog ((laidWorld os).forCall (fun _ _ => 0) ⟨#[], #[.slice none 0 0, .int .u8 0], []⟩).memory Tryd.f3.params.toList Rows.fieldLinesSpec.vars false #[Value.slice none 0 0, .int .u8 0].toList 8 = some ([.nil, .lit (.int .u8 0)], [], places) :=
  ⟨[], by kernel_rfl⟩

set_option maxRecDepth 100000 in
theorem lifted (os : Os) (started : os.Started) (H : Type) (enc : TypeId × Value → H) (F : Stop.Interp) :
    ReturnsInHanded {} Tryd.checked os 3 .any ((OpenSpec.ofChange Rows.fieldLinesSpec).preRow enc Tryd.prog Tryd.f3 Rows.fieldLinesRow.domain false Rows.fieldLinesRow.laid) (((OpenSpec.ofChange Rows.fieldLinesSpec).at F).post enc Tryd.prog Tryd.f3 false true false false) := by
  obtain ⟨places, hx⟩ := reads os enc
  refine returnsInHanded_of_row (C := Tryd.checked) (s := OpenSpec.ofChange Rows.fieldLinesSpec) own started (by kernel_rfl) Tryd.func3
    (witness_row_at (enc := enc) (C := Tryd.checked) false (laidWorld os) #[.slice none 0 0, .int .u8 0] rfl (by kernel_rfl) (by kernel_rfl) (by kernel_rfl)
      (OpenSpec.preRow_of_cond 8 hx (by kernel_rfl) (fun k hk => by cases hk) (by kernel_rfl) (laid_met os))) ?_
  intro W base args ds gs before hval hW _ _ _ _ hsh _
  exact contract H enc W base args ds gs before hval hW hsh

theorem said : Rows.FieldLinesSaid :=
  OpenClaim.holds_of_cond 3 Tryd.f3 rfl rfl rfl rfl rfl rfl rfl ⟨rfl, rfl, rfl, rfl, rfl⟩ rfl rfl rfl rfl rfl (by kernel_rfl) Tryd.func3 (by kernel_rfl)
    (of_decide_eq_true (by kernel_rfl)) (by unfold Func.isWrapper; first | (rw [if_pos (by decide +kernel)]; kernel_rfl) | (rw [if_neg (by decide +kernel)]; exact ⟨rfl, rfl⟩))
    (fun os started H enc _ F => by rw [OpenClaim.pre_eq_preRow]; exact lifted os started H enc F)

theorem plain (f : FuncId) (fn : Func) (hf : Tryd.pinned.checked.prog.funcNamed Rows.fieldLinesRow.func = some f) (hfn : Tryd.pinned.checked.prog.funcs[f]? = some fn) :
    false = Tryd.pinned.checked.prog.looks [] ∧ ∀ (j : Nat) t, fn.params[j]? = some t → Tryd.pinned.checked.prog.wantsStandIn t = false := by
  obtain rfl : f = 3 := Option.some.inj ((show Tryd.prog.funcNamed Rows.fieldLinesRow.func = some 3 by kernel_rfl).symm.trans hf) |>.symm
  obtain rfl : fn = Tryd.f3 := (Option.some.inj (Tryd.func3.symm.trans hfn)).symm
  refine ⟨by kernel_rfl, fun j t ht => ?_⟩
  rw [Tryd.params3] at ht
  have hm := Array.mem_of_getElem? ht
  simp at hm
  rcases hm with rfl | rfl
  · exact (show Tryd.prog.wantsStandIn 22 = false by kernel_rfl)
  · exact (show Tryd.prog.wantsStandIn 5 = false by kernel_rfl)
end Go.Proofs.YtlknffldlnhfdaaDoor.fieldLines
namespace Go.Proofs.YtlknffldlnhfdaaDoor
theorem fieldLines_card : Rows.FieldLinesCardSaid :=
  Claim7.holds_tied_plain_at .later [] _ _ _ _ fieldLines.said (fun _ h => by cases h) (by kernel_rfl) (fun _ h => by cases h) fieldLines_row_tie rfl ⟨rfl, rfl⟩ (by kernel_rfl) rfl fieldLines.plain (by kernel_rfl)
#print axioms fieldLines_card
end Go.Proofs.YtlknffldlnhfdaaDoor

