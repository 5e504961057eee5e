/- The law of any file, walked. -/
import Derived.Test.YtfmkhfjdihfppaaDoorUpa
import Derived.Test.YtfmkhfjdihfppaaDoorLaid
import Derived.Deep.RegionHeld3
namespace Go.Proofs.YtfmkhfjdihfppaaDoor.unicodeParses
open Go.RowKit Go.Shelf Go.Sort
attribute [local go_sem] Oper.semAt_some
attribute [local go_sem, simp] round_fn
theorem hmx : Tryd.prog.follows .mixedOrders = true := by kernel_rfl

/-- The two boxes that the statement lays first, in whatever world comes later. -/
def Boxes (w : World) (most : Nat) (W : World) : Prop :=
  Below w.heap.size w W ∧ W.cell? ⟨w.heap.size, 0, none⟩ = some (.int .u8 most) ∧ W.cell? ⟨w.heap.size + 1, 0, none⟩ = some (.bool false) ∧ W.frozen? ⟨w.heap.size + 1, 0, none⟩ = false ∧ w.heap.size + 1 < W.heap.size
theorem boxes_first (w : World) (most : Nat) : Boxes w most ((w.alloc (.cells #[.int .u8 most] 5)).alloc (.cells #[.bool false] 4)) := by
  refine ⟨((Below.refl _ w).alloc (Nat.le_refl _) _).alloc (by simp) _, ?_, ?_, ?_, by simp⟩
  · simp
  · simp
  · have := frozen_new (w.alloc (.cells #[.int .u8 most] 5)) #[.bool false] 4 0
    rwa [World.size_alloc] at this
theorem Boxes.below {w : World} {most : Nat} {W W' : World} (h : Boxes w most W) (hb : Below W.heap.size W W') : Boxes w most W' := by
  obtain ⟨h1, h2, h3, h4, h5⟩ := h
  exact ⟨h1.trans (hb.mono h1.size), (hb.cell (p := ⟨w.heap.size, 0, none⟩) (by show w.heap.size < _; omega)).trans h2, (hb.cell (p := ⟨w.heap.size + 1, 0, none⟩) h5).trans h3, (hb.frozen (p := ⟨w.heap.size + 1, 0, none⟩) h5).trans h4, Nat.lt_of_lt_of_le h5 hb.size⟩
theorem leave {w Wf : World} {D : Nat} {tmps : Array Value} {m : Nat} (ht : tmps[4]?.getD undef = .pointer (some ⟨w.heap.size + 1, 0, none⟩)) (hk : Wf.heap[D]? = some (.deferred (some []))) (hd : w.heap.size ≤ D)
    (hr : Wf.cell? ⟨w.heap.size + 1, 0, none⟩ = some (.bool true)) (hb : Below w.heap.size w Wf) :
    LeavesInM Fence.wide m Tryd.prog Tryd.f3 tmps (fun e w' => e = .returned (.bool true) ∧ Below w.heap.size w w') [{ target := .collected D, args := #[] }] .returning Wf := by
  refine ⟨by simp, .inl ⟨_, _, rfl, run_takeDeferred hk, ?_⟩⟩
  have h1 := cell_kept hr (grownBy_putObj' _ D (.deferred none)) (fun r e => by cases e; exact ⟨_, hk, rfl⟩)
  refine ⟨.bool true, ?_, rfl, hb.trans (belowK_b (w := w) (Nat.le_refl _) _ D _ _ hd hk rfl rfl)⟩
  simp [results, Tryd.results3, go_sem, h1, ht]
theorem leave0 {w Wf : World} {tmps : Array Value} {m : Nat} (ht : tmps[4]?.getD undef = .pointer (some ⟨w.heap.size + 1, 0, none⟩)) (hr : Wf.cell? ⟨w.heap.size + 1, 0, none⟩ = some (.bool true)) (hb : Below w.heap.size w Wf) :
    LeavesInM Fence.wide m Tryd.prog Tryd.f3 tmps (fun e w' => e = .returned (.bool true) ∧ Below w.heap.size w w') [] .returning Wf := by
  refine ⟨.bool true, ?_, rfl, hb⟩
  simp [results, Tryd.results3, go_sem, hr, ht]

set_option maxRecDepth 100000 in
set_option maxHeartbeats 1000000 in
theorem walk_long (a0 : Option Addr) (len0 cap0 most : Nat) (w : World) (hM : ML w) (h : 1500 < len0) :
    Calls Tryd.prog 3 #[.slice a0 len0 cap0, .int .u8 most] w fun e w' => e = .returned (.bool true) ∧ Below w.heap.size w w' := by
  have BB := boxes_first w most
  have hM0 := hM.below BB.1
  have c7 := callsIn_wide (n := 8) |>.2 (awake7 ((w.alloc (.cells #[.int .u8 most] 5)).alloc (.cells #[.bool false] 4)) hM0)
  have HB := Lib.hid BB
  have MM := Lib.hid hM0
  clear BB hM hM0
  refine (callsIn_wide (n := 9)).1 ?_
  refine callsIn_of_wp_marks Tryd.func3 rfl trivial ?_ rfl
  simp only [Tryd.ntmps3, List.size_toArray, List.length_cons, List.length_nil, Nat.reduceAdd, Nat.reduceSub, Array.replicate_succ, Array.replicate_zero, List.push_toArray, List.append_toArray, List.nil_append, List.cons_append]
  gi_wp2_with (refine ⟨trivial, ?_⟩; gi_at_call 7; (with_reducible refine c7.mono ?_); rintro e w1 ⟨rfl, hb1⟩)
  have HB1 := Lib.hid (HB.out.below hb1)
  have MM1 := Lib.hid (MM.out.below hb1)
  clear c7 hb1 HB MM
  have c7 := callsIn_wide (n := 8) |>.2 (awake7 w1 MM1.out)
  gi_wp2_with (refine ⟨trivial, ?_⟩; gi_at_call 7; (with_reducible refine c7.mono ?_); rintro e w2 ⟨rfl, hb2⟩; have HB2 := Lib.hid (HB1.out.below hb2); have r2 := HB2.out.2.2.1; have f2 := HB2.out.2.2.2.1)
  exact leave0 rfl (World.cell?_setCell_same' _ _ _ (by rw [r2]; rfl)) (HB2.out.1.setCell (p := ⟨w.heap.size + 1, 0, none⟩) (by simp) _)

set_option maxRecDepth 100000 in
set_option maxHeartbeats 8000000 in
theorem walk_ok (a0 : Option Addr) (len0 cap0 most : Nat) (l : List UInt8) (w : World) (hM : ML w) (hO : Octs w a0 len0 l) (h : len0 ≤ 1500) (hm : most < 256) (he : (parseOf (linesIn l)).err = 0) :
    Calls Tryd.prog 3 #[.slice a0 len0 cap0, .int .u8 most] w fun e w' => e = .returned (.bool true) ∧ Below w.heap.size w w' := by
  have BB := boxes_first w most
  have hM0 := hM.below BB.1
  have hO0 := hO.below BB.1
  have hll := hO.len
  have c7 := callsIn_wide (n := 8) |>.2 (awake7 ((w.alloc (.cells #[.int .u8 most] 5)).alloc (.cells #[.bool false] 4)) hM0)
  have C8 := Lib.hid (fun w1 (hb : Below ((w.alloc (.cells #[.int .u8 most] 5)).alloc (.cells #[.bool false] 4)).heap.size ((w.alloc (.cells #[.int .u8 most] 5)).alloc (.cells #[.bool false] 4)) w1) => callsIn_wide (n := 8) |>.2 (parse_ok a0 len0 cap0 l w1 (hO0.below hb) (by omega) (hM0.below hb) he))
  have HCV := Lib.hid (fun w1 (hb : Below ((w.alloc (.cells #[.int .u8 most] 5)).alloc (.cells #[.bool false] 4)).heap.size ((w.alloc (.cells #[.int .u8 most] 5)).alloc (.cells #[.bool false] 4)) w1) => conv22 cap0 (hO0.below hb))
  have HBX := Lib.hid (fun w1 (hb : Below ((w.alloc (.cells #[.int .u8 most] 5)).alloc (.cells #[.bool false] 4)).heap.size ((w.alloc (.cells #[.int .u8 most] 5)).alloc (.cells #[.bool false] 4)) w1) => BB.below hb)
  have C9 := Lib.hid (fun w1 => callsIn_wide (n := 8) |>.2 (ref_any l w1 (by omega)))
  have hgood := good_parse (linesIn l)
  have hlen : (parseOf (linesIn l)).rows.length ≤ 100000 := by
    have h1 := len_parse (linesIn l)
    have h2 := lines_num (l := l)
    omega
  have hnum : (parseOf (linesIn l)).num = 0 := num_zero (linesIn l) [] he
  rw [he, hnum] at C9
  obtain ⟨ps, hps⟩ : ∃ ps, (parseOf (linesIn l)).rows = ps := ⟨_, rfl⟩
  rw [hps] at C9 hgood hlen
  rw [hps] at C8
  obtain ⟨S, hS⟩ : ∃ S, bs l = S := ⟨_, rfl⟩
  rw [hS] at HCV C9
  have HG := Lib.hid hgood
  have HLN := Lib.hid hlen
  have hd : decide (1500 < (len0 : Int)) = false := decide_eq_false (by omega)
  clear BB hM hM0 hO hO0 hll hgood hlen hps hS he hnum
  refine (callsIn_wide (n := 9)).1 ?_
  refine callsIn_of_wp_marks Tryd.func3 rfl trivial ?_ rfl
  simp only [Tryd.ntmps3, List.size_toArray, List.length_cons, List.length_nil, Nat.reduceAdd, Nat.reduceSub, Array.replicate_succ, Array.replicate_zero, List.push_toArray, List.append_toArray, List.nil_append, List.cons_append]
  gi_wp2_with (first
    | (refine ⟨trivial, ?_⟩; gi_at_call 7; (with_reducible refine c7.mono ?_); rintro e w1 ⟨rfl, hb1⟩; clear c7; have hcv1 := HCV.out w1 hb1; have k8 := C8.out w1 hb1; clear C8)
    | (refine ⟨trivial, ?_⟩; gi_at_call 8; (with_reducible refine k8.mono ?_); rintro e w2 ⟨bt, A, c, ls, rfl, HH⟩; clear k8 hcv1; have k9 := C9.out w2; clear C9)
    | (refine ⟨trivial, ?_⟩; gi_at_call 9; (with_reducible refine k9.mono ?_); rintro e w3 ⟨A', n', c', ls', rfl, hn1, hn2, HR⟩; have HN' := Lib.hid hn1; clear hn1 k9; have z12 := hb1.trans (HH.out.1.mono hb1.size); have z13 := z12.trans (HR.out.1.mono z12.size); have Z13 := Lib.hid z13; have hcv3 := HCV.out (w3.alloc (.cells #[.slice A' n' c'] 28)) (z13.alloc z13.size _); have b3 : Below w3.heap.size w3 ((w3.alloc (.cells #[.slice A' n' c'] 28)).alloc (.cells #[.int .i64 0] 3)) := ((Below.refl _ _).alloc (Nat.le_refl _) _).alloc (by simp) _; have k10 := callsIn_wide (n := 8) |>.2 (rows10 (some ⟨bt, 0, none⟩) A c ls _ ((HH.out.2.2.1.below HR.out.1).below b3)); clear b3 z12 z13; rw [World.size_alloc, World.size_alloc] at k10)
    | (refine ⟨trivial, ?_⟩; gi_at_call 10; (with_reducible refine k10.mono ?_); rintro e w5 ⟨rfl, hw5⟩; clear k10))
  have hs5 : w5.heap.size = w3.heap.size + 3 := by rw [hw5]; simp
  have hb35 : Below w3.heap.size w3 w5 := by rw [hw5]; exact (((Below.refl _ _).alloc (Nat.le_refl _) _).alloc (by simp) _).alloc (by simp; omega) _
  have cw5 : w5.cell? ⟨w3.heap.size, 0, none⟩ = some (.slice A' n' c') := by rw [hw5]; exact box_cell _ (box_cell _ (box_new w3 _ 28).1)
  have cl5 : w5.cell? ⟨w3.heap.size + 1, 0, none⟩ = some (.int .i64 0) := by
    have h2 := box_new (w3.alloc (.cells #[.slice A' n' c'] 28)) (.int .i64 0) 3
    rw [World.size_alloc] at h2
    rw [hw5]
    exact box_cell _ h2.1
  have fl5 : w5.frozen? ⟨w3.heap.size + 1, 0, none⟩ = false := by
    have h2 := box_new (w3.alloc (.cells #[.slice A' n' c'] 28)) (.int .i64 0) 3
    rw [World.size_alloc] at h2
    rw [hw5]
    exact box_frozen _ h2.1 h2.2
  obtain ⟨hb12, hbt, hT2, hI2, -⟩ := HH.out
  have cr5 : w5.cell? ⟨w3.heap.size + 1 + 1, 0, none⟩ = some (.slice A ls.length c) := by
    have h2 := box_new ((w3.alloc (.cells #[.slice A' n' c'] 28)).alloc (.cells #[.int .i64 0] 3)) (.slice A ls.length c) 28
    rw [World.size_alloc, World.size_alloc] at h2
    rw [hw5]
    exact h2.1
  rw [← hw5]
  clear hw5
  obtain ⟨hb23, hR3, hIr3⟩ := HR.out
  have hT3 := hT2.below hb23
  have hI3 := hI2.below hb23
  have hA3 : 0 < ls.length → ∀ a, A = some a → a.block < w3.heap.size := by
    intro hn a e
    obtain ⟨b, off, e', hlt, -⟩ := hT3.rat.2 hn
    rw [e] at e'
    cases e'
    exact hlt
  have hD3 : ∀ t ∈ ls, 0 < t.dm → ∀ a, t.dp = some a → a.block < w3.heap.size := by
    intro t ht hd a e
    obtain ⟨p, -, hp⟩ := ist_mem hI3 ht
    obtain ⟨b, off, e', hlt, -⟩ := hp.2.2.2.2.2.2.2 hd
    rw [e] at e'
    cases e'
    exact hlt
  have hq := seq25 8 (w3.heap.size + 1 + 1) ls.length c A ls ps (fun k => k ≠ w3.heap.size + 1) w5 (by omega) (by rw [hI2.len]; exact HLN.out) (fun p hp => by have := (HG.out.2 p hp).2.2.2; omega) (by omega) cr5 (hT3.rat.below hb35) (hI3.below hb35) (by
    rintro k hk (rfl | ⟨hn, a, e, rfl⟩ | ⟨t, ht, hd, a, e, rfl⟩)
    · omega
    · have := hA3 hn a e; omega
    · have := hD3 t ht hd a e; omega)
  have h0 : UaI most (w3.heap.size + 1) w3 w5 [] w5 := ⟨Nat.zero_le _, ⟨cl5, fl5⟩, Kept.refl _ _, hb35⟩
  have HQ := Lib.hid hq
  have H0 := Lib.hid h0
  have HAB := Lib.hid (uai_abide most (w3.heap.size + 1) w3 w5 hb35.size)
  have HAX := Lib.hid (uax_abide 0 most (w3.heap.size + 1) w3 w5 hb35.size)
  have HCW := Lib.hid cw5
  have HB3 := Lib.hid (HBX.out w3 Z13.out)
  have HS : Hid (w5.heap.size = w3.heap.size + 3 ∧ w.heap.size + 1 < w3.heap.size) := Lib.hid ⟨hs5, HB3.out.2.2.2.2⟩
  have HRR : Hid (RAt w3 A' n' ls' ∧ Ist w3 ls' ps) := Lib.hid ⟨hR3, hIr3⟩
  have HTT : Hid (TIn w3 (some ⟨bt, 0, none⟩) A c ls ∧ ls.length = n') := Lib.hid ⟨hT3, by rw [hI2.len]; exact HN'.out.symm⟩
  clear hs5 hb35 cw5 cl5 fl5 cr5 hb12 hT2 hI2 hb23 hR3 hIr3 hT3 hI3 hA3 hD3 hq h0 hcv3 hb1 Z13 HBX HCV HR HH hbt
  refine range_nx2 rfl (by omega) rfl trivial (enters_of Tryd.func25 (by kernel_rfl) rfl) HQ.out (Nat.zero_le _) (by have := HS.out; omega) (by have := HS.out; omega) (fun _ => rfl) (fun x => rwRd_abide _ x _)
    (UaI most (w3.heap.size + 1) w3 w5) (UaX 0 most (w3.heap.size + 1) w3 w5) HAB.out HAX.out H0.out RwBx (fun x b => rwBx_abide x b _) ?a1 ?assign ?body ?done ?stop
  case assign =>
    rintro lq pre x W' K hi hr hK
    simp only [rwArr, rwV]
    gi_wp2
    obtain ⟨b', hb'⟩ : ∃ b', W'.heap.size = b' := ⟨_, rfl⟩
    rw [hb']
    have hbo : ∀ o, Below W'.heap.size W' (W'.alloc o) := fun o => (Below.refl _ _).alloc (Nat.le_refl _) o
    refine hK b' _ (Kept.of_below (hbo _)) (HAB.out.below hi (hbo _)) ((rwRd_abide _ x w5.heap.size).below (s := ()) hr (hbo _)) ?_
    rw [← hb']
    exact ⟨by simp, by simp, by simp, by simp, by simp, by simp⟩
  case body =>
    rintro lq pre ⟨s, p⟩ b' Wb hi hr ⟨e0, e1, e2, e3, e4, e5⟩ ⟨hnx, -⟩
    rw [List.map_append] at hnx
    have hbw := hi.2.2.2
    obtain ⟨-, q1, -, -, -⟩ := HB3.out.below hbw
    have q4 : Wb.cell? ⟨w3.heap.size, 0, none⟩ = some (.slice A' n' c') := hi.2.2.1.cell (a := ⟨w3.heap.size, 0, none⟩) (by show w3.heap.size ≠ _; omega) HCW.out
    obtain ⟨hkN, s', hs', hIs'⟩ := ref_row (HRR.out.2.below hbw) hnx (List.length_map _)
    rw [← HN'.out] at hkN
    have hRb := HRR.out.1.below hbw
    have hnext := fun hge d os => @ua_next most (w3.heap.size + 1) w3 w5 Wb pre (s, p) hi hge (by omega) d os
    have hbrk : pre.length = most → Hid (Kept (fun k => k ≠ w3.heap.size + 1) Wb Wb ∧ UaX 0 most (w3.heap.size + 1) w3 w5 (.exit 0) (pre ++ [(s, p)]) Wb) := fun e => Lib.hid ⟨Kept.refl _ _, ⟨rfl, by simp [e]⟩, ⟨by rw [← e]; exact hi.2.1.1, hi.2.1.2⟩, hi.2.2.1, hi.2.2.2⟩
    have hcn := hi.2.1.1
    have hfn := hi.2.1.2
    have hkm := hi.1
    have hpm : p ∈ ps := by obtain ⟨r, hr'⟩ := hnx; rw [← hr']; simp
    have hpd : p.dec.length ≤ 1000 := by have := (HG.out.2 p hpm).2.2.2; omega
    have KS := Lib.hid (fun d os m => @regrown_in Tryd.prog 11 #[rwV s, rwV s'] Wb d m lq os (.bool true) (same11 s s' p _ (hr.1.below (below_regrown Wb d os)) (hIs'.below (below_regrown Wb d os)) hpd))
    obtain ⟨k, hk⟩ : ∃ k, pre.length = k := ⟨_, rfl⟩
    rw [hk] at hcn hkm hnext hbrk hkN hs'
    obtain ⟨b2, off, hA', hlt2, hc2⟩ := hRb.2 (by omega)
    obtain ⟨g1, g2, g3, g4, g5, g6⟩ := hc2 k s' hs'
    dsimp only at e0 e1 e2 e3 e4 e5
    unfold rwV at KS
    obtain ⟨T, hT⟩ : ∃ T, bs s.gc = T := ⟨_, rfl⟩
    obtain ⟨U, hU⟩ : ∃ T, bs s.bd = T := ⟨_, rfl⟩
    obtain ⟨T', hT'⟩ : ∃ T, bs s'.gc = T := ⟨_, rfl⟩
    obtain ⟨U', hU'⟩ : ∃ T, bs s'.bd = T := ⟨_, rfl⟩
    rw [hT] at e2 KS
    rw [hU] at e4 KS
    rw [hT'] at g3 KS
    rw [hU'] at g5 KS
    have HNX := Lib.hid hnext
    clear hi hr hnx hbw hIs' hRb hnext hpm hpd hk hc2 hs' hT hU hT' hU'
    by_cases hge : k < most
    · have R := Lib.hid (HNX.out hge)
      have hd0 : decide (n' ≤ k) = false := decide_eq_false (by omega)
      subst hA'
      have z0 := fun d os => cell_regrown e0 d os
      have z1 := fun d os => cell_regrown e1 d os
      have z2 := fun d os => cell_regrown e2 d os
      have z3 := fun d os => cell_regrown e3 d os
      have z4 := fun d os => cell_regrown e4 d os
      have z5 := fun d os => cell_regrown e5 d os
      have y1 := fun d os => cell_regrown g1 d os
      have y2 := fun d os => cell_regrown g2 d os
      have y3 := fun d os => cell_regrown g3 d os
      have y4 := fun d os => cell_regrown g4 d os
      have y5 := fun d os => cell_regrown g5 d os
      have y6 := fun d os => cell_regrown g6 d os
      have x4 := fun d os => cell_regrown q4 d os
      have xl := fun d os => cell_regrown hcn d os
      have xf : ∀ d os, (grow (redrawn Wb d) os).frozen? ⟨w3.heap.size + 1, 0, none⟩ = false := fun d os => ((below_regrown Wb d os).frozen (p := ⟨w3.heap.size + 1, 0, none⟩) (World.block_lt_of_cell? Wb _ hcn)).trans hfn
      clear HNX hbrk
      gi_wp2
      refine region_round_below (by kernel_rfl) hmx (by kernel_rfl) ?_
      repeat (gi_big_quiet_step (((gi_at_call 11; exact KS.out _ _ _))))
      refine wpQuietIn_nil ?_
      intro _ hw'
      obtain ⟨⟨dq, osq⟩, hw''⟩ := hw'
      subst hw''
      gi_wp2
      exact R.out dq osq
    · have hke : k = most := by omega
      have HBK := hbrk hke
      subst hke
      clear HNX hbrk KS hA' g1 g2 g3 g4 g5 g6
      gi_wp2
      exact HBK.out
  case done =>
    rintro D xs W3 hD hxs hi hKD
    have hbw := hi.2.2.2
    obtain ⟨-, q1, q2, q3, -⟩ := HB3.out.below hbw
    have q4 : W3.cell? ⟨w3.heap.size, 0, none⟩ = some (.slice A' n' c') := hi.2.2.1.cell (a := ⟨w3.heap.size, 0, none⟩) (by show w3.heap.size ≠ _; omega) HCW.out
    have hlen : xs.length = n' := by
      have := congrArg List.length hxs
      rw [List.length_map, ← HN'.out] at this
      exact this
    have hcn := hi.2.1.1
    have hkm := hi.1
    rw [hlen] at hcn hkm
    clear hxs hlen
    have K12 : Hid (∀ W, Below W3.heap.size W3 W → Calls Tryd.prog 12 #[.pointer (some ⟨bt, 0, none⟩)] W fun e w' => e = .returned (.int .i64 n') ∧ W = w') := Lib.hid fun W hb => (len12 (some ⟨bt, 0, none⟩) A c ls W ((HTT.out.1.below hbw).below hb)).mono fun e w' h => ⟨by rw [h.1, HTT.out.2], h.2⟩
    have HBW := Lib.hid (HB3.out.1.trans (hbw.mono HB3.out.1.size))
    have hDw : w.heap.size ≤ D := by have := HS.out; omega
    have hwr : IntKind.i64.wrap (most : Int) = (most : Int) := by simp [IntKind.wrap, IntKind.bits, IntKind.signed]; omega
    have hmin : ((n' : Int) == min (most : Int) (n' : Int)) = true := by rw [Int.min_eq_right (by omega)]; simp
    have HSS : Hid (∀ W, Below W3.heap.size W3 W → W.cell? ⟨w3.heap.size + 1, 0, none⟩ = some (.int .i64 (n' : Nat)) ∧ W.cell? ⟨w.heap.size, 0, none⟩ = some (.int .u8 most) ∧ W.cell? ⟨w3.heap.size, 0, none⟩ = some (.slice A' n' c')) := Lib.hid fun W hb =>
      ⟨(hb.cell (p := ⟨w3.heap.size + 1, 0, none⟩) (World.block_lt_of_cell? W3 _ hcn)).trans hcn, (hb.cell (p := ⟨w.heap.size, 0, none⟩) (World.block_lt_of_cell? W3 _ q1)).trans q1, (hb.cell (p := ⟨w3.heap.size, 0, none⟩) (World.block_lt_of_cell? W3 _ q4)).trans q4⟩
    have HSU : Hid (∀ v, (W3.setCell ⟨w.heap.size + 1, 0, none⟩ v).cell? ⟨w3.heap.size + 1, 0, none⟩ = some (.int .i64 (n' : Nat)) ∧ (W3.setCell ⟨w.heap.size + 1, 0, none⟩ v).cell? ⟨w.heap.size, 0, none⟩ = some (.int .u8 most) ∧ (W3.setCell ⟨w.heap.size + 1, 0, none⟩ v).cell? ⟨w3.heap.size, 0, none⟩ = some (.slice A' n' c')) := Lib.hid fun v =>
      ⟨(World.cell?_setCell_other _ _ _ _ (by intro e; injection e with e1; have := HS.out; omega)).trans hcn, (World.cell?_setCell_other _ _ _ _ (by intro e; injection e with e1; omega)).trans q1, (World.cell?_setCell_other _ _ _ _ (by intro e; injection e with e1; have := HS.out; omega)).trans q4⟩
    clear hi hbw
    gi_wp2
    refine wpIn_wide.2 ?_
    go_region_held3 (fun w' => w'.cell? ⟨w3.heap.size + 1, 0, none⟩ = some (.int .i64 (n' : Nat)) ∧ w'.cell? ⟨w.heap.size, 0, none⟩ = some (.int .u8 most) ∧ w'.cell? ⟨w3.heap.size, 0, none⟩ = some (.slice A' n' c'))
      (first | exact HSS.out _ (Below.refl _ _) | exact HSS.out _ (below_drew (Below.refl _ _)) | exact HSU.out _ | go_keep)
      ((go_simp; go_at_call 12; (with_reducible refine (K12.out _ (by first | with_reducible exact Below.refl _ _ | with_reducible exact below_drew (Below.refl _ _))).mono ?_); rintro e w' ⟨rfl, rfl⟩))
    gi_wp2
    exact leave rfl ((KeepsOthers.setCell W3.drew ⟨w.heap.size + 1, 0, none⟩ _).same D _ hKD rfl) hDw (World.cell?_setCell_same' _ _ _ (by show (W3.cell? _).isSome = true; rw [q2]; rfl)) ((below_drew HBW.out).setCell (p := ⟨w.heap.size + 1, 0, none⟩) (by simp) _)
  case stop =>
    rintro D c2 pre W3 hD hpre ⟨⟨rfl, hpl⟩, hi⟩ hKD
    have hbw := hi.2.2
    obtain ⟨-, q1, q2, q3, -⟩ := HB3.out.below hbw
    have q4 : W3.cell? ⟨w3.heap.size, 0, none⟩ = some (.slice A' n' c') := hi.2.1.cell (a := ⟨w3.heap.size, 0, none⟩) (by show w3.heap.size ≠ _; omega) HCW.out
    have hle : most + 1 ≤ n' := by
      have := hpre.length_le
      rw [List.length_map, hpl, ← HN'.out] at this
      exact this
    have hcn := hi.1.1
    clear hpre hpl
    have K12 : Hid (∀ W, Below W3.heap.size W3 W → Calls Tryd.prog 12 #[.pointer (some ⟨bt, 0, none⟩)] W fun e w' => e = .returned (.int .i64 n') ∧ W = w') := Lib.hid fun W hb => (len12 (some ⟨bt, 0, none⟩) A c ls W ((HTT.out.1.below hbw).below hb)).mono fun e w' h => ⟨by rw [h.1, HTT.out.2], h.2⟩
    have HBW := Lib.hid (HB3.out.1.trans (hbw.mono HB3.out.1.size))
    have hDw : w.heap.size ≤ D := by have := HS.out; omega
    have hwr : IntKind.i64.wrap (most : Int) = (most : Int) := by simp [IntKind.wrap, IntKind.bits, IntKind.signed]; omega
    have hmin : ((most : Int) == min (most : Int) (n' : Int)) = true := by rw [Int.min_eq_left (by omega)]; simp
    have HSS : Hid (∀ W, Below W3.heap.size W3 W → W.cell? ⟨w3.heap.size + 1, 0, none⟩ = some (.int .i64 (most : Nat)) ∧ W.cell? ⟨w.heap.size, 0, none⟩ = some (.int .u8 most) ∧ W.cell? ⟨w3.heap.size, 0, none⟩ = some (.slice A' n' c')) := Lib.hid fun W hb =>
      ⟨(hb.cell (p := ⟨w3.heap.size + 1, 0, none⟩) (World.block_lt_of_cell? W3 _ hcn)).trans hcn, (hb.cell (p := ⟨w.heap.size, 0, none⟩) (World.block_lt_of_cell? W3 _ q1)).trans q1, (hb.cell (p := ⟨w3.heap.size, 0, none⟩) (World.block_lt_of_cell? W3 _ q4)).trans q4⟩
    have HSU : Hid (∀ v, (W3.setCell ⟨w.heap.size + 1, 0, none⟩ v).cell? ⟨w3.heap.size + 1, 0, none⟩ = some (.int .i64 (most : Nat)) ∧ (W3.setCell ⟨w.heap.size + 1, 0, none⟩ v).cell? ⟨w.heap.size, 0, none⟩ = some (.int .u8 most) ∧ (W3.setCell ⟨w.heap.size + 1, 0, none⟩ v).cell? ⟨w3.heap.size, 0, none⟩ = some (.slice A' n' c')) := Lib.hid fun v =>
      ⟨(World.cell?_setCell_other _ _ _ _ (by intro e; injection e with e1; have := HS.out; omega)).trans hcn, (World.cell?_setCell_other _ _ _ _ (by intro e; injection e with e1; omega)).trans q1, (World.cell?_setCell_other _ _ _ _ (by intro e; injection e with e1; have := HS.out; omega)).trans q4⟩
    clear hi hbw
    gi_wp2
    refine wpIn_wide.2 ?_
    go_region_held3 (fun w' => w'.cell? ⟨w3.heap.size + 1, 0, none⟩ = some (.int .i64 (most : Nat)) ∧ w'.cell? ⟨w.heap.size, 0, none⟩ = some (.int .u8 most) ∧ w'.cell? ⟨w3.heap.size, 0, none⟩ = some (.slice A' n' c'))
      (first | exact HSS.out _ (Below.refl _ _) | exact HSS.out _ (below_drew (Below.refl _ _)) | exact HSU.out _ | go_keep)
      ((go_simp; go_at_call 12; (with_reducible refine (K12.out _ (by first | with_reducible exact Below.refl _ _ | with_reducible exact below_drew (Below.refl _ _))).mono ?_); rintro e w' ⟨rfl, rfl⟩))
    gi_wp2
    exact leave rfl ((KeepsOthers.setCell W3.drew ⟨w.heap.size + 1, 0, none⟩ _).same D _ hKD rfl) hDw (World.cell?_setCell_same' _ _ _ (by show (W3.cell? _).isSome = true; rw [q2]; rfl)) ((below_drew HBW.out).setCell (p := ⟨w.heap.size + 1, 0, none⟩) (by simp) _)
set_option maxRecDepth 100000 in
set_option maxHeartbeats 8000000 in
theorem walk_no (a0 : Option Addr) (len0 cap0 most : Nat) (l : List UInt8) (w : World) (hM : ML w) (hO : Octs w a0 len0 l) (h : len0 ≤ 1500) (hm : most < 256) (he : ¬ (parseOf (linesIn l)).err = 0) :
    Calls Tryd.prog 3 #[.slice a0 len0 cap0, .int .u8 most] w fun e w' => e = .returned (.bool true) ∧ Below w.heap.size w w' := by
  have BB := boxes_first w most
  have hM0 := hM.below BB.1
  have hO0 := hO.below BB.1
  have hll := hO.len
  have c7 := callsIn_wide (n := 8) |>.2 (awake7 ((w.alloc (.cells #[.int .u8 most] 5)).alloc (.cells #[.bool false] 4)) hM0)
  have C8 := Lib.hid (fun w1 (hb : Below ((w.alloc (.cells #[.int .u8 most] 5)).alloc (.cells #[.bool false] 4)).heap.size ((w.alloc (.cells #[.int .u8 most] 5)).alloc (.cells #[.bool false] 4)) w1) => callsIn_wide (n := 8) |>.2 (parse_no a0 len0 cap0 l w1 (hO0.below hb) (by omega) (hM0.below hb) he))
  have HCV := Lib.hid (fun w1 (hb : Below ((w.alloc (.cells #[.int .u8 most] 5)).alloc (.cells #[.bool false] 4)).heap.size ((w.alloc (.cells #[.int .u8 most] 5)).alloc (.cells #[.bool false] 4)) w1) => conv22 cap0 (hO0.below hb))
  have HBX := Lib.hid (fun w1 (hb : Below ((w.alloc (.cells #[.int .u8 most] 5)).alloc (.cells #[.bool false] 4)).heap.size ((w.alloc (.cells #[.int .u8 most] 5)).alloc (.cells #[.bool false] 4)) w1) => BB.below hb)
  have C9 := Lib.hid (fun w1 => callsIn_wide (n := 8) |>.2 (ref_any l w1 (by omega)))
  have hgood := good_parse (linesIn l)
  have hlen : (parseOf (linesIn l)).rows.length ≤ 100000 := by
    have h1 := len_parse (linesIn l)
    have h2 := lines_num (l := l)
    omega
  obtain ⟨E, hE⟩ : ∃ E, (parseOf (linesIn l)).err = E := ⟨_, rfl⟩
  obtain ⟨M, hMM⟩ : ∃ M, (parseOf (linesIn l)).num = M := ⟨_, rfl⟩
  rw [hE] at C8 C9 he
  rw [hMM] at C8 C9
  have hx1 : (E == 0) = false := beq_false_of_ne he
  have hx2 : (E != 0) = true := bne_iff_ne.2 he
  obtain ⟨ps, hps⟩ : ∃ ps, (parseOf (linesIn l)).rows = ps := ⟨_, rfl⟩
  rw [hps] at C9 hgood hlen
  rw [hps] at C8
  obtain ⟨S, hS⟩ : ∃ S, bs l = S := ⟨_, rfl⟩
  rw [hS] at HCV C9
  have HG := Lib.hid hgood
  have HLN := Lib.hid hlen
  have hd : decide (1500 < (len0 : Int)) = false := decide_eq_false (by omega)
  clear BB hM hM0 hO hO0 hll hgood hlen hps hS he hE hMM
  refine (callsIn_wide (n := 9)).1 ?_
  refine callsIn_of_wp_marks Tryd.func3 rfl trivial ?_ rfl
  simp only [Tryd.ntmps3, List.size_toArray, List.length_cons, List.length_nil, Nat.reduceAdd, Nat.reduceSub, Array.replicate_succ, Array.replicate_zero, List.push_toArray, List.append_toArray, List.nil_append, List.cons_append]
  gi_wp2_with (first
    | (refine ⟨trivial, ?_⟩; gi_at_call 7; (with_reducible refine c7.mono ?_); rintro e w1 ⟨rfl, hb1⟩; clear c7; have hcv1 := HCV.out w1 hb1; have k8 := C8.out w1 hb1; clear C8)
    | (refine ⟨trivial, ?_⟩; gi_at_call 8; (with_reducible refine k8.mono ?_); rintro e w2 ⟨A, c, ls, rfl, HH⟩; clear k8 hcv1; have k9 := C9.out w2; clear C9)
    | (refine ⟨trivial, ?_⟩; gi_at_call 9; (with_reducible refine k9.mono ?_); rintro e w3 ⟨A', n', c', ls', rfl, hn1, hn2, HR⟩; have HN' := Lib.hid hn1; clear hn1 k9; have z12 := hb1.trans (HH.out.1.mono hb1.size); have z13 := z12.trans (HR.out.1.mono z12.size); have Z13 := Lib.hid z13; have hcv3 := HCV.out (w3.alloc (.cells #[.slice A' n' c'] 28)) (z13.alloc z13.size _); have b3 : Below w3.heap.size w3 ((w3.alloc (.cells #[.slice A' n' c'] 28)).alloc (.cells #[.int .i64 0] 3)) := ((Below.refl _ _).alloc (Nat.le_refl _) _).alloc (by simp) _; have k10 := callsIn_wide (n := 8) |>.2 (rows10 none A c ls _ ((HH.out.2.1.below HR.out.1).below b3)); clear b3 z12 z13; rw [World.size_alloc, World.size_alloc] at k10)
    | (refine ⟨trivial, ?_⟩; gi_at_call 10; (with_reducible refine k10.mono ?_); rintro e w5 ⟨rfl, hw5⟩; clear k10))
  have hs5 : w5.heap.size = w3.heap.size + 3 := by rw [hw5]; simp
  have hb35 : Below w3.heap.size w3 w5 := by rw [hw5]; exact (((Below.refl _ _).alloc (Nat.le_refl _) _).alloc (by simp) _).alloc (by simp; omega) _
  have cw5 : w5.cell? ⟨w3.heap.size, 0, none⟩ = some (.slice A' n' c') := by rw [hw5]; exact box_cell _ (box_cell _ (box_new w3 _ 28).1)
  have cl5 : w5.cell? ⟨w3.heap.size + 1, 0, none⟩ = some (.int .i64 0) := by
    have h2 := box_new (w3.alloc (.cells #[.slice A' n' c'] 28)) (.int .i64 0) 3
    rw [World.size_alloc] at h2
    rw [hw5]
    exact box_cell _ h2.1
  have fl5 : w5.frozen? ⟨w3.heap.size + 1, 0, none⟩ = false := by
    have h2 := box_new (w3.alloc (.cells #[.slice A' n' c'] 28)) (.int .i64 0) 3
    rw [World.size_alloc] at h2
    rw [hw5]
    exact box_frozen _ h2.1 h2.2
  obtain ⟨hb12, hT2, hI2⟩ := HH.out
  have cr5 : w5.cell? ⟨w3.heap.size + 1 + 1, 0, none⟩ = some (.slice A ls.length c) := by
    have h2 := box_new ((w3.alloc (.cells #[.slice A' n' c'] 28)).alloc (.cells #[.int .i64 0] 3)) (.slice A ls.length c) 28
    rw [World.size_alloc, World.size_alloc] at h2
    rw [hw5]
    exact h2.1
  rw [← hw5]
  clear hw5
  obtain ⟨hb23, hR3, hIr3⟩ := HR.out
  have hT3 := hT2.below hb23
  have hI3 := hI2.below hb23
  have hA3 : 0 < ls.length → ∀ a, A = some a → a.block < w3.heap.size := by
    intro hn a e
    obtain ⟨b, off, e', hlt, -⟩ := hT3.rat.2 hn
    rw [e] at e'
    cases e'
    exact hlt
  have hD3 : ∀ t ∈ ls, 0 < t.dm → ∀ a, t.dp = some a → a.block < w3.heap.size := by
    intro t ht hd a e
    obtain ⟨p, -, hp⟩ := ist_mem hI3 ht
    obtain ⟨b, off, e', hlt, -⟩ := hp.2.2.2.2.2.2.2 hd
    rw [e] at e'
    cases e'
    exact hlt
  have hq := seq25 8 (w3.heap.size + 1 + 1) ls.length c A ls ps (fun k => k ≠ w3.heap.size + 1) w5 (by omega) (by rw [hI2.len]; exact HLN.out) (fun p hp => by have := (HG.out.2 p hp).2.2.2; omega) (by omega) cr5 (hT3.rat.below hb35) (hI3.below hb35) (by
    rintro k hk (rfl | ⟨hn, a, e, rfl⟩ | ⟨t, ht, hd, a, e, rfl⟩)
    · omega
    · have := hA3 hn a e; omega
    · have := hD3 t ht hd a e; omega)
  have h0 : UaI most (w3.heap.size + 1) w3 w5 [] w5 := ⟨Nat.zero_le _, ⟨cl5, fl5⟩, Kept.refl _ _, hb35⟩
  have HQ := Lib.hid hq
  have H0 := Lib.hid h0
  have HAB := Lib.hid (uai_abide most (w3.heap.size + 1) w3 w5 hb35.size)
  have HAX := Lib.hid (uax_abide 0 most (w3.heap.size + 1) w3 w5 hb35.size)
  have HCW := Lib.hid cw5
  have HB3 := Lib.hid (HBX.out w3 Z13.out)
  have HS : Hid (w5.heap.size = w3.heap.size + 3 ∧ w.heap.size + 1 < w3.heap.size) := Lib.hid ⟨hs5, HB3.out.2.2.2.2⟩
  have HRR : Hid (RAt w3 A' n' ls' ∧ Ist w3 ls' ps) := Lib.hid ⟨hR3, hIr3⟩
  have HTT : Hid (TIn w3 none A c ls ∧ ls.length = n') := Lib.hid ⟨hT3, by rw [hI2.len]; exact HN'.out.symm⟩
  clear hs5 hb35 cw5 cl5 fl5 cr5 hb12 hT2 hI2 hb23 hR3 hIr3 hT3 hI3 hA3 hD3 hq h0 hcv3 hb1 Z13 HBX HCV HR HH
  refine range_nx2 rfl (by omega) rfl trivial (enters_of Tryd.func25 (by kernel_rfl) rfl) HQ.out (Nat.zero_le _) (by have := HS.out; omega) (by have := HS.out; omega) (fun _ => rfl) (fun x => rwRd_abide _ x _)
    (UaI most (w3.heap.size + 1) w3 w5) (UaX 0 most (w3.heap.size + 1) w3 w5) HAB.out HAX.out H0.out RwBx (fun x b => rwBx_abide x b _) ?a1 ?assign ?body ?done ?stop
  case assign =>
    rintro lq pre x W' K hi hr hK
    simp only [rwArr, rwV]
    gi_wp2
    obtain ⟨b', hb'⟩ : ∃ b', W'.heap.size = b' := ⟨_, rfl⟩
    rw [hb']
    have hbo : ∀ o, Below W'.heap.size W' (W'.alloc o) := fun o => (Below.refl _ _).alloc (Nat.le_refl _) o
    refine hK b' _ (Kept.of_below (hbo _)) (HAB.out.below hi (hbo _)) ((rwRd_abide _ x w5.heap.size).below (s := ()) hr (hbo _)) ?_
    rw [← hb']
    exact ⟨by simp, by simp, by simp, by simp, by simp, by simp⟩
  case body =>
    rintro lq pre ⟨s, p⟩ b' Wb hi hr ⟨e0, e1, e2, e3, e4, e5⟩ ⟨hnx, -⟩
    rw [List.map_append] at hnx
    have hbw := hi.2.2.2
    obtain ⟨-, q1, -, -, -⟩ := HB3.out.below hbw
    have q4 : Wb.cell? ⟨w3.heap.size, 0, none⟩ = some (.slice A' n' c') := hi.2.2.1.cell (a := ⟨w3.heap.size, 0, none⟩) (by show w3.heap.size ≠ _; omega) HCW.out
    obtain ⟨hkN, s', hs', hIs'⟩ := ref_row (HRR.out.2.below hbw) hnx (List.length_map _)
    rw [← HN'.out] at hkN
    have hRb := HRR.out.1.below hbw
    have hnext := fun hge d os => @ua_next most (w3.heap.size + 1) w3 w5 Wb pre (s, p) hi hge (by omega) d os
    have hbrk : pre.length = most → Hid (Kept (fun k => k ≠ w3.heap.size + 1) Wb Wb ∧ UaX 0 most (w3.heap.size + 1) w3 w5 (.exit 0) (pre ++ [(s, p)]) Wb) := fun e => Lib.hid ⟨Kept.refl _ _, ⟨rfl, by simp [e]⟩, ⟨by rw [← e]; exact hi.2.1.1, hi.2.1.2⟩, hi.2.2.1, hi.2.2.2⟩
    have hcn := hi.2.1.1
    have hfn := hi.2.1.2
    have hkm := hi.1
    have hpm : p ∈ ps := by obtain ⟨r, hr'⟩ := hnx; rw [← hr']; simp
    have hpd : p.dec.length ≤ 1000 := by have := (HG.out.2 p hpm).2.2.2; omega
    have KS := Lib.hid (fun d os m => @regrown_in Tryd.prog 11 #[rwV s, rwV s'] Wb d m lq os (.bool true) (same11 s s' p _ (hr.1.below (below_regrown Wb d os)) (hIs'.below (below_regrown Wb d os)) hpd))
    obtain ⟨k, hk⟩ : ∃ k, pre.length = k := ⟨_, rfl⟩
    rw [hk] at hcn hkm hnext hbrk hkN hs'
    obtain ⟨b2, off, hA', hlt2, hc2⟩ := hRb.2 (by omega)
    obtain ⟨g1, g2, g3, g4, g5, g6⟩ := hc2 k s' hs'
    dsimp only at e0 e1 e2 e3 e4 e5
    unfold rwV at KS
    obtain ⟨T, hT⟩ : ∃ T, bs s.gc = T := ⟨_, rfl⟩
    obtain ⟨U, hU⟩ : ∃ T, bs s.bd = T := ⟨_, rfl⟩
    obtain ⟨T', hT'⟩ : ∃ T, bs s'.gc = T := ⟨_, rfl⟩
    obtain ⟨U', hU'⟩ : ∃ T, bs s'.bd = T := ⟨_, rfl⟩
    rw [hT] at e2 KS
    rw [hU] at e4 KS
    rw [hT'] at g3 KS
    rw [hU'] at g5 KS
    have HNX := Lib.hid hnext
    clear hi hr hnx hbw hIs' hRb hnext hpm hpd hk hc2 hs' hT hU hT' hU'
    by_cases hge : k < most
    · have R := Lib.hid (HNX.out hge)
      have hd0 : decide (n' ≤ k) = false := decide_eq_false (by omega)
      subst hA'
      have z0 := fun d os => cell_regrown e0 d os
      have z1 := fun d os => cell_regrown e1 d os
      have z2 := fun d os => cell_regrown e2 d os
      have z3 := fun d os => cell_regrown e3 d os
      have z4 := fun d os => cell_regrown e4 d os
      have z5 := fun d os => cell_regrown e5 d os
      have y1 := fun d os => cell_regrown g1 d os
      have y2 := fun d os => cell_regrown g2 d os
      have y3 := fun d os => cell_regrown g3 d os
      have y4 := fun d os => cell_regrown g4 d os
      have y5 := fun d os => cell_regrown g5 d os
      have y6 := fun d os => cell_regrown g6 d os
      have x4 := fun d os => cell_regrown q4 d os
      have xl := fun d os => cell_regrown hcn d os
      have xf : ∀ d os, (grow (redrawn Wb d) os).frozen? ⟨w3.heap.size + 1, 0, none⟩ = false := fun d os => ((below_regrown Wb d os).frozen (p := ⟨w3.heap.size + 1, 0, none⟩) (World.block_lt_of_cell? Wb _ hcn)).trans hfn
      clear HNX hbrk
      gi_wp2
      refine region_round_below (by kernel_rfl) hmx (by kernel_rfl) ?_
      repeat (gi_big_quiet_step (((gi_at_call 11; exact KS.out _ _ _))))
      refine wpQuietIn_nil ?_
      intro _ hw'
      obtain ⟨⟨dq, osq⟩, hw''⟩ := hw'
      subst hw''
      gi_wp2
      exact R.out dq osq
    · have hke : k = most := by omega
      have HBK := hbrk hke
      subst hke
      clear HNX hbrk KS hA' g1 g2 g3 g4 g5 g6
      gi_wp2
      exact HBK.out
  case done =>
    rintro D xs W3 hD hxs hi hKD
    have hbw := hi.2.2.2
    obtain ⟨-, q1, q2, q3, -⟩ := HB3.out.below hbw
    have q4 : W3.cell? ⟨w3.heap.size, 0, none⟩ = some (.slice A' n' c') := hi.2.2.1.cell (a := ⟨w3.heap.size, 0, none⟩) (by show w3.heap.size ≠ _; omega) HCW.out
    have hlen : xs.length = n' := by
      have := congrArg List.length hxs
      rw [List.length_map, ← HN'.out] at this
      exact this
    have hcn := hi.2.1.1
    have hkm := hi.1
    rw [hlen] at hcn hkm
    clear hxs hlen
    have K12 : Hid (∀ W, Below W3.heap.size W3 W → Calls Tryd.prog 12 #[.pointer none] W fun e w' => e = .returned (.int .i64 n') ∧ W = w') := Lib.hid fun W hb => (len12 none A c ls W ((HTT.out.1.below hbw).below hb)).mono fun e w' h => ⟨by rw [h.1, HTT.out.2], h.2⟩
    have HBW := Lib.hid (HB3.out.1.trans (hbw.mono HB3.out.1.size))
    have hDw : w.heap.size ≤ D := by have := HS.out; omega
    have hwr : IntKind.i64.wrap (most : Int) = (most : Int) := by simp [IntKind.wrap, IntKind.bits, IntKind.signed]; omega
    have hmin : ((n' : Int) == min (most : Int) (n' : Int)) = true := by rw [Int.min_eq_right (by omega)]; simp
    have HSS : Hid (∀ W, Below W3.heap.size W3 W → W.cell? ⟨w3.heap.size + 1, 0, none⟩ = some (.int .i64 (n' : Nat)) ∧ W.cell? ⟨w.heap.size, 0, none⟩ = some (.int .u8 most) ∧ W.cell? ⟨w3.heap.size, 0, none⟩ = some (.slice A' n' c')) := Lib.hid fun W hb =>
      ⟨(hb.cell (p := ⟨w3.heap.size + 1, 0, none⟩) (World.block_lt_of_cell? W3 _ hcn)).trans hcn, (hb.cell (p := ⟨w.heap.size, 0, none⟩) (World.block_lt_of_cell? W3 _ q1)).trans q1, (hb.cell (p := ⟨w3.heap.size, 0, none⟩) (World.block_lt_of_cell? W3 _ q4)).trans q4⟩
    have HSU : Hid (∀ v, (W3.setCell ⟨w.heap.size + 1, 0, none⟩ v).cell? ⟨w3.heap.size + 1, 0, none⟩ = some (.int .i64 (n' : Nat)) ∧ (W3.setCell ⟨w.heap.size + 1, 0, none⟩ v).cell? ⟨w.heap.size, 0, none⟩ = some (.int .u8 most) ∧ (W3.setCell ⟨w.heap.size + 1, 0, none⟩ v).cell? ⟨w3.heap.size, 0, none⟩ = some (.slice A' n' c')) := Lib.hid fun v =>
      ⟨(World.cell?_setCell_other _ _ _ _ (by intro e; injection e with e1; have := HS.out; omega)).trans hcn, (World.cell?_setCell_other _ _ _ _ (by intro e; injection e with e1; omega)).trans q1, (World.cell?_setCell_other _ _ _ _ (by intro e; injection e with e1; have := HS.out; omega)).trans q4⟩
    clear hi hbw
    gi_wp2
    refine wpIn_wide.2 ?_
    go_region_held3 (fun w' => w'.cell? ⟨w3.heap.size + 1, 0, none⟩ = some (.int .i64 (n' : Nat)) ∧ w'.cell? ⟨w.heap.size, 0, none⟩ = some (.int .u8 most) ∧ w'.cell? ⟨w3.heap.size, 0, none⟩ = some (.slice A' n' c'))
      (first | exact HSS.out _ (Below.refl _ _) | exact HSS.out _ (below_drew (Below.refl _ _)) | exact HSU.out _ | go_keep)
      ((go_simp; go_at_call 12; (with_reducible refine (K12.out _ (by first | with_reducible exact Below.refl _ _ | with_reducible exact below_drew (Below.refl _ _))).mono ?_); rintro e w' ⟨rfl, rfl⟩))
    gi_wp2
    exact leave rfl ((KeepsOthers.setCell W3.drew ⟨w.heap.size + 1, 0, none⟩ _).same D _ hKD rfl) hDw (World.cell?_setCell_same' _ _ _ (by show (W3.cell? _).isSome = true; rw [q2]; rfl)) ((below_drew HBW.out).setCell (p := ⟨w.heap.size + 1, 0, none⟩) (by simp) _)
  case stop =>
    rintro D c2 pre W3 hD hpre ⟨⟨rfl, hpl⟩, hi⟩ hKD
    have hbw := hi.2.2
    obtain ⟨-, q1, q2, q3, -⟩ := HB3.out.below hbw
    have q4 : W3.cell? ⟨w3.heap.size, 0, none⟩ = some (.slice A' n' c') := hi.2.1.cell (a := ⟨w3.heap.size, 0, none⟩) (by show w3.heap.size ≠ _; omega) HCW.out
    have hle : most + 1 ≤ n' := by
      have := hpre.length_le
      rw [List.length_map, hpl, ← HN'.out] at this
      exact this
    have hcn := hi.1.1
    clear hpre hpl
    have K12 : Hid (∀ W, Below W3.heap.size W3 W → Calls Tryd.prog 12 #[.pointer none] W fun e w' => e = .returned (.int .i64 n') ∧ W = w') := Lib.hid fun W hb => (len12 none A c ls W ((HTT.out.1.below hbw).below hb)).mono fun e w' h => ⟨by rw [h.1, HTT.out.2], h.2⟩
    have HBW := Lib.hid (HB3.out.1.trans (hbw.mono HB3.out.1.size))
    have hDw : w.heap.size ≤ D := by have := HS.out; omega
    have hwr : IntKind.i64.wrap (most : Int) = (most : Int) := by simp [IntKind.wrap, IntKind.bits, IntKind.signed]; omega
    have hmin : ((most : Int) == min (most : Int) (n' : Int)) = true := by rw [Int.min_eq_left (by omega)]; simp
    have HSS : Hid (∀ W, Below W3.heap.size W3 W → W.cell? ⟨w3.heap.size + 1, 0, none⟩ = some (.int .i64 (most : Nat)) ∧ W.cell? ⟨w.heap.size, 0, none⟩ = some (.int .u8 most) ∧ W.cell? ⟨w3.heap.size, 0, none⟩ = some (.slice A' n' c')) := Lib.hid fun W hb =>
      ⟨(hb.cell (p := ⟨w3.heap.size + 1, 0, none⟩) (World.block_lt_of_cell? W3 _ hcn)).trans hcn, (hb.cell (p := ⟨w.heap.size, 0, none⟩) (World.block_lt_of_cell? W3 _ q1)).trans q1, (hb.cell (p := ⟨w3.heap.size, 0, none⟩) (World.block_lt_of_cell? W3 _ q4)).trans q4⟩
    have HSU : Hid (∀ v, (W3.setCell ⟨w.heap.size + 1, 0, none⟩ v).cell? ⟨w3.heap.size + 1, 0, none⟩ = some (.int .i64 (most : Nat)) ∧ (W3.setCell ⟨w.heap.size + 1, 0, none⟩ v).cell? ⟨w.heap.size, 0, none⟩ = some (.int .u8 most) ∧ (W3.setCell ⟨w.heap.size + 1, 0, none⟩ v).cell? ⟨w3.heap.size, 0, none⟩ = some (.slice A' n' c')) := Lib.hid fun v =>
      ⟨(World.cell?_setCell_other _ _ _ _ (by intro e; injection e with e1; have := HS.out; omega)).trans hcn, (World.cell?_setCell_other _ _ _ _ (by intro e; injection e with e1; omega)).trans q1, (World.cell?_setCell_other _ _ _ _ (by intro e; injection e with e1; have := HS.out; omega)).trans q4⟩
    clear hi hbw
    gi_wp2
    refine wpIn_wide.2 ?_
    go_region_held3 (fun w' => w'.cell? ⟨w3.heap.size + 1, 0, none⟩ = some (.int .i64 (most : Nat)) ∧ w'.cell? ⟨w.heap.size, 0, none⟩ = some (.int .u8 most) ∧ w'.cell? ⟨w3.heap.size, 0, none⟩ = some (.slice A' n' c'))
      (first | exact HSS.out _ (Below.refl _ _) | exact HSS.out _ (below_drew (Below.refl _ _)) | exact HSU.out _ | go_keep)
      ((go_simp; go_at_call 12; (with_reducible refine (K12.out _ (by first | with_reducible exact Below.refl _ _ | with_reducible exact below_drew (Below.refl _ _))).mono ?_); rintro e w' ⟨rfl, rfl⟩))
    gi_wp2
    exact leave rfl ((KeepsOthers.setCell W3.drew ⟨w.heap.size + 1, 0, none⟩ _).same D _ hKD rfl) hDw (World.cell?_setCell_same' _ _ _ (by show (W3.cell? _).isSome = true; rw [q2]; rfl)) ((below_drew HBW.out).setCell (p := ⟨w.heap.size + 1, 0, none⟩) (by simp) _)
theorem walk (a0 : Option Addr) (len0 cap0 : Nat) (z0 : List Int) (a1 : Int) (w : World) (hM : ML w) (w0 : IsRow .u8 w a0 len0 cap0 z0) (w1 : (Lit.int .u8 a1).wf = true) :
    Calls Tryd.prog 3 #[.slice a0 len0 cap0, .int .u8 a1] w fun e w' => e = .returned (.bool true) ∧ Below w.heap.size w w' := by
  have hb := bounds_u8 w1
  obtain ⟨most, rfl⟩ : ∃ m : Nat, a1 = (m : Int) := ⟨a1.toNat, by omega⟩
  by_cases h0 : 1500 < len0
  · exact walk_long a0 len0 cap0 most w hM h0
  · obtain ⟨l, hO, -, -⟩ := w0.octs
    by_cases he : (parseOf (linesIn l)).err = 0
    · exact walk_ok a0 len0 cap0 most l w hM hO (by omega) (by omega) he
    · exact walk_no a0 len0 cap0 most l w hM hO (by omega) (by omega) he
end Go.Proofs.YtfmkhfjdihfppaaDoor.unicodeParses
