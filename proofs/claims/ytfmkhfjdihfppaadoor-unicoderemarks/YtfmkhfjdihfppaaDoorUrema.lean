/- The law of remarks between lines, walked. -/
import Derived.Test.YtfmkhfjdihfppaaDoorUrem
import Derived.Test.YtfmkhfjdihfppaaDoorLaid
import Derived.Deep.RegionHeld3
namespace Go.Proofs.YtfmkhfjdihfppaaDoor.unicodeRemarks
open Go.RowKit Go.Shelf Go.Sort
attribute [local go_sem] Oper.semAt_some
attribute [local go_sem, simp] round_fn
theorem hmx : Tryd.prog.follows .mixedOrders = true := by kernel_rfl

theorem leave {w Wf : World} {D : Nat} {tmps : Array Value} {m : Nat} (ht : tmps[2]?.getD undef = .pointer (some ⟨w.heap.size, 0, none⟩)) (hk : Wf.heap[D]? = some (.deferred (some []))) (hd : w.heap.size ≤ D)
    (hr : Wf.cell? ⟨w.heap.size, 0, none⟩ = some (.bool true)) (hb : Below w.heap.size w Wf) :
    LeavesInM Fence.wide m Tryd.prog Tryd.f6 tmps (fun e w' => e = .returned (.bool true) ∧ Below w.heap.size w w') [{ target := .collected D, args := #[] }] .returning Wf := by
  refine ⟨by simp, .inl ⟨_, _, rfl, run_takeDeferred hk, ?_⟩⟩
  have h1 := cell_kept hr (grownBy_putObj' _ D (.deferred none)) (fun r e => by cases e; exact ⟨_, hk, rfl⟩)
  refine ⟨.bool true, ?_, rfl, hb.trans (belowK_b (w := w) (Nat.le_refl _) _ D _ _ hd hk rfl rfl)⟩
  simp [results, Tryd.results6, go_sem, h1, ht]
/-- The result's box has been laid. -/
def B1 (w W : World) : Prop := Below w.heap.size w W ∧ W.cell? ⟨w.heap.size, 0, none⟩ = some (.bool false) ∧ W.frozen? ⟨w.heap.size, 0, none⟩ = false ∧ w.heap.size < W.heap.size
theorem B1.below {w W W' : World} (h : B1 w W) (hb : Below W.heap.size W W') : B1 w W' := by
  obtain ⟨h1, h3, h4, h5⟩ := h
  exact ⟨h1.trans (hb.mono h1.size), (hb.cell (p := ⟨w.heap.size, 0, none⟩) h5).trans h3, (hb.frozen (p := ⟨w.heap.size, 0, none⟩) h5).trans h4, Nat.lt_of_lt_of_le h5 hb.size⟩
theorem b1_first (w : World) : B1 w (w.alloc (.cells #[.bool false] 4)) := ⟨(Below.refl _ _).alloc (Nat.le_refl _) _, by simp, frozen_new w _ _ 0, by simp⟩

set_option maxRecDepth 100000 in
set_option maxHeartbeats 1000000 in
theorem walk_long (a0 : Option Addr) (len0 cap0 : Nat) (w : World) (hM : ML w) (h : 1000 < len0) :
    Calls Tryd.prog 6 #[.slice a0 len0 cap0] w fun e w' => e = .returned (.bool true) ∧ Below w.heap.size w w' := by
  have BB := b1_first w
  have hM0 := hM.below BB.1
  have c7 := awake7 (w.alloc (.cells #[.bool false] 4)) hM0
  have c7' := fun w1 (hb : Below (w.alloc (.cells #[.bool false] 4)).heap.size (w.alloc (.cells #[.bool false] 4)) w1) => awake7 w1 (hM0.below hb)
  have HB := Lib.hid BB
  have C7 := Lib.hid c7'
  have hd : decide (1000 < (len0 : Int)) = true := decide_eq_true (by omega)
  clear BB hM hM0 c7'
  have hfin : Hid (∀ w1 w2, Below (w.alloc (.cells #[.bool false] 4)).heap.size (w.alloc (.cells #[.bool false] 4)) w1 → Below w1.heap.size w1 w2 → B1 w w2) := Lib.hid fun w1 w2 h1 h2 => (HB.out.below h1).below h2
  go_enter Tryd.func6, Tryd.ntmps6
  go_wp2_with (first
    | (go_at_call 7; (with_reducible refine c7.mono ?_); rintro e w1 ⟨rfl, hb1⟩; clear c7; have k7 := C7.out w1 hb1)
    | (go_at_call 7; (with_reducible refine k7.mono ?_); rintro e w2 ⟨rfl, hb2⟩; obtain ⟨e1, e2, e3, e4⟩ := hfin.out w1 w2 hb1 hb2))
  exact bodyPost_ret (v := .bool true) (by simp [results, Tryd.results6, go_sem, e2]) rfl ⟨rfl, e1.setCell (p := ⟨w.heap.size, 0, none⟩) (Nat.le_refl _) _⟩

theorem cat_one (l : List UInt8) : (({ data := #[35, 32, 114, 101, 109, 97, 114, 107, 32, 59, 32, 119, 105, 116, 104, 32, 59, 32, 102, 105, 101, 108, 100, 115, 10, 10] } : ByteArray) ++ bs l) = bs (preO ++ l) := by
  apply ByteArray.ext
  simp [bs, preO, ByteArray.data_append]
theorem cat_two (l : List UInt8) : (bs (preO ++ l) ++ ({ data := #[10, 9, 35, 32, 97, 110, 111, 116, 104, 101, 114, 32, 111, 110, 101, 10, 32, 10] } : ByteArray)) = bs (preO ++ l ++ postO) := by
  apply ByteArray.ext
  simp [bs, postO, ByteArray.data_append]

set_option maxRecDepth 100000 in
set_option maxHeartbeats 8000000 in
theorem walk_ok (a0 : Option Addr) (len0 cap0 : Nat) (l : List UInt8) (w : World) (hM : ML w) (hO : Octs w a0 len0 l) (h : len0 ≤ 1000) (he : (parseOf (linesIn l)).err = 0) :
    Calls Tryd.prog 6 #[.slice a0 len0 cap0] w fun e w' => e = .returned (.bool true) ∧ Below w.heap.size w w' := by
  have BB := b1_first w
  have hM0 := hM.below BB.1
  have hO0 := hO.below BB.1
  have hll := hO.len
  have hl2 : (preO ++ l ++ postO).length ≤ 2000 := by simp [preO, postO]; omega
  have he' : (parseOf (linesIn (preO ++ l ++ postO))).err = 0 := by rw [parse_with]; exact he
  have hr' : (parseOf (linesIn (preO ++ l ++ postO))).rows = (parseOf (linesIn l)).rows := by rw [parse_with]; rfl
  have c7 := callsIn_wide (n := 8) |>.2 (awake7 (w.alloc (.cells #[.bool false] 4)) hM0)
  have C8 := Lib.hid (fun w1 (hb : Below (w.alloc (.cells #[.bool false] 4)).heap.size (w.alloc (.cells #[.bool false] 4)) w1) => callsIn_wide (n := 8) |>.2 (parse_ok a0 len0 cap0 l w1 (hO0.below hb) (by omega) (hM0.below hb) he))
  have C8' := Lib.hid (fun (w1 : World) (A : Option Addr) (n c : Nat) (hn : n ≤ 2000) (ho : Octs w1 A n (preO ++ l ++ postO)) (hm : ML w1) => callsIn_wide (n := 8) |>.2 (parse_ok A n c (preO ++ l ++ postO) w1 ho hn hm he'))
  have HCV := Lib.hid (fun w1 (hb : Below (w.alloc (.cells #[.bool false] 4)).heap.size (w.alloc (.cells #[.bool false] 4)) w1) => conv22 cap0 (hO0.below hb))
  have HMM := Lib.hid (fun w1 (hb : Below (w.alloc (.cells #[.bool false] 4)).heap.size (w.alloc (.cells #[.bool false] 4)) w1) => hM0.below hb)
  have HBX := Lib.hid (fun w1 (hb : Below (w.alloc (.cells #[.bool false] 4)).heap.size (w.alloc (.cells #[.bool false] 4)) w1) => BB.below hb)
  have C9 := Lib.hid (fun w1 => callsIn_wide (n := 8) |>.2 (ref_any l w1 (by omega)))
  have HBY := Lib.hid (fun w1 => bytes_octs w1 (preO ++ l ++ postO))
  have hgood := good_parse (linesIn l)
  have hcat := cat_two l
  have hcat1 := cat_one l
  have hsz1 : (bs l).size ≤ 1000 := by rw [bs_size]; omega
  have hsz2 : (bs (preO ++ l)).size ≤ 1100 := by rw [bs_size]; simp [preO]; omega
  have hlen : (parseOf (linesIn l)).rows.length ≤ 100000 := by
    have h1 := len_parse (linesIn l)
    have h2 := lines_num (l := l)
    omega
  rw [hr'] at C8'
  have hnum : (parseOf (linesIn l)).num = 0 := num_zero (linesIn l) [] he
  rw [he, hnum] at C9
  obtain ⟨ps, hps⟩ : ∃ ps, (parseOf (linesIn l)).rows = ps := ⟨_, rfl⟩
  rw [hps] at C8 C8' C9 hgood hlen
  obtain ⟨S, hS⟩ : ∃ S, bs l = S := ⟨_, rfl⟩
  rw [hS] at HCV C9 hcat1 hsz1
  obtain ⟨S1, hS1⟩ : ∃ S, bs (preO ++ l) = S := ⟨_, rfl⟩
  rw [hS1] at hcat1 hcat hsz2
  obtain ⟨L2, hL2⟩ : ∃ L2, preO ++ l ++ postO = L2 := ⟨_, rfl⟩
  rw [hL2] at C8' HBY hcat hl2
  obtain ⟨X, hX⟩ : ∃ X, bs L2 = X := ⟨_, rfl⟩
  rw [hX] at hcat HBY
  obtain ⟨n2, hn2⟩ : ∃ n, L2.length = n := ⟨_, rfl⟩
  rw [hn2] at HBY hl2
  have HG := Lib.hid hgood
  have HLN := Lib.hid hlen
  obtain ⟨N, hN⟩ : ∃ N, ps.length = N := ⟨_, rfl⟩
  have HNN := Lib.hid hN
  have hd : decide (1000 < (len0 : Int)) = false := decide_eq_false (by omega)
  clear BB hM hM0 hO hO0 hll hgood hlen hps hS hS1 hL2 hX hn2 hN he he' hr' hnum
  refine (callsIn_wide (n := 9)).1 ?_
  refine callsIn_of_wp_marks Tryd.func6 rfl trivial ?_ rfl
  simp only [Tryd.ntmps6, List.size_toArray, List.length_cons, List.length_nil, Nat.reduceAdd, Nat.reduceSub, Array.replicate_succ, Array.replicate_zero, List.push_toArray, List.append_toArray, List.nil_append, List.cons_append]
  gi_wp2_with (first
    | (refine ⟨trivial, ?_⟩; gi_at_call 7; (with_reducible refine c7.mono ?_); rintro e w1 ⟨rfl, hb1⟩; clear c7; have k8 := C8.out w1 hb1; clear C8)
    | (refine ⟨trivial, ?_⟩; gi_at_call 8; (with_reducible refine k8.mono ?_); rintro e w2 ⟨bt, A, c, ls, rfl, HH⟩; clear k8; have z12 := hb1.trans (HH.out.1.mono hb1.size); have hcv2 := HCV.out w2 z12; obtain ⟨c2, o2, hby, hoc⟩ := HBY.out w2; have b2o : Below w2.heap.size w2 ((w2.alloc o2).drew) := below_drew ((Below.refl _ _).alloc (Nat.le_refl _) _); have Z12 := Lib.hid z12; have B2O := Lib.hid b2o; have k8' := C8'.out ((w2.alloc o2).drew) (some ⟨w2.heap.size, 0, none⟩) n2 c2 hl2 hoc (HMM.out _ (z12.trans (b2o.mono z12.size))); clear hoc b2o z12)
    | (refine ⟨trivial, ?_⟩; gi_at_call 8; (with_reducible refine k8'.mono ?_); rintro e w3 ⟨bu, B, d, ms, rfl, HU⟩; clear k8' hby hcv2; have b23 : Below w2.heap.size w2 w3 := B2O.out.trans (HU.out.1.mono B2O.out.size); have z13 := Z12.out.trans (b23.mono Z12.out.size); have hcv3 := HCV.out w3 z13; have B23 := Lib.hid b23; have Z13 := Lib.hid z13; have k12 : CallsIn Fence.wide 8 Tryd.prog 12 #[.pointer (some ⟨bt, 0, none⟩)] w3 (fun e w' => e = .returned (.int .i64 N) ∧ w3 = w') := callsIn_wide (n := 8) |>.2 ((len12 (some ⟨bt, 0, none⟩) A c ls w3 (HH.out.2.2.1.below b23)).mono fun e w' hh => ⟨by rw [hh.1, HH.out.2.2.2.1.len, HNN.out], hh.2⟩); have k12' : CallsIn Fence.wide 8 Tryd.prog 12 #[.pointer (some ⟨bu, 0, none⟩)] w3 (fun e w' => e = .returned (.int .i64 N) ∧ w3 = w') := callsIn_wide (n := 8) |>.2 ((len12 (some ⟨bu, 0, none⟩) B d ms w3 HU.out.2.2.1).mono fun e w' hh => ⟨by rw [hh.1, HU.out.2.2.2.1.len, HNN.out], hh.2⟩); have k9 := C9.out w3; clear C9 b23 z13)
    | (refine ⟨trivial, ?_⟩; gi_at_call 12; (first | (with_reducible refine k12.mono ?_) | (with_reducible refine k12'.mono ?_)); rintro e w' ⟨rfl, rfl⟩)
    | (refine ⟨trivial, ?_⟩; gi_at_call 9; (with_reducible refine k9.mono ?_); rintro e w4 ⟨A', n', c', ls', rfl, hn1, hn2, HR⟩; have HN' := Lib.hid (hn1.trans HNN.out); clear hn1 k9 k12 k12' hcv3; have b4 : Below w4.heap.size w4 ((w4.alloc (.cells #[.slice A' n' c'] 28)).alloc (.cells #[.int .i64 0] 3)) := ((Below.refl _ _).alloc (Nat.le_refl _) _).alloc (by simp) _; have k10 := callsIn_wide (n := 8) |>.2 (rows10 (some ⟨bu, 0, none⟩) B d ms _ ((HU.out.2.2.1.below HR.out.1).below b4)); clear b4; rw [World.size_alloc, World.size_alloc] at k10)
    | (refine ⟨trivial, ?_⟩; gi_at_call 10; (with_reducible refine k10.mono ?_); rintro e w5 ⟨rfl, hw5⟩; clear k10))
  have hs5 : w5.heap.size = w4.heap.size + 3 := by rw [hw5]; simp
  have hb45 : Below w4.heap.size w4 w5 := by rw [hw5]; exact (((Below.refl _ _).alloc (Nat.le_refl _) _).alloc (by simp) _).alloc (by simp; omega) _
  have cw5 : w5.cell? ⟨w4.heap.size, 0, none⟩ = some (.slice A' n' c') := by rw [hw5]; exact box_cell _ (box_cell _ (box_new w4 _ 28).1)
  have cl5 : w5.cell? ⟨w4.heap.size + 1, 0, none⟩ = some (.int .i64 0) := by
    have h2 := box_new (w4.alloc (.cells #[.slice A' n' c'] 28)) (.int .i64 0) 3
    rw [World.size_alloc] at h2
    rw [hw5]
    exact box_cell _ h2.1
  have fl5 : w5.frozen? ⟨w4.heap.size + 1, 0, none⟩ = false := by
    have h2 := box_new (w4.alloc (.cells #[.slice A' n' c'] 28)) (.int .i64 0) 3
    rw [World.size_alloc] at h2
    rw [hw5]
    exact box_frozen _ h2.1 h2.2
  have cr5 : w5.cell? ⟨w4.heap.size + 1 + 1, 0, none⟩ = some (.slice B ms.length d) := by
    have h2 := box_new ((w4.alloc (.cells #[.slice A' n' c'] 28)).alloc (.cells #[.int .i64 0] 3)) (.slice B ms.length d) 28
    rw [World.size_alloc, World.size_alloc] at h2
    rw [hw5]
    exact h2.1
  rw [← hw5]
  clear hw5
  obtain ⟨hb34, hR4, hIr4⟩ := HR.out
  have hT4 := HU.out.2.2.1.below hb34
  have hI4 := HU.out.2.2.2.1.below hb34
  have hA4 : 0 < ms.length → ∀ a, B = some a → a.block < w4.heap.size := by
    intro hn a e
    obtain ⟨b, off, e', hlt, -⟩ := hT4.rat.2 hn
    rw [e] at e'
    cases e'
    exact hlt
  have hD4 : ∀ t ∈ ms, 0 < t.dm → ∀ a, t.dp = some a → a.block < w4.heap.size := by
    intro t ht hd a e
    obtain ⟨p, -, hp⟩ := ist_mem hI4 ht
    obtain ⟨b, off, e', hlt, -⟩ := hp.2.2.2.2.2.2.2 hd
    rw [e] at e'
    cases e'
    exact hlt
  have hq := seq25 8 (w4.heap.size + 1 + 1) ms.length d B ms ps (fun k => k ≠ w4.heap.size + 1) w5 (by omega) (by rw [hI4.len]; exact HLN.out) (fun p hp => by have := (HG.out.2 p hp).2.2.2; omega) (by omega) cr5 (hT4.rat.below hb45) (hI4.below hb45) (by
    rintro k hk (rfl | ⟨hn, a, e, rfl⟩ | ⟨t, ht, hd, a, e, rfl⟩)
    · omega
    · have := hA4 hn a e; omega
    · have := hD4 t ht hd a e; omega)
  have h0 : UaI N (w4.heap.size + 1) w4 w5 [] w5 := ⟨Nat.zero_le _, ⟨cl5, fl5⟩, Kept.refl _ _, hb45⟩
  have HQ := Lib.hid hq
  have H0 := Lib.hid h0
  have HAB := Lib.hid (uai_abide N (w4.heap.size + 1) w4 w5 hb45.size)
  have HCW := Lib.hid cw5
  have HB4 := Lib.hid ((HBX.out w3 Z13.out).below hb34)
  have HS : Hid (w5.heap.size = w4.heap.size + 3 ∧ w.heap.size < w4.heap.size) := Lib.hid ⟨hs5, HB4.out.2.2.2⟩
  have HRR : Hid (RAt w4 A' n' ls' ∧ Ist w4 ls' ps) := Lib.hid ⟨hR4, hIr4⟩
  have HTT : Hid (TIn w4 (some ⟨bu, 0, none⟩) B d ms ∧ ms.length = N) := Lib.hid ⟨hT4, by rw [hI4.len]; exact HNN.out⟩
  clear hs5 hb45 cw5 cl5 fl5 cr5 hb34 hR4 hIr4 hT4 hI4 hA4 hD4 hq h0 hb1 Z12 Z13 B2O B23 HBX HCV HMM HBY C8' HR HH HU hcat hcat1 hsz1 hsz2
  refine range_nx2 rfl (by omega) rfl trivial (enters_of Tryd.func25 (by kernel_rfl) rfl) HQ.out (Nat.zero_le _) (by have := HS.out; omega) (by have := HS.out; omega) (fun _ => rfl) (fun x => rwRd_abide _ x _)
    (UaI N (w4.heap.size + 1) w4 w5) (fun _ _ _ => False) HAB.out (fun _ _ _ _ _ h => h.elim) H0.out RwBx (fun x b => rwBx_abide x b _) ?a1 ?assign ?body ?done ?stop
  case assign =>
    rintro lq pre x W' K hi hr hK
    simp only [rwArr, rwV]
    gi_wp2
    obtain ⟨b', hb'⟩ : ∃ b', W'.heap.size = b' := ⟨_, rfl⟩
    rw [hb']
    have hbo : ∀ o, Below W'.heap.size W' (W'.alloc o) := fun o => (Below.refl _ _).alloc (Nat.le_refl _) o
    refine hK b' _ (Kept.of_below (hbo _)) (HAB.out.below hi (hbo _)) ((rwRd_abide _ x w5.heap.size).below (s := ()) hr (hbo _)) ?_
    rw [← hb']
    exact ⟨by simp, by simp, by simp, by simp, by simp, by simp⟩
  case body =>
    rintro lq pre ⟨s, p⟩ b' Wb hi hr ⟨e0, e1, e2, e3, e4, e5⟩ ⟨hnx, -⟩
    rw [List.map_append] at hnx
    have hbw := hi.2.2.2
    have q4 : Wb.cell? ⟨w4.heap.size, 0, none⟩ = some (.slice A' n' c') := hi.2.2.1.cell (a := ⟨w4.heap.size, 0, none⟩) (by show w4.heap.size ≠ _; omega) HCW.out
    obtain ⟨hkN, s', hs', hIs'⟩ := ref_row (HRR.out.2.below hbw) hnx (List.length_map _)
    rw [HNN.out] at hkN
    have hRb := HRR.out.1.below hbw
    have hnext := fun hge d os => @ua_next N (w4.heap.size + 1) w4 w5 Wb pre (s, p) hi hge (by omega) d os
    have hcn := hi.2.1.1
    have hfn := hi.2.1.2
    have hpm : p ∈ ps := by obtain ⟨r, hr'⟩ := hnx; rw [← hr']; simp
    have hpd : p.dec.length ≤ 1000 := by have := (HG.out.2 p hpm).2.2.2; omega
    have KS := Lib.hid (fun d os m => @regrown_in Tryd.prog 11 #[rwV s, rwV s'] Wb d m lq os (.bool true) (same11 s s' p _ (hr.1.below (below_regrown Wb d os)) (hIs'.below (below_regrown Wb d os)) hpd))
    obtain ⟨k, hk⟩ : ∃ k, pre.length = k := ⟨_, rfl⟩
    rw [hk] at hcn hnext hkN hs'
    have hnn : n' = N := HN'.out
    have hkn : k < n' := by omega
    obtain ⟨b2, off, hA', hlt2, hc2⟩ := hRb.2 (by omega)
    obtain ⟨g1, g2, g3, g4, g5, g6⟩ := hc2 k s' hs'
    dsimp only at e0 e1 e2 e3 e4 e5
    unfold rwV at KS
    obtain ⟨T, hT⟩ : ∃ T, bs s.gc = T := ⟨_, rfl⟩
    obtain ⟨U, hU⟩ : ∃ T, bs s.bd = T := ⟨_, rfl⟩
    obtain ⟨T', hT'⟩ : ∃ T, bs s'.gc = T := ⟨_, rfl⟩
    obtain ⟨U', hU'⟩ : ∃ T, bs s'.bd = T := ⟨_, rfl⟩
    rw [hT] at e2 KS
    rw [hU] at e4 KS
    rw [hT'] at g3 KS
    rw [hU'] at g5 KS
    have R := Lib.hid (hnext hkN)
    clear hi hr hnx hbw hIs' hRb hnext hpm hpd hk hc2 hs' hT hU hT' hU' hnn
    have hd0 : decide (n' ≤ k) = false := decide_eq_false (by omega)
    subst hA'
    have z0 := fun d os => cell_regrown e0 d os
    have z1 := fun d os => cell_regrown e1 d os
    have z2 := fun d os => cell_regrown e2 d os
    have z3 := fun d os => cell_regrown e3 d os
    have z4 := fun d os => cell_regrown e4 d os
    have z5 := fun d os => cell_regrown e5 d os
    have y1 := fun d os => cell_regrown g1 d os
    have y2 := fun d os => cell_regrown g2 d os
    have y3 := fun d os => cell_regrown g3 d os
    have y4 := fun d os => cell_regrown g4 d os
    have y5 := fun d os => cell_regrown g5 d os
    have y6 := fun d os => cell_regrown g6 d os
    have x4 := fun d os => cell_regrown q4 d os
    have xl := fun d os => cell_regrown hcn d os
    have xf : ∀ d os, (grow (redrawn Wb d) os).frozen? ⟨w4.heap.size + 1, 0, none⟩ = false := fun d os => ((below_regrown Wb d os).frozen (p := ⟨w4.heap.size + 1, 0, none⟩) (World.block_lt_of_cell? Wb _ hcn)).trans hfn
    gi_wp2
    refine region_round_below (by kernel_rfl) hmx (by kernel_rfl) ?_
    repeat (gi_big_quiet_step (((gi_at_call 11; exact KS.out _ _ _))))
    refine wpQuietIn_nil ?_
    intro _ hw'
    obtain ⟨⟨dq, osq⟩, hw''⟩ := hw'
    subst hw''
    gi_wp2
    exact R.out dq osq
  case done =>
    rintro D xs W3 hD hxs hi hKD
    have hbw := hi.2.2.2
    obtain ⟨-, q2, q3, -⟩ := HB4.out.below hbw
    have hlen : xs.length = N := by
      have := congrArg List.length hxs
      rw [List.length_map, HNN.out] at this
      exact this
    have hcn := hi.2.1.1
    rw [hlen] at hcn
    clear hxs hlen
    have K12 : Hid (∀ W, Below W3.heap.size W3 W → Calls Tryd.prog 12 #[.pointer (some ⟨bu, 0, none⟩)] W fun e w' => e = .returned (.int .i64 N) ∧ W = w') := Lib.hid fun W hb => (len12 (some ⟨bu, 0, none⟩) B d ms W ((HTT.out.1.below hbw).below hb)).mono fun e w' h => ⟨by rw [h.1, HTT.out.2], h.2⟩
    have HBW := Lib.hid (HB4.out.1.trans (hbw.mono HB4.out.1.size))
    have hDw : w.heap.size ≤ D := by have := HS.out; omega
    have HSS : Hid (∀ W, Below W3.heap.size W3 W → W.cell? ⟨w4.heap.size + 1, 0, none⟩ = some (.int .i64 (N : Nat))) := Lib.hid fun W hb => (hb.cell (p := ⟨w4.heap.size + 1, 0, none⟩) (World.block_lt_of_cell? W3 _ hcn)).trans hcn
    have HSU : Hid (∀ v, (W3.setCell ⟨w.heap.size, 0, none⟩ v).cell? ⟨w4.heap.size + 1, 0, none⟩ = some (.int .i64 (N : Nat))) := Lib.hid fun v => (World.cell?_setCell_other _ _ _ _ (by intro e; injection e with e1; have := HS.out; omega)).trans hcn
    clear hi hbw
    gi_wp2
    refine wpIn_wide.2 ?_
    go_region_held3 (fun w' => w'.cell? ⟨w4.heap.size + 1, 0, none⟩ = some (.int .i64 (N : Nat)))
      (first | exact HSS.out _ (Below.refl _ _) | exact HSS.out _ (below_drew (Below.refl _ _)) | exact HSU.out _ | go_keep)
      ((go_simp; go_at_call 12; (with_reducible refine (K12.out _ (by first | with_reducible exact Below.refl _ _ | with_reducible exact below_drew (Below.refl _ _))).mono ?_); rintro e w' ⟨rfl, rfl⟩))
    gi_wp2
    exact leave rfl ((KeepsOthers.setCell W3.drew ⟨w.heap.size, 0, none⟩ _).same D _ hKD rfl) hDw (World.cell?_setCell_same' _ _ _ (by show (W3.cell? _).isSome = true; rw [q2]; rfl)) ((below_drew HBW.out).setCell (p := ⟨w.heap.size, 0, none⟩) (by simp) _)
  case stop =>
    rintro D c2 pre W3 hD hpre hx hKD
    exact hx.elim
set_option maxRecDepth 100000 in
set_option maxHeartbeats 8000000 in
theorem walk_no (a0 : Option Addr) (len0 cap0 : Nat) (l : List UInt8) (w : World) (hM : ML w) (hO : Octs w a0 len0 l) (h : len0 ≤ 1000) (he : ¬ (parseOf (linesIn l)).err = 0) :
    Calls Tryd.prog 6 #[.slice a0 len0 cap0] w fun e w' => e = .returned (.bool true) ∧ Below w.heap.size w w' := by
  have BB := b1_first w
  have hM0 := hM.below BB.1
  have hO0 := hO.below BB.1
  have hll := hO.len
  have hl2 : (preO ++ l ++ postO).length ≤ 2000 := by simp [preO, postO]; omega
  have he' : ¬ (parseOf (linesIn (preO ++ l ++ postO))).err = 0 := by rw [parse_with]; exact he
  have hr' : (parseOf (linesIn (preO ++ l ++ postO))).rows = (parseOf (linesIn l)).rows := by rw [parse_with]; rfl
  have c7 := callsIn_wide (n := 8) |>.2 (awake7 (w.alloc (.cells #[.bool false] 4)) hM0)
  have C8 := Lib.hid (fun w1 (hb : Below (w.alloc (.cells #[.bool false] 4)).heap.size (w.alloc (.cells #[.bool false] 4)) w1) => callsIn_wide (n := 8) |>.2 (parse_no a0 len0 cap0 l w1 (hO0.below hb) (by omega) (hM0.below hb) he))
  have C8' := Lib.hid (fun (w1 : World) (A : Option Addr) (n c : Nat) (hn : n ≤ 2000) (ho : Octs w1 A n (preO ++ l ++ postO)) (hm : ML w1) => callsIn_wide (n := 8) |>.2 (parse_no A n c (preO ++ l ++ postO) w1 ho hn hm he'))
  have HCV := Lib.hid (fun w1 (hb : Below (w.alloc (.cells #[.bool false] 4)).heap.size (w.alloc (.cells #[.bool false] 4)) w1) => conv22 cap0 (hO0.below hb))
  have HMM := Lib.hid (fun w1 (hb : Below (w.alloc (.cells #[.bool false] 4)).heap.size (w.alloc (.cells #[.bool false] 4)) w1) => hM0.below hb)
  have HBX := Lib.hid (fun w1 (hb : Below (w.alloc (.cells #[.bool false] 4)).heap.size (w.alloc (.cells #[.bool false] 4)) w1) => BB.below hb)
  have C9 := Lib.hid (fun w1 => callsIn_wide (n := 8) |>.2 (ref_any l w1 (by omega)))
  have HBY := Lib.hid (fun w1 => bytes_octs w1 (preO ++ l ++ postO))
  have hgood := good_parse (linesIn l)
  have hcat := cat_two l
  have hcat1 := cat_one l
  have hsz1 : (bs l).size ≤ 1000 := by rw [bs_size]; omega
  have hsz2 : (bs (preO ++ l)).size ≤ 1100 := by rw [bs_size]; simp [preO]; omega
  have hlen : (parseOf (linesIn l)).rows.length ≤ 100000 := by
    have h1 := len_parse (linesIn l)
    have h2 := lines_num (l := l)
    omega
  rw [hr'] at C8'
  have hnb := num_bound l
  have hE' : (parseOf (linesIn (preO ++ l ++ postO))).err = (parseOf (linesIn l)).err := by rw [parse_with]; rfl
  have hM' : (parseOf (linesIn (preO ++ l ++ postO))).num = (parseOf (linesIn l)).num + 2 := by rw [parse_with]; unfold shR; simp only []; rw [if_neg he]
  rw [hE', hM'] at C8'
  obtain ⟨E, hE⟩ : ∃ E, (parseOf (linesIn l)).err = E := ⟨_, rfl⟩
  obtain ⟨M, hMM⟩ : ∃ M, (parseOf (linesIn l)).num = M := ⟨_, rfl⟩
  rw [hE] at C8 C8' C9 he
  rw [hMM] at C8 C8' C9 hnb
  obtain ⟨hnb0, hnb1⟩ := hnb
  replace hnb1 : M ≤ 3000 := by omega
  have hx1 : (E == 0) = false := beq_false_of_ne he
  have hx2 : (E != 0) = true := bne_iff_ne.2 he
  obtain ⟨ps, hps⟩ : ∃ ps, (parseOf (linesIn l)).rows = ps := ⟨_, rfl⟩
  rw [hps] at C8 C8' C9 hgood hlen
  obtain ⟨S, hS⟩ : ∃ S, bs l = S := ⟨_, rfl⟩
  rw [hS] at HCV C9 hcat1 hsz1
  obtain ⟨S1, hS1⟩ : ∃ S, bs (preO ++ l) = S := ⟨_, rfl⟩
  rw [hS1] at hcat1 hcat hsz2
  obtain ⟨L2, hL2⟩ : ∃ L2, preO ++ l ++ postO = L2 := ⟨_, rfl⟩
  rw [hL2] at C8' HBY hcat hl2
  obtain ⟨X, hX⟩ : ∃ X, bs L2 = X := ⟨_, rfl⟩
  rw [hX] at hcat HBY
  obtain ⟨n2, hn2⟩ : ∃ n, L2.length = n := ⟨_, rfl⟩
  rw [hn2] at HBY hl2
  have HG := Lib.hid hgood
  have HLN := Lib.hid hlen
  obtain ⟨N, hN⟩ : ∃ N, ps.length = N := ⟨_, rfl⟩
  have HNN := Lib.hid hN
  have hd : decide (1000 < (len0 : Int)) = false := decide_eq_false (by omega)
  clear BB hM hM0 hO hO0 hll hgood hlen hps hS hS1 hL2 hX hn2 hN he he' hr' hE hMM hE' hM'
  refine (callsIn_wide (n := 9)).1 ?_
  refine callsIn_of_wp_marks Tryd.func6 rfl trivial ?_ rfl
  simp only [Tryd.ntmps6, List.size_toArray, List.length_cons, List.length_nil, Nat.reduceAdd, Nat.reduceSub, Array.replicate_succ, Array.replicate_zero, List.push_toArray, List.append_toArray, List.nil_append, List.cons_append]
  gi_wp2_with (first
    | (refine ⟨trivial, ?_⟩; gi_at_call 7; (with_reducible refine c7.mono ?_); rintro e w1 ⟨rfl, hb1⟩; clear c7; have k8 := C8.out w1 hb1; clear C8)
    | (refine ⟨trivial, ?_⟩; gi_at_call 8; (with_reducible refine k8.mono ?_); rintro e w2 ⟨A, c, ls, rfl, HH⟩; clear k8; have z12 := hb1.trans (HH.out.1.mono hb1.size); have hcv2 := HCV.out w2 z12; obtain ⟨c2, o2, hby, hoc⟩ := HBY.out w2; have b2o : Below w2.heap.size w2 ((w2.alloc o2).drew) := below_drew ((Below.refl _ _).alloc (Nat.le_refl _) _); have Z12 := Lib.hid z12; have B2O := Lib.hid b2o; have k8' := C8'.out ((w2.alloc o2).drew) (some ⟨w2.heap.size, 0, none⟩) n2 c2 hl2 hoc (HMM.out _ (z12.trans (b2o.mono z12.size))); clear hoc b2o z12)
    | (refine ⟨trivial, ?_⟩; gi_at_call 8; (with_reducible refine k8'.mono ?_); rintro e w3 ⟨B, d, ms, rfl, HU⟩; clear k8' hby hcv2; have b23 : Below w2.heap.size w2 w3 := B2O.out.trans (HU.out.1.mono B2O.out.size); have z13 := Z12.out.trans (b23.mono Z12.out.size); have hcv3 := HCV.out w3 z13; have B23 := Lib.hid b23; have Z13 := Lib.hid z13; have k12 : CallsIn Fence.wide 8 Tryd.prog 12 #[.pointer none] w3 (fun e w' => e = .returned (.int .i64 N) ∧ w3 = w') := callsIn_wide (n := 8) |>.2 ((len12 none A c ls w3 (HH.out.2.1.below b23)).mono fun e w' hh => ⟨by rw [hh.1, HH.out.2.2.len, HNN.out], hh.2⟩); have k12' : CallsIn Fence.wide 8 Tryd.prog 12 #[.pointer none] w3 (fun e w' => e = .returned (.int .i64 N) ∧ w3 = w') := callsIn_wide (n := 8) |>.2 ((len12 none B d ms w3 HU.out.2.1).mono fun e w' hh => ⟨by rw [hh.1, HU.out.2.2.len, HNN.out], hh.2⟩); have k9 := C9.out w3; clear C9 b23 z13)
    | (refine ⟨trivial, ?_⟩; gi_at_call 12; (first | (with_reducible refine k12.mono ?_) | (with_reducible refine k12'.mono ?_)); rintro e w' ⟨rfl, rfl⟩)
    | (refine ⟨trivial, ?_⟩; gi_at_call 9; (with_reducible refine k9.mono ?_); rintro e w4 ⟨A', n', c', ls', rfl, hn1, hn2, HR⟩; have HN' := Lib.hid (hn1.trans HNN.out); clear hn1 k9 k12 k12' hcv3; have b4 : Below w4.heap.size w4 ((w4.alloc (.cells #[.slice A' n' c'] 28)).alloc (.cells #[.int .i64 0] 3)) := ((Below.refl _ _).alloc (Nat.le_refl _) _).alloc (by simp) _; have k10 := callsIn_wide (n := 8) |>.2 (rows10 none B d ms _ ((HU.out.2.1.below HR.out.1).below b4)); clear b4; rw [World.size_alloc, World.size_alloc] at k10)
    | (refine ⟨trivial, ?_⟩; gi_at_call 10; (with_reducible refine k10.mono ?_); rintro e w5 ⟨rfl, hw5⟩; clear k10))
  have hs5 : w5.heap.size = w4.heap.size + 3 := by rw [hw5]; simp
  have hb45 : Below w4.heap.size w4 w5 := by rw [hw5]; exact (((Below.refl _ _).alloc (Nat.le_refl _) _).alloc (by simp) _).alloc (by simp; omega) _
  have cw5 : w5.cell? ⟨w4.heap.size, 0, none⟩ = some (.slice A' n' c') := by rw [hw5]; exact box_cell _ (box_cell _ (box_new w4 _ 28).1)
  have cl5 : w5.cell? ⟨w4.heap.size + 1, 0, none⟩ = some (.int .i64 0) := by
    have h2 := box_new (w4.alloc (.cells #[.slice A' n' c'] 28)) (.int .i64 0) 3
    rw [World.size_alloc] at h2
    rw [hw5]
    exact box_cell _ h2.1
  have fl5 : w5.frozen? ⟨w4.heap.size + 1, 0, none⟩ = false := by
    have h2 := box_new (w4.alloc (.cells #[.slice A' n' c'] 28)) (.int .i64 0) 3
    rw [World.size_alloc] at h2
    rw [hw5]
    exact box_frozen _ h2.1 h2.2
  have cr5 : w5.cell? ⟨w4.heap.size + 1 + 1, 0, none⟩ = some (.slice B ms.length d) := by
    have h2 := box_new ((w4.alloc (.cells #[.slice A' n' c'] 28)).alloc (.cells #[.int .i64 0] 3)) (.slice B ms.length d) 28
    rw [World.size_alloc, World.size_alloc] at h2
    rw [hw5]
    exact h2.1
  rw [← hw5]
  clear hw5
  obtain ⟨hb34, hR4, hIr4⟩ := HR.out
  have hT4 := HU.out.2.1.below hb34
  have hI4 := HU.out.2.2.below hb34
  have hA4 : 0 < ms.length → ∀ a, B = some a → a.block < w4.heap.size := by
    intro hn a e
    obtain ⟨b, off, e', hlt, -⟩ := hT4.rat.2 hn
    rw [e] at e'
    cases e'
    exact hlt
  have hD4 : ∀ t ∈ ms, 0 < t.dm → ∀ a, t.dp = some a → a.block < w4.heap.size := by
    intro t ht hd a e
    obtain ⟨p, -, hp⟩ := ist_mem hI4 ht
    obtain ⟨b, off, e', hlt, -⟩ := hp.2.2.2.2.2.2.2 hd
    rw [e] at e'
    cases e'
    exact hlt
  have hq := seq25 8 (w4.heap.size + 1 + 1) ms.length d B ms ps (fun k => k ≠ w4.heap.size + 1) w5 (by omega) (by rw [hI4.len]; exact HLN.out) (fun p hp => by have := (HG.out.2 p hp).2.2.2; omega) (by omega) cr5 (hT4.rat.below hb45) (hI4.below hb45) (by
    rintro k hk (rfl | ⟨hn, a, e, rfl⟩ | ⟨t, ht, hd, a, e, rfl⟩)
    · omega
    · have := hA4 hn a e; omega
    · have := hD4 t ht hd a e; omega)
  have h0 : UaI N (w4.heap.size + 1) w4 w5 [] w5 := ⟨Nat.zero_le _, ⟨cl5, fl5⟩, Kept.refl _ _, hb45⟩
  have HQ := Lib.hid hq
  have H0 := Lib.hid h0
  have HAB := Lib.hid (uai_abide N (w4.heap.size + 1) w4 w5 hb45.size)
  have HCW := Lib.hid cw5
  have HB4 := Lib.hid ((HBX.out w3 Z13.out).below hb34)
  have HS : Hid (w5.heap.size = w4.heap.size + 3 ∧ w.heap.size < w4.heap.size) := Lib.hid ⟨hs5, HB4.out.2.2.2⟩
  have HRR : Hid (RAt w4 A' n' ls' ∧ Ist w4 ls' ps) := Lib.hid ⟨hR4, hIr4⟩
  have HTT : Hid (TIn w4 none B d ms ∧ ms.length = N) := Lib.hid ⟨hT4, by rw [hI4.len]; exact HNN.out⟩
  clear hs5 hb45 cw5 cl5 fl5 cr5 hb34 hR4 hIr4 hT4 hI4 hA4 hD4 hq h0 hb1 Z12 Z13 B2O B23 HBX HCV HMM HBY C8' HR HH HU hcat hcat1 hsz1 hsz2
  refine range_nx2 rfl (by omega) rfl trivial (enters_of Tryd.func25 (by kernel_rfl) rfl) HQ.out (Nat.zero_le _) (by have := HS.out; omega) (by have := HS.out; omega) (fun _ => rfl) (fun x => rwRd_abide _ x _)
    (UaI N (w4.heap.size + 1) w4 w5) (fun _ _ _ => False) HAB.out (fun _ _ _ _ _ h => h.elim) H0.out RwBx (fun x b => rwBx_abide x b _) ?a1 ?assign ?body ?done ?stop
  case assign =>
    rintro lq pre x W' K hi hr hK
    simp only [rwArr, rwV]
    gi_wp2
    obtain ⟨b', hb'⟩ : ∃ b', W'.heap.size = b' := ⟨_, rfl⟩
    rw [hb']
    have hbo : ∀ o, Below W'.heap.size W' (W'.alloc o) := fun o => (Below.refl _ _).alloc (Nat.le_refl _) o
    refine hK b' _ (Kept.of_below (hbo _)) (HAB.out.below hi (hbo _)) ((rwRd_abide _ x w5.heap.size).below (s := ()) hr (hbo _)) ?_
    rw [← hb']
    exact ⟨by simp, by simp, by simp, by simp, by simp, by simp⟩
  case body =>
    rintro lq pre ⟨s, p⟩ b' Wb hi hr ⟨e0, e1, e2, e3, e4, e5⟩ ⟨hnx, -⟩
    rw [List.map_append] at hnx
    have hbw := hi.2.2.2
    have q4 : Wb.cell? ⟨w4.heap.size, 0, none⟩ = some (.slice A' n' c') := hi.2.2.1.cell (a := ⟨w4.heap.size, 0, none⟩) (by show w4.heap.size ≠ _; omega) HCW.out
    obtain ⟨hkN, s', hs', hIs'⟩ := ref_row (HRR.out.2.below hbw) hnx (List.length_map _)
    rw [HNN.out] at hkN
    have hRb := HRR.out.1.below hbw
    have hnext := fun hge d os => @ua_next N (w4.heap.size + 1) w4 w5 Wb pre (s, p) hi hge (by omega) d os
    have hcn := hi.2.1.1
    have hfn := hi.2.1.2
    have hpm : p ∈ ps := by obtain ⟨r, hr'⟩ := hnx; rw [← hr']; simp
    have hpd : p.dec.length ≤ 1000 := by have := (HG.out.2 p hpm).2.2.2; omega
    have KS := Lib.hid (fun d os m => @regrown_in Tryd.prog 11 #[rwV s, rwV s'] Wb d m lq os (.bool true) (same11 s s' p _ (hr.1.below (below_regrown Wb d os)) (hIs'.below (below_regrown Wb d os)) hpd))
    obtain ⟨k, hk⟩ : ∃ k, pre.length = k := ⟨_, rfl⟩
    rw [hk] at hcn hnext hkN hs'
    have hnn : n' = N := HN'.out
    have hkn : k < n' := by omega
    obtain ⟨b2, off, hA', hlt2, hc2⟩ := hRb.2 (by omega)
    obtain ⟨g1, g2, g3, g4, g5, g6⟩ := hc2 k s' hs'
    dsimp only at e0 e1 e2 e3 e4 e5
    unfold rwV at KS
    obtain ⟨T, hT⟩ : ∃ T, bs s.gc = T := ⟨_, rfl⟩
    obtain ⟨U, hU⟩ : ∃ T, bs s.bd = T := ⟨_, rfl⟩
    obtain ⟨T', hT'⟩ : ∃ T, bs s'.gc = T := ⟨_, rfl⟩
    obtain ⟨U', hU'⟩ : ∃ T, bs s'.bd = T := ⟨_, rfl⟩
    rw [hT] at e2 KS
    rw [hU] at e4 KS
    rw [hT'] at g3 KS
    rw [hU'] at g5 KS
    have R := Lib.hid (hnext hkN)
    clear hi hr hnx hbw hIs' hRb hnext hpm hpd hk hc2 hs' hT hU hT' hU' hnn
    have hd0 : decide (n' ≤ k) = false := decide_eq_false (by omega)
    subst hA'
    have z0 := fun d os => cell_regrown e0 d os
    have z1 := fun d os => cell_regrown e1 d os
    have z2 := fun d os => cell_regrown e2 d os
    have z3 := fun d os => cell_regrown e3 d os
    have z4 := fun d os => cell_regrown e4 d os
    have z5 := fun d os => cell_regrown e5 d os
    have y1 := fun d os => cell_regrown g1 d os
    have y2 := fun d os => cell_regrown g2 d os
    have y3 := fun d os => cell_regrown g3 d os
    have y4 := fun d os => cell_regrown g4 d os
    have y5 := fun d os => cell_regrown g5 d os
    have y6 := fun d os => cell_regrown g6 d os
    have x4 := fun d os => cell_regrown q4 d os
    have xl := fun d os => cell_regrown hcn d os
    have xf : ∀ d os, (grow (redrawn Wb d) os).frozen? ⟨w4.heap.size + 1, 0, none⟩ = false := fun d os => ((below_regrown Wb d os).frozen (p := ⟨w4.heap.size + 1, 0, none⟩) (World.block_lt_of_cell? Wb _ hcn)).trans hfn
    gi_wp2
    refine region_round_below (by kernel_rfl) hmx (by kernel_rfl) ?_
    repeat (gi_big_quiet_step (((gi_at_call 11; exact KS.out _ _ _))))
    refine wpQuietIn_nil ?_
    intro _ hw'
    obtain ⟨⟨dq, osq⟩, hw''⟩ := hw'
    subst hw''
    gi_wp2
    exact R.out dq osq
  case done =>
    rintro D xs W3 hD hxs hi hKD
    have hbw := hi.2.2.2
    obtain ⟨-, q2, q3, -⟩ := HB4.out.below hbw
    have hlen : xs.length = N := by
      have := congrArg List.length hxs
      rw [List.length_map, HNN.out] at this
      exact this
    have hcn := hi.2.1.1
    rw [hlen] at hcn
    clear hxs hlen
    have K12 : Hid (∀ W, Below W3.heap.size W3 W → Calls Tryd.prog 12 #[.pointer none] W fun e w' => e = .returned (.int .i64 N) ∧ W = w') := Lib.hid fun W hb => (len12 none B d ms W ((HTT.out.1.below hbw).below hb)).mono fun e w' h => ⟨by rw [h.1, HTT.out.2], h.2⟩
    have HBW := Lib.hid (HB4.out.1.trans (hbw.mono HB4.out.1.size))
    have hDw : w.heap.size ≤ D := by have := HS.out; omega
    have HSS : Hid (∀ W, Below W3.heap.size W3 W → W.cell? ⟨w4.heap.size + 1, 0, none⟩ = some (.int .i64 (N : Nat))) := Lib.hid fun W hb => (hb.cell (p := ⟨w4.heap.size + 1, 0, none⟩) (World.block_lt_of_cell? W3 _ hcn)).trans hcn
    have HSU : Hid (∀ v, (W3.setCell ⟨w.heap.size, 0, none⟩ v).cell? ⟨w4.heap.size + 1, 0, none⟩ = some (.int .i64 (N : Nat))) := Lib.hid fun v => (World.cell?_setCell_other _ _ _ _ (by intro e; injection e with e1; have := HS.out; omega)).trans hcn
    clear hi hbw
    gi_wp2
    refine wpIn_wide.2 ?_
    go_region_held3 (fun w' => w'.cell? ⟨w4.heap.size + 1, 0, none⟩ = some (.int .i64 (N : Nat)))
      (first | exact HSS.out _ (Below.refl _ _) | exact HSS.out _ (below_drew (Below.refl _ _)) | exact HSU.out _ | go_keep)
      ((go_simp; go_at_call 12; (with_reducible refine (K12.out _ (by first | with_reducible exact Below.refl _ _ | with_reducible exact below_drew (Below.refl _ _))).mono ?_); rintro e w' ⟨rfl, rfl⟩))
    gi_wp2
    exact leave rfl ((KeepsOthers.setCell W3.drew ⟨w.heap.size, 0, none⟩ _).same D _ hKD rfl) hDw (World.cell?_setCell_same' _ _ _ (by show (W3.cell? _).isSome = true; rw [q2]; rfl)) ((below_drew HBW.out).setCell (p := ⟨w.heap.size, 0, none⟩) (by simp) _)
  case stop =>
    rintro D c2 pre W3 hD hpre hx hKD
    exact hx.elim
theorem walk (a0 : Option Addr) (len0 cap0 : Nat) (z0 : List Int) (w : World) (hM : ML w) (hR : IsRow .u8 w a0 len0 cap0 z0) :
    Calls Tryd.prog 6 #[.slice a0 len0 cap0] w fun e w' => e = .returned (.bool true) ∧ Below w.heap.size w w' := by
  obtain ⟨l, hO, -, -⟩ := hR.octs
  by_cases h : 1000 < len0
  · exact walk_long a0 len0 cap0 w hM h
  · by_cases he : (parseOf (linesIn l)).err = 0
    · exact walk_ok a0 len0 cap0 l w hM hO (by omega) he
    · exact walk_no a0 len0 cap0 l w hM hO (by omega) he
end Go.Proofs.YtfmkhfjdihfppaaDoor.unicodeRemarks
