/- The law that rows rise, walked. -/
import Derived.Test.YtfmkhfjdihfppaaDoorRisp
import Derived.Test.YtfmkhfjdihfppaaDoorLaid
namespace Go.Proofs.YtfmkhfjdihfppaaDoor.unicodeRises
open Go.RowKit Go.Shelf Go.Sort
attribute [local go_sem] Oper.semAt_some
attribute [local go_sem, simp] round_fn
theorem hmx : Tryd.prog.follows .mixedOrders = true := by kernel_rfl

theorem leave {w Wf : World} {D : Nat} {tmps : Array Value} {m : Nat} (ht : tmps[2]?.getD undef = .pointer (some ⟨w.heap.size, 0, none⟩)) (hk : Wf.heap[D]? = some (.deferred (some []))) (hd : w.heap.size ≤ D)
    (hr : Wf.cell? ⟨w.heap.size, 0, none⟩ = some (.bool true)) (hb : Below w.heap.size w Wf) :
    LeavesInM Fence.wide m Tryd.prog Tryd.f5 tmps (fun e w' => e = .returned (.bool true) ∧ Below w.heap.size w w') [{ target := .collected D, args := #[] }] .returning Wf := by
  refine ⟨by simp, .inl ⟨_, _, rfl, run_takeDeferred hk, ?_⟩⟩
  have h1 := cell_kept hr (grownBy_putObj' _ D (.deferred none)) (fun r e => by cases e; exact ⟨_, hk, rfl⟩)
  refine ⟨.bool true, ?_, rfl, hb.trans (belowK_b (w := w) (Nat.le_refl _) _ D _ _ hd hk rfl rfl)⟩
  simp [results, Tryd.results5, go_sem, h1, ht]
theorem leave0 {w Wf : World} {tmps : Array Value} {m : Nat} (ht : tmps[2]?.getD undef = .pointer (some ⟨w.heap.size, 0, none⟩)) (hr : Wf.cell? ⟨w.heap.size, 0, none⟩ = some (.bool true)) (hb : Below w.heap.size w Wf) :
    LeavesInM Fence.wide m Tryd.prog Tryd.f5 tmps (fun e w' => e = .returned (.bool true) ∧ Below w.heap.size w w') [] .returning Wf := by
  refine ⟨.bool true, ?_, rfl, hb⟩
  simp [results, Tryd.results5, go_sem, hr, ht]
/-- The result's box has been laid. -/
def B1 (w W : World) : Prop := Below w.heap.size w W ∧ W.cell? ⟨w.heap.size, 0, none⟩ = some (.bool false) ∧ W.frozen? ⟨w.heap.size, 0, none⟩ = false ∧ w.heap.size < W.heap.size
theorem B1.below {w W W' : World} (h : B1 w W) (hb : Below W.heap.size W W') : B1 w W' := by
  obtain ⟨h1, h3, h4, h5⟩ := h
  exact ⟨h1.trans (hb.mono h1.size), (hb.cell (p := ⟨w.heap.size, 0, none⟩) h5).trans h3, (hb.frozen (p := ⟨w.heap.size, 0, none⟩) h5).trans h4, Nat.lt_of_lt_of_le h5 hb.size⟩
theorem b1_first (w : World) : B1 w (w.alloc (.cells #[.bool false] 4)) := ⟨(Below.refl _ _).alloc (Nat.le_refl _) _, by simp, frozen_new w _ _ 0, by simp⟩

set_option maxRecDepth 100000 in
set_option maxHeartbeats 1000000 in
theorem walk_long (a0 : Option Addr) (len0 cap0 : Nat) (w : World) (hM : ML w) (h : 1500 < len0) :
    Calls Tryd.prog 5 #[.slice a0 len0 cap0] w fun e w' => e = .returned (.bool true) ∧ Below w.heap.size w w' := by
  have BB := b1_first w
  have hM0 := hM.below BB.1
  have c7 := awake7 (w.alloc (.cells #[.bool false] 4)) hM0
  have c7' := fun w1 (hb : Below (w.alloc (.cells #[.bool false] 4)).heap.size (w.alloc (.cells #[.bool false] 4)) w1) => awake7 w1 (hM0.below hb)
  have HB := Lib.hid BB
  have C7 := Lib.hid c7'
  have hd : decide (1500 < (len0 : Int)) = true := decide_eq_true (by omega)
  clear BB hM hM0 c7'
  have hfin : Hid (∀ w1 w2, Below (w.alloc (.cells #[.bool false] 4)).heap.size (w.alloc (.cells #[.bool false] 4)) w1 → Below w1.heap.size w1 w2 → B1 w w2) := Lib.hid fun w1 w2 h1 h2 => (HB.out.below h1).below h2
  go_enter Tryd.func5, Tryd.ntmps5
  go_wp2_with (first
    | (go_at_call 7; (with_reducible refine c7.mono ?_); rintro e w1 ⟨rfl, hb1⟩; clear c7; have k7 := C7.out w1 hb1)
    | (go_at_call 7; (with_reducible refine k7.mono ?_); rintro e w2 ⟨rfl, hb2⟩; obtain ⟨e1, e2, e3, e4⟩ := hfin.out w1 w2 hb1 hb2))
  exact bodyPost_ret (v := .bool true) (by simp [results, Tryd.results5, go_sem, e2]) rfl ⟨rfl, e1.setCell (p := ⟨w.heap.size, 0, none⟩) (Nat.le_refl _) _⟩

set_option maxRecDepth 100000 in
set_option maxHeartbeats 1000000 in
theorem walk_bad (a0 : Option Addr) (len0 cap0 : Nat) (l : List UInt8) (w : World) (hM : ML w) (hO : Octs w a0 len0 l) (h : len0 ≤ 1500) (he : ¬ (parseOf (linesIn l)).err = 0) :
    Calls Tryd.prog 5 #[.slice a0 len0 cap0] w fun e w' => e = .returned (.bool true) ∧ Below w.heap.size w w' := by
  have BB := b1_first w
  have hM0 := hM.below BB.1
  have hO0 := hO.below BB.1
  have c7 := awake7 (w.alloc (.cells #[.bool false] 4)) hM0
  obtain ⟨E, hE⟩ : ∃ E, (parseOf (linesIn l)).err = E := ⟨_, rfl⟩
  obtain ⟨M, hMM⟩ : ∃ M, (parseOf (linesIn l)).num = M := ⟨_, rfl⟩
  have c8' := fun w1 (hb : Below (w.alloc (.cells #[.bool false] 4)).heap.size (w.alloc (.cells #[.bool false] 4)) w1) => show Calls Tryd.prog 8 #[.slice a0 len0 cap0] w1 fun e w' => e = .returned (.tuple #[.pointer none, .int .i64 E, .int .i64 M]) ∧ B1 w w' from
    (parse8 a0 len0 cap0 l w1 (hO0.below hb) (by omega) (hM0.below hb)).mono (by
      rintro e w' ⟨hb', ⟨h1, -⟩ | ⟨-, rfl⟩⟩
      · exact absurd h1 he
      · rw [hE, hMM]
        exact ⟨rfl, (BB.below hb).below hb'⟩)
  have C8 := Lib.hid c8'
  rw [hE] at he
  have hx1 : (E == 0) = false := beq_false_of_ne he
  have hx2 : (E != 0) = true := bne_iff_ne.2 he
  have hd : decide (1500 < (len0 : Int)) = false := decide_eq_false (by omega)
  clear BB hM hM0 c8' hO hO0 hE hMM
  go_enter Tryd.func5, Tryd.ntmps5
  go_wp2_with (first
    | (go_at_call 7; (with_reducible refine c7.mono ?_); rintro e w1 ⟨rfl, hb1⟩; clear c7; have k8 := C8.out w1 hb1)
    | (go_at_call 8; (with_reducible refine k8.mono ?_); rintro e w2 ⟨rfl, e1, e2, e3, e4⟩))
  exact bodyPost_ret (v := .bool true) (by simp [results, Tryd.results5, go_sem, e2, e4]) rfl ⟨rfl, (e1.setCell (p := ⟨w.heap.size, 0, none⟩) (Nat.le_refl _) _).alloc (by rw [World.size_setCell]; exact e1.size) _⟩

set_option maxRecDepth 100000 in
set_option maxHeartbeats 4000000 in
theorem walk_ok (a0 : Option Addr) (len0 cap0 : Nat) (l : List UInt8) (w : World) (hM : ML w) (hO : Octs w a0 len0 l) (h : len0 ≤ 1500) (he : (parseOf (linesIn l)).err = 0) :
    Calls Tryd.prog 5 #[.slice a0 len0 cap0] w fun e w' => e = .returned (.bool true) ∧ Below w.heap.size w w' := by
  have BB := b1_first w
  have hM0 := hM.below BB.1
  have hO0 := hO.below BB.1
  have c7 := callsIn_wide (n := 8) |>.2 (awake7 (w.alloc (.cells #[.bool false] 4)) hM0)
  have hlen : (parseOf (linesIn l)).rows.length ≤ 100000 := by
    have h1 := len_parse (linesIn l)
    have h2 : (linesIn l).length ≤ len0 + 1 := by
      rw [← lines_pieces]
      have h1 := List.length_filterMap_le lineOf (numbered 1 (pieces l))
      rw [numbered_length] at h1
      have h2 := pieces_length l
      have h3 : l.length = len0 := by have := hO.1; unfold nums ints at this; simpa using this
      omega
    omega
  have hgood := good_parse (linesIn l)
  obtain ⟨ps, hps⟩ : ∃ ps, (parseOf (linesIn l)).rows = ps := ⟨_, rfl⟩
  rw [hps] at hlen hgood
  have c8' := fun w1 (hb : Below (w.alloc (.cells #[.bool false] 4)).heap.size (w.alloc (.cells #[.bool false] 4)) w1) => callsIn_wide (n := 8) |>.2 (show Calls Tryd.prog 8 #[.slice a0 len0 cap0] w1 fun e w' => ∃ b A c ls, e = .returned (.tuple #[.pointer (some ⟨b, 0, none⟩), .int .i64 0, .int .i64 0]) ∧ Hid (B1 w w' ∧ (w.heap.size < b ∧ TIn w' (some ⟨b, 0, none⟩) A c ls ∧ Ist w' ls ps ∧ Fresh (w.heap.size + 1) A ls)) from
    (parse8 a0 len0 cap0 l w1 (hO0.below hb) (by omega) (hM0.below hb)).mono (by
      have hs1 := (BB.below hb).2.2.2
      rintro e w' ⟨hb', ⟨-, b, A, c, ls, rfl, hbb, hT, hI, hF⟩ | ⟨h1, -⟩⟩
      · rw [hps] at hI
        exact ⟨b, A, c, ls, rfl, Lib.hid ⟨(BB.below hb).below hb', by omega, hT, hI, fun a e => by have := hF.1 a e; omega, fun t ht hd a e => by have := hF.2 t ht hd a e; omega⟩⟩
      · exact absurd he h1))
  have C8 := Lib.hid c8'
  have HG := Lib.hid hgood
  have HLN := Lib.hid hlen
  have hd : decide (1500 < (len0 : Int)) = false := decide_eq_false (by omega)
  clear BB hM hM0 c8' hO hO0 hgood hlen hps he
  refine (callsIn_wide (n := 9)).1 ?_
  refine callsIn_of_wp_marks Tryd.func5 rfl trivial ?_ rfl
  simp only [Tryd.ntmps5, List.size_toArray, List.length_cons, List.length_nil, Nat.reduceAdd, Nat.reduceSub, Array.replicate_succ, Array.replicate_zero, List.push_toArray, List.append_toArray, List.nil_append, List.cons_append]
  gi_wp2_with (first
    | (refine ⟨trivial, ?_⟩; gi_at_call 7; (with_reducible refine c7.mono ?_); rintro e w1 ⟨rfl, hb1⟩; clear c7; have k8 := C8.out w1 hb1; clear C8)
    | (refine ⟨trivial, ?_⟩; gi_at_call 8; (with_reducible refine k8.mono ?_); rintro e w2 ⟨bt, A, c, ls, rfl, HH⟩; clear k8; have b4 : Below w2.heap.size w2 ((w2.alloc (.cells #[.pointer (some ⟨bt, 0, none⟩)] 24)).alloc (.cells #[.int .i64 (-1)] 3)) := ((Below.refl _ _).alloc (Nat.le_refl _) _).alloc (by simp) _; have k10 := callsIn_wide (n := 8) |>.2 (rows10 (some ⟨bt, 0, none⟩) A c ls _ (HH.out.2.2.1.below b4)); clear b4; rw [World.size_alloc, World.size_alloc] at k10)
    | (refine ⟨trivial, ?_⟩; gi_at_call 10; (with_reducible refine k10.mono ?_); rintro e w5 ⟨rfl, hw5⟩; clear k10))
  have hs5 : w5.heap.size = w2.heap.size + 3 := by rw [hw5]; simp
  have hb5 : Below w2.heap.size w2 w5 := by rw [hw5]; exact (((Below.refl _ _).alloc (Nat.le_refl _) _).alloc (by simp) _).alloc (by simp; omega) _
  have ct5 : w5.cell? ⟨w2.heap.size, 0, none⟩ = some (.pointer (some ⟨bt, 0, none⟩)) := by rw [hw5]; exact box_cell _ (box_cell _ (box_new w2 _ 24).1)
  have cl5 : w5.cell? ⟨w2.heap.size + 1, 0, none⟩ = some (.int .i64 (-1)) := by
    have h2 := box_new (w2.alloc (.cells #[.pointer (some ⟨bt, 0, none⟩)] 24)) (.int .i64 (-1)) 3
    rw [World.size_alloc] at h2
    rw [hw5]
    exact box_cell _ h2.1
  have fl5 : w5.frozen? ⟨w2.heap.size + 1, 0, none⟩ = false := by
    have h2 := box_new (w2.alloc (.cells #[.pointer (some ⟨bt, 0, none⟩)] 24)) (.int .i64 (-1)) 3
    rw [World.size_alloc] at h2
    rw [hw5]
    exact box_frozen _ h2.1 h2.2
  have cr5 : w5.cell? ⟨w2.heap.size + 1 + 1, 0, none⟩ = some (.slice A ls.length c) := by
    have h2 := box_new ((w2.alloc (.cells #[.pointer (some ⟨bt, 0, none⟩)] 24)).alloc (.cells #[.int .i64 (-1)] 3)) (.slice A ls.length c) 28
    rw [World.size_alloc, World.size_alloc] at h2
    rw [hw5]
    exact h2.1
  rw [← hw5]
  clear hw5
  obtain ⟨hB1, hbt, hT2, hI2, hF2⟩ := HH.out
  have hT5 := hT2.below hb5
  have hI5 := hI2.below hb5
  have hB5 := hB1.below hb5
  have hbt2 : bt < w2.heap.size := by
    rcases hT2 with ⟨h, -⟩ | ⟨b, h, h2, -⟩
    · cases h
    · cases h; exact h2
  have hA2 : 0 < ls.length → ∀ a, A = some a → a.block ≠ w.heap.size ∧ a.block ≠ w2.heap.size + 1 := by
    intro hn a e
    have h1 := hF2.1 a e
    obtain ⟨b, off, e', hlt, -⟩ := hT2.rat.2 hn
    rw [e] at e'
    cases e'
    simp only at h1 ⊢
    omega
  have hD2 : ∀ t ∈ ls, 0 < t.dm → ∀ a, t.dp = some a → a.block ≠ w.heap.size ∧ a.block ≠ w2.heap.size + 1 := by
    intro t ht hd a e
    have h1 := hF2.2 t ht hd a e
    obtain ⟨p, -, hp⟩ := ist_mem hI2 ht
    obtain ⟨b, off, e', hlt, -⟩ := hp.2.2.2.2.2.2.2 hd
    rw [e] at e'
    cases e'
    simp only at h1 ⊢
    omega
  have hlt2 := hB1.2.2.2
  have hq := seq25 8 (w2.heap.size + 1 + 1) ls.length c A ls ps (fun k => k ≠ w.heap.size ∧ k ≠ w2.heap.size + 1) w5 (by omega) (by rw [hI2.len]; exact HLN.out) (fun p hp => by have := (HG.out.2 p hp).2.2.2; omega) (by omega) cr5 hT5.rat hI5 (by
    rintro k hk (rfl | ⟨hn, a, e, rfl⟩ | ⟨t, ht, hd, a, e, rfl⟩)
    · omega
    · exact hA2 hn a e
    · exact hD2 t ht hd a e)
  have h0 : RiI w w5 (w2.heap.size + 1) [] w5 := ⟨⟨cl5, fl5⟩, ⟨hB5.2.1, hB5.2.2.1⟩, Kept.refl _ _, hB5.1⟩
  have hab := rii_abide w w5 (w2.heap.size + 1) hB5.1.size
  have hTW : ∀ W, Kept (fun k => k ≠ w.heap.size ∧ k ≠ w2.heap.size + 1) w5 W → TIn W (some ⟨bt, 0, none⟩) A c ls ∧ Ist W ls ps ∧ W.cell? ⟨w2.heap.size, 0, none⟩ = some (.pointer (some ⟨bt, 0, none⟩)) := fun W hk =>
    ⟨tin_kept hT5 hk (fun a e => by cases e; exact ⟨by show bt ≠ _; omega, by show bt ≠ _; omega⟩) hA2, hI5.kept hk hD2, hk.cell (a := ⟨w2.heap.size, 0, none⟩) ⟨by show w2.heap.size ≠ _; omega, by show w2.heap.size ≠ _; omega⟩ ct5⟩
  have HTW := Lib.hid hTW
  have HQ := Lib.hid hq
  have H0 := Lib.hid h0
  have HAB := Lib.hid hab
  have HS : Hid (w5.heap.size = w2.heap.size + 3 ∧ w.heap.size < w2.heap.size) := Lib.hid ⟨hs5, hlt2⟩
  have HRI : Hid (Rises ls ∧ ls.length ≤ 100000) := Lib.hid ⟨ist_rises hI2 HG.out, by rw [hI2.len]; exact HLN.out⟩
  clear hs5 hb5 ct5 cl5 fl5 cr5 hB1 hbt hT2 hI2 hF2 hT5 hI5 hB5 hbt2 hA2 hD2 hlt2 hq h0 hab hTW HH hb1
  refine range_nx2 rfl (by omega) rfl trivial (enters_of Tryd.func25 (by kernel_rfl) rfl) HQ.out (Nat.zero_le _) (by have := HS.out; omega) (by have := HS.out; omega) (fun _ => rfl) (fun x => rwRd_abide _ x _)
    (RiI w w5 (w2.heap.size + 1)) (fun _ _ _ => False) HAB.out (fun _ _ _ _ _ h => h.elim) H0.out RwBox (fun x b => rwBox_abide x b _) ?a1 ?assign ?body ?done ?stop
  case assign =>
    rintro lq pre x W' K hi hr hK
    simp only [rwArr, rwV]
    gi_wp2
    obtain ⟨b', hb'⟩ : ∃ b', W'.heap.size = b' := ⟨_, rfl⟩
    rw [hb']
    have hbo : ∀ o, Below W'.heap.size W' (W'.alloc o) := fun o => (Below.refl _ _).alloc (Nat.le_refl _) o
    refine hK b' _ (Kept.of_below (hbo _)) (HAB.out.below hi (hbo _)) ((rwRd_abide _ x w5.heap.size).below (s := ()) hr (hbo _)) ?_
    rw [← hb']
    exact ⟨by simp, by simp, by simp, by simp, by simp⟩
  case body =>
    rintro lq pre ⟨s, p⟩ b' Wb hi hr ⟨e0, e1, e2, e3, e5⟩ ⟨hnx, -⟩
    rw [List.map_append] at hnx
    obtain ⟨hfit, ⟨hl0, hl1, hl2⟩, hpa, hpb, hgp⟩ := next_row HG.out hnx
    obtain ⟨hT, hI, ct⟩ := HTW.out Wb hi.2.2.1
    have hLH : w.heap.size < w2.heap.size + 1 := by have := HS.out; omega
    have hnext := fun b hb d os => @ri_next w w5 Wb (w2.heap.size + 1) pre (s, p) hi hLH b hb d os
    obtain ⟨⟨cl, fl⟩, ⟨cr, fr⟩, -, -⟩ := hi
    obtain ⟨⟨i0, i1, i2, i3, -, i5, -⟩, -⟩ := hr
    dsimp only at e0 e1 e2 e3 e5 i0 i1 i2 i3 i5 hpa hpb hgp hnx
    have gcAt : ∀ z (q : Pr), patOf ps z = q → ∀ d os m, CallsIn (Fence.wide.inRound lq) m Tryd.prog 14 #[.pointer (some ⟨bt, 0, none⟩), .int .i64 z] (grow (redrawn Wb d) os) fun e w'' => e = .returned (.string (bs q.gc)) ∧ ∃ p : Regrown, w'' = grow (redrawn Wb p.d) p.os := by
      intro z q hz d os m
      have := gc14 _ A c ls z _ (hT.below (below_regrown Wb d os)) HRI.out.2 HRI.out.1
      rw [(ist_at z hI).2.2.1, hz] at this
      exact regrown_in this
    have ccAt : ∀ z (q : Pr), patOf ps z = q → ∀ d os m, CallsIn (Fence.wide.inRound lq) m Tryd.prog 15 #[.pointer (some ⟨bt, 0, none⟩), .int .i64 z] (grow (redrawn Wb d) os) fun e w'' => e = .returned (.int .i64 q.ccc) ∧ ∃ p : Regrown, w'' = grow (redrawn Wb p.d) p.os := by
      intro z q hz d os m
      have := ccc15 _ A c ls z _ (hT.below (below_regrown Wb d os)) HRI.out.2 HRI.out.1
      rw [(ist_at z hI).2.2.2.1, hz] at this
      exact regrown_in this
    have k1 := Lib.hid (gcAt p.a p hpa)
    have k2 := Lib.hid (gcAt p.b p hpb)
    have k3 := Lib.hid (ccAt p.b p hpb)
    have k4 := Lib.hid (fun hg => gcAt (p.a - 1) pr0 (hgp hg))
    have HN := Lib.hid (hnext p.b rfl)
    rw [i0] at e0
    rw [i1] at e1
    rw [i2] at e2
    rw [i3] at e3
    obtain ⟨f1, f2, f3, f4⟩ := hfit
    have hdm : s.dm ≤ 2 := by have f4' : p.dec.length ≤ 2 := f4; omega
    obtain ⟨dp, dm, dc, hsd⟩ : ∃ dp dm dc, Value.slice s.dp s.dm s.dc = .slice dp dm dc ∧ s.dm = dm := ⟨_, _, _, rfl, rfl⟩
    rw [hsd.1] at e5
    rw [hsd.2] at hdm
    obtain ⟨LS, hLS⟩ : ∃ LS, lst (pre.map Prod.snd) = LS := ⟨_, rfl⟩
    rw [hLS] at cl hl0 hl1 hl2 k4
    obtain ⟨G, hG⟩ : ∃ G, bs p.gc = G := ⟨_, rfl⟩
    rw [hG] at e2 k1 k2
    obtain ⟨a, ha⟩ : ∃ a, p.a = a := ⟨_, rfl⟩
    obtain ⟨b, hb⟩ : ∃ b, p.b = b := ⟨_, rfl⟩
    obtain ⟨cc, hcc⟩ : ∃ cc, p.ccc = cc := ⟨_, rfl⟩
    rw [ha] at e0 f1 f2 hl2 k1 k4
    rw [hb] at e1 f2 f3 k2 k3 HN
    rw [hcc] at e3 k3
    have hr0 : bs pr0.gc = ⟨#[]⟩ := bs_nil
    rw [hr0] at k4
    have hd1 : decide (a ≤ LS) = false := decide_eq_false (by omega)
    have hd2 : decide (b < a) = false := decide_eq_false (by omega)
    have hd3 : decide (2 < (dm : Int)) = false := decide_eq_false (by omega)
    have z0 := fun d os => cell_regrown e0 d os
    have z1 := fun d os => cell_regrown e1 d os
    have z2 := fun d os => cell_regrown e2 d os
    have z3 := fun d os => cell_regrown e3 d os
    have z5 := fun d os => cell_regrown e5 d os
    have zt := fun d os => cell_regrown ct d os
    have zl := fun d os => cell_regrown cl d os
    have zf : ∀ d os, (grow (redrawn Wb d) os).frozen? ⟨w2.heap.size + 1, 0, none⟩ = false := fun d os => ((below_regrown Wb d os).frozen (p := ⟨w2.heap.size + 1, 0, none⟩) (World.block_lt_of_cell? Wb _ cl)).trans fl
    clear hnx hnext gcAt ccAt hpa hpb hgp hT hI i0 i1 i2 i3 i5 hsd f4 hG hcc hLS ha hb hr0
    by_cases hg : LS + 1 < a
    · have hd4 : decide (LS + 1 < a) = true := decide_eq_true hg
      have k5 := Lib.hid (k4.out hg)
      clear k4
      gi_wp2
      refine region_round_below (by kernel_rfl) hmx (by kernel_rfl) ?_
      repeat (gi_big_quiet_step ((first
        | (gi_at_call 14; first | exact k1.out _ _ _ | exact k2.out _ _ _ | exact k5.out _ _ _)
        | (gi_at_call 15; exact k3.out _ _ _))))
      refine wpQuietIn_nil ?_
      intro _ hw'
      obtain ⟨⟨dq, osq⟩, hw''⟩ := hw'
      subst hw''
      gi_wp2
      exact HN.out dq osq
    · have hd4 : decide (LS + 1 < a) = false := decide_eq_false hg
      clear k4
      gi_wp2
      refine region_round_below (by kernel_rfl) hmx (by kernel_rfl) ?_
      repeat (gi_big_quiet_step ((first
        | (gi_at_call 14; first | exact k1.out _ _ _ | exact k2.out _ _ _)
        | (gi_at_call 15; exact k3.out _ _ _))))
      refine wpQuietIn_nil ?_
      intro _ hw'
      obtain ⟨⟨dq, osq⟩, hw''⟩ := hw'
      subst hw''
      gi_wp2
      exact HN.out dq osq
  case done =>
    rintro D xs W3 hD hxs hi hKD
    obtain ⟨hT, hI, ct⟩ := HTW.out W3 hi.2.2.1
    obtain ⟨⟨cl, fl⟩, ⟨cr, fr⟩, -, hbw⟩ := hi
    rw [hxs] at cl
    have hlb := lst_bound HG.out
    have c14 := callsIn_wide (n := 8) |>.2 (gc14 _ A c ls (lst ps + 1) W3 hT HRI.out.2 HRI.out.1)
    rw [(ist_at (lst ps + 1) hI).2.2.1, pat_end HG.out, show bs pr0.gc = ⟨#[]⟩ from bs_nil] at c14
    obtain ⟨LS, hLS⟩ : ∃ LS, lst ps = LS := ⟨_, rfl⟩
    rw [hLS] at cl c14 hlb
    have hDl := (Array.getElem?_eq_some_iff.1 hKD).1
    have hHl := World.block_lt_of_cell? W3 _ cr
    have hDH : w.heap.size < D := by have := HS.out; omega
    clear hT hI hxs hLS
    gi_wp2_with (refine ⟨trivial, ?_⟩; gi_at_call 14; (with_reducible refine c14.mono ?_); rintro e w6 ⟨rfl, hb6⟩; have q2 := (hb6.cell (p := ⟨w.heap.size, 0, none⟩) hHl).trans cr; have q3 := (hb6.frozen (p := ⟨w.heap.size, 0, none⟩) hHl).trans fr)
    have hK6 := (hb6.block D hDl).trans hKD
    exact leave rfl ((KeepsOthers.setCell w6 ⟨w.heap.size, 0, none⟩ _).same D _ hK6 rfl) (by omega) (World.cell?_setCell_same' _ _ _ (by rw [q2]; rfl)) ((hbw.trans (hb6.mono hbw.size)).setCell (p := ⟨w.heap.size, 0, none⟩) (Nat.le_refl _) _)
  case stop =>
    rintro D c2 pre W3 hD hpre hx hKD
    exact hx.elim
theorem walk (a0 : Option Addr) (len0 cap0 : Nat) (z0 : List Int) (w : World) (hM : ML w) (hR : IsRow .u8 w a0 len0 cap0 z0) :
    Calls Tryd.prog 5 #[.slice a0 len0 cap0] w fun e w' => e = .returned (.bool true) ∧ Below w.heap.size w w' := by
  obtain ⟨l, hO, -, -⟩ := hR.octs
  by_cases h : 1500 < len0
  · exact walk_long a0 len0 cap0 w hM h
  · by_cases he : (parseOf (linesIn l)).err = 0
    · exact walk_ok a0 len0 cap0 l w hM hO (by omega) he
    · exact walk_bad a0 len0 cap0 l w hM hO (by omega) he
end Go.Proofs.YtfmkhfjdihfppaaDoor.unicodeRises
