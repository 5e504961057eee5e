/- The laws' Is: a table has just these spans; the laws' few. -/
import Derived.Test.YtdbnegllncjhkaaGreatDoorItn
import Derived.Test.YtdbnegllncjhkaaGreatDoorBox
import Derived.Test.YtdbnegllncjhkaaGreatDoorQuietin
import Derived.Test.YtdbnegllncjhkaaGreatDoorLoop
namespace Go.Proofs.YtdbnegllncjhkaaGreatDoor
open Go.RowKit Go.Shelf Go.Sort
attribute [local go_sem] Oper.semAt_some
attribute [local go_sem, simp] round_fn
theorem is_hmx : Tryz.prog.follows .mixedOrders = true := by kernel_rfl

def IsI (bn : Nat) (w w4 : World) (xs : List Sp) (W : World) : Prop :=
  (W.cell? ⟨bn, 0, none⟩ = some (.int .i64 (xs.length : Nat)) ∧ W.frozen? ⟨bn, 0, none⟩ = false) ∧ (Kept (fun k => k ≠ bn) w4 W ∧ Below w.heap.size w W)
theorem isi_abide (bn : Nat) (w w4 : World) (hw : w.heap.size ≤ w4.heap.size) : Abide 0 0 w4.heap.size (IsI bn w w4) :=
  Abide.and (abide_cell (n₀ := 0) (n₁ := 0) (fun (_ : List Sp) => ⟨bn, 0, none⟩) (fun (xs : List Sp) => .int .i64 (xs.length : Nat)) (fun _ => by omega)) (Abide.and (abide_kept _ w4 (fun k _ hk => ⟨hk, by omega⟩)) (abide_below w (.inr (by omega)) hw (Nat.le_refl _)))
theorem is_next {bn : Nat} {w w4 W : World} {pre : List Sp} {x : Sp} (h : IsI bn w w4 pre W) (hb : w.heap.size ≤ bn) (q : Nat) :
    Kept (fun k => k ≠ bn) W ((W.drewN q).setCell ⟨bn, 0, none⟩ (.int .i64 ((pre.length : Int) + 1))) ∧ IsI bn w w4 (pre ++ [x]) ((W.drewN q).setCell ⟨bn, 0, none⟩ (.int .i64 ((pre.length : Int) + 1))) := by
  have hk1 : Kept (fun k => k ≠ bn) W ((W.drewN q).setCell ⟨bn, 0, none⟩ (.int .i64 ((pre.length : Int) + 1))) := (Kept.of_drew W q).trans (Kept.setCell _ _ _ (by simp))
  obtain ⟨⟨h1, h2⟩, h5, h6⟩ := h
  refine ⟨hk1, ⟨?_, ?_⟩, h5.trans hk1, (below_drewN h6 q).setCell (p := ⟨bn, 0, none⟩) hb _⟩
  · rw [List.length_append, List.length_singleton]
    exact (World.cell?_setCell_same' _ _ _ (by show (W.cell? _).isSome = true; rw [h1]; rfl)).trans (by simp)
  · rw [World.frozen?_setCell]; exact h2
theorem is_leave {w Wf : World} {D : Nat} {tmps : Array Value} {m : Nat} (ht : tmps[4]?.getD undef = .pointer (some ⟨w.heap.size + 1, 0, none⟩)) (hk : Wf.heap[D]? = some (.deferred (some []))) (hd : w.heap.size ≤ D)
    (hr : Wf.cell? ⟨w.heap.size + 1, 0, none⟩ = some (.bool true)) (hb : Below w.heap.size w Wf) :
    LeavesInM Fence.wide m Tryz.prog Tryz.f11 tmps (fun e w' => e = .returned (.bool true) ∧ Below w.heap.size w w') [{ target := .collected D, args := #[] }] .returning Wf := by
  refine ⟨by simp, .inl ⟨_, _, rfl, run_takeDeferred hk, ?_⟩⟩
  have h1 := cell_kept hr (grownBy_putObj' _ D (.deferred none)) (fun r e => by cases e; exact ⟨_, hk, rfl⟩)
  refine ⟨.bool true, ?_, rfl, hb.trans (belowK_b (w := w) (Nat.le_refl _) _ D _ _ hd hk rfl rfl)⟩
  simp [results, Tryz.results11, go_sem, h1, ht]
theorem next_sp {ls pre : List Sp} {x : Sp} (h : pre ++ [x] <+: ls) : pre.length < ls.length ∧ ls[pre.length]? = some x := by
  obtain ⟨r, rfl⟩ := h
  exact ⟨by simp, by simp⟩

set_option maxRecDepth 100000 in
set_option maxHeartbeats 4000000 in
theorem is11 (p A A' : Option Addr) (c n c' : Nat) (ls : List Sp) (w : World) (hT : TIn w p A c ls) (hS : SAt w A' n ls) (hn : n ≤ 100000) :
    Calls Tryz.prog 11 #[.pointer p, .slice A' n c'] w fun e w' => e = .returned (.bool true) ∧ Below w.heap.size w w' := by
  have hnl := hS.1
  have hb0 : Below w.heap.size w (((w.alloc (.cells #[.slice A' n c'] 30)).alloc (.cells #[.bool false] 4)).alloc (.cells #[.int .i64 0] 3)) := (((Below.refl _ _).alloc (Nat.le_refl _) _).alloc (by simp) _).alloc (by simp; omega) _
  have c28 := callsIn_wide (n := 7) |>.2 (all32 p A c ls (((w.alloc (.cells #[.slice A' n c'] 30)).alloc (.cells #[.bool false] 4)).alloc (.cells #[.int .i64 0] 3)) (hT.below hb0))
  have x0 : (((w.alloc (.cells #[.slice A' n c'] 30)).alloc (.cells #[.bool false] 4)).alloc (.cells #[.int .i64 0] 3)).cell? ⟨w.heap.size, 0, none⟩ = some (.slice A' n c') := box_cell _ (box_cell _ (box_new w _ 30).1)
  have x1 : (((w.alloc (.cells #[.slice A' n c'] 30)).alloc (.cells #[.bool false] 4)).alloc (.cells #[.int .i64 0] 3)).cell? ⟨w.heap.size + 1, 0, none⟩ = some (.bool false) := by
    have h1 := (box_new (w.alloc (.cells #[.slice A' n c'] 30)) (.bool false) 4).1
    rw [World.size_alloc] at h1
    exact box_cell _ h1
  have x2 : (((w.alloc (.cells #[.slice A' n c'] 30)).alloc (.cells #[.bool false] 4)).alloc (.cells #[.int .i64 0] 3)).cell? ⟨w.heap.size + 2, 0, none⟩ = some (.int .i64 0) := by
    have h1 := (box_new ((w.alloc (.cells #[.slice A' n c'] 30)).alloc (.cells #[.bool false] 4)) (.int .i64 0) 3).1
    rw [World.size_alloc, World.size_alloc] at h1
    exact h1
  have y1 : (((w.alloc (.cells #[.slice A' n c'] 30)).alloc (.cells #[.bool false] 4)).alloc (.cells #[.int .i64 0] 3)).frozen? ⟨w.heap.size + 1, 0, none⟩ = false := by
    have h1 := frozen_new (w.alloc (.cells #[.slice A' n c'] 30)) #[.bool false] 4 0
    rw [World.size_alloc] at h1
    exact (World.frozen?_alloc_past _ _ _ (by simp)).trans h1
  have y2 : (((w.alloc (.cells #[.slice A' n c'] 30)).alloc (.cells #[.bool false] 4)).alloc (.cells #[.int .i64 0] 3)).frozen? ⟨w.heap.size + 2, 0, none⟩ = false := by
    have h1 := frozen_new ((w.alloc (.cells #[.slice A' n c'] 30)).alloc (.cells #[.bool false] 4)) #[.int .i64 0] 3 0
    rw [World.size_alloc, World.size_alloc] at h1
    exact h1
  have s0 : (((w.alloc (.cells #[.slice A' n c'] 30)).alloc (.cells #[.bool false] 4)).alloc (.cells #[.int .i64 0] 3)).heap.size = w.heap.size + 3 := by simp
  have HX : Hid ((∀ W4, Below (((w.alloc (.cells #[.slice A' n c'] 30)).alloc (.cells #[.bool false] 4)).alloc (.cells #[.int .i64 0] 3)).heap.size (((w.alloc (.cells #[.slice A' n c'] 30)).alloc (.cells #[.bool false] 4)).alloc (.cells #[.int .i64 0] 3)) W4 → W4.cell? ⟨w.heap.size, 0, none⟩ = some (.slice A' n c') ∧ (W4.cell? ⟨w.heap.size + 1, 0, none⟩ = some (.bool false) ∧ W4.frozen? ⟨w.heap.size + 1, 0, none⟩ = false) ∧ (W4.cell? ⟨w.heap.size + 2, 0, none⟩ = some (.int .i64 0) ∧ W4.frozen? ⟨w.heap.size + 2, 0, none⟩ = false) ∧ Below w.heap.size w W4 ∧ w.heap.size + 3 ≤ W4.heap.size)) := Lib.hid fun W4 hb =>
    ⟨(hb.cell (p := ⟨w.heap.size, 0, none⟩) (by show w.heap.size < _; omega)).trans x0, ⟨(hb.cell (p := ⟨w.heap.size + 1, 0, none⟩) (by show w.heap.size + 1 < _; omega)).trans x1, (hb.frozen (p := ⟨w.heap.size + 1, 0, none⟩) (by show w.heap.size + 1 < _; omega)).trans y1⟩, ⟨(hb.cell (p := ⟨w.heap.size + 2, 0, none⟩) (by show w.heap.size + 2 < _; omega)).trans x2, (hb.frozen (p := ⟨w.heap.size + 2, 0, none⟩) (by show w.heap.size + 2 < _; omega)).trans y2⟩, hb0.trans (hb.mono hb0.size), by have := hb.size; omega⟩
  have HT := Lib.hid hT
  have HSS := Lib.hid hS
  have HNL := Lib.hid hnl
  clear hT hS hnl hb0 x0 x1 x2 y1 y2 s0
  refine (callsIn_wide (n := 8)).1 ?_
  refine callsIn_of_wp_marks Tryz.func11 rfl trivial ?_ rfl
  simp only [Tryz.ntmps11, List.size_toArray, List.length_cons, List.length_nil, Nat.reduceAdd, Nat.reduceSub, Array.replicate_succ, Array.replicate_zero, List.push_toArray, List.append_toArray, List.nil_append, List.cons_append]
  gi_wp2_with (refine ⟨trivial, ?_⟩; gi_at_call 30; (with_reducible refine c28.mono ?_); rintro e W4 ⟨hb4, b, rfl, hB1, hB2, hBc, hS1⟩; have h1 := Lib.hid hS1; clear hS1)
  clear c28
  obtain ⟨x0, x1, x2, hbw4, hs4⟩ := HX.out W4 hb4
  have hq := seq55n 7 b ls.length c A ls (fun k => k ≠ w.heap.size + 2) W4 (by omega) (by rw [HNL.out]; exact hn) hB2 hBc h1.out (fun h a e => by
    have h3 := HT.out.sat.lt h a e
    have h4 := h1.out.lt h a e
    exact ⟨by omega, h4⟩)
  have h0 : IsI (w.heap.size + 2) w W4 [] W4 := ⟨x2, Kept.refl _ _, hbw4⟩
  have HQ := Lib.hid hq
  have H0 := Lib.hid h0
  have HAB := Lib.hid (isi_abide (w.heap.size + 2) w W4 hbw4.size)
  have HB4 : Hid (W4.cell? ⟨w.heap.size, 0, none⟩ = some (.slice A' n c') ∧ (W4.cell? ⟨w.heap.size + 1, 0, none⟩ = some (.bool false) ∧ W4.frozen? ⟨w.heap.size + 1, 0, none⟩ = false)) := Lib.hid ⟨x0, x1⟩
  have HL : Hid (w.heap.size + 3 ≤ W4.heap.size) := Lib.hid hs4
  clear hq h0 hBc hb4 hB1 hB2 x0 x1 x2 hbw4 hs4 HX h1
  refine range_nx2 rfl (by omega) rfl trivial (enters_of Tryz.func82 (by kernel_rfl) rfl) HQ.out (Nat.zero_le _) (by have := HL.out; omega) (by have := HL.out; omega) (fun _ => rfl) (fun x _ W1 W2 row hs hg hr => ⟨hs.1, Nat.le_trans hs.2 hg.size⟩)
    (IsI (w.heap.size + 2) w W4) (fun _ _ _ => False) HAB.out (fun _ => Abide.pure _ _ _ _) H0.out SpBox (fun x b => spBox_abide x b _) ?a1 ?assign ?body ?done ?stop
  case assign =>
    rintro l pre x W K hi' hr hK
    simp only [spArr, spV]
    gi_wp2
    obtain ⟨b', hb⟩ : ∃ b, W.heap.size = b := ⟨_, rfl⟩
    rw [hb]
    refine hK b' _ (Kept.alloc _ _) (HAB.out.alloc _ hi') ⟨hr.1, Nat.le_trans hr.2 (by simp)⟩ ?_
    rw [← hb]
    exact spBox_new x W _
  case body =>
    rintro lq pre x b' W hi hr ⟨k1, k2, k3⟩ ⟨hnx, -⟩
    obtain ⟨hkl, hgx⟩ := next_sp hnx
    have R := Lib.hid (fun q => @is_next (w.heap.size + 2) w W4 W pre x hi (by omega) q)
    obtain ⟨⟨hcn, hfn⟩, hkp, hbw⟩ := hi
    have q0 : W.cell? ⟨w.heap.size, 0, none⟩ = some (.slice A' n c') := hkp.cell (a := ⟨w.heap.size, 0, none⟩) (by show w.heap.size ≠ _; omega) HB4.out.1
    obtain ⟨b2, off, hA', -, hc⟩ := (HSS.out.below hbw).2 (by have := HNL.out; omega)
    obtain ⟨g1, g2, g3⟩ := hc _ x hgx
    rw [HNL.out] at hkl
    obtain ⟨k, hk⟩ : ∃ k, pre.length = k := ⟨_, rfl⟩
    rw [hk] at hcn hkl g1 g2 g3 R
    obtain ⟨T, hT⟩ : ∃ T, bs x.v = T := ⟨_, rfl⟩
    rw [hT] at k3 g3
    have hd0 : decide (n ≤ k) = false := decide_eq_false (by omega)
    clear hr hnx hgx hc hk hT hkp hbw
    subst hA'
    gi_wp2
    refine region_round (by kernel_rfl) is_hmx (by kernel_rfl) ?_
    repeat (gi_big_quiet_step (fail))
    refine wpQuietIn_nil ?_
    intro _ hw'
    obtain ⟨nq, hw''⟩ := hw'
    subst hw''
    gi_wp2
    exact R.out nq
  case done =>
    rintro D xs W hD rfl ⟨⟨hcn, hfn⟩, hkp, hbw⟩ hKD
    have q0 : W.cell? ⟨w.heap.size, 0, none⟩ = some (.slice A' n c') := hkp.cell (a := ⟨w.heap.size, 0, none⟩) (by show w.heap.size ≠ _; omega) HB4.out.1
    have q2 : W.cell? ⟨w.heap.size + 1, 0, none⟩ = some (.bool false) := hkp.cell (a := ⟨w.heap.size + 1, 0, none⟩) (by show w.heap.size + 1 ≠ _; omega) HB4.out.2.1
    have q3 : W.frozen? ⟨w.heap.size + 1, 0, none⟩ = false := (hkp.frozen (a := ⟨w.heap.size + 1, 0, none⟩) (by show w.heap.size + 1 ≠ _; omega) HB4.out.2.1).trans HB4.out.2.2
    rw [HNL.out] at hcn
    have HBW := Lib.hid hbw
    clear hkp hbw
    gi_wp2
    exact is_leave rfl ((KeepsOthers.setCell W ⟨w.heap.size + 1, 0, none⟩ _).same D _ hKD rfl) (by have := HL.out; omega) (World.cell?_setCell_same' _ _ _ (by rw [q2]; rfl)) (HBW.out.setCell (p := ⟨w.heap.size + 1, 0, none⟩) (by simp) _)
  case stop =>
    rintro D c pre W _ _ h _
    exact h.elim

/-! few. -/
def fewB (vs : List (List UInt8)) : Bool := decide (vs.length ≤ 5) && decide (∀ v ∈ vs, v.length ≤ 30)
set_option maxHeartbeats 2000000 in
theorem few8 (V : Option Addr) (n c : Nat) (vs : List (List UInt8)) (w : World) (hV : Vals w V n (strs vs)) :
    Calls Tryz.prog 8 #[.slice V n c] w fun e w' => e = .returned (.bool (fewB vs)) ∧ w = w' := by
  have hvl : vs.length = n := by have := hV.1; rwa [strs_length] at this
  have HV := Lib.hid hV
  have HVL := Lib.hid hvl
  clear hV
  by_cases h5 : 5 < n
  · have hf : fewB vs = false := by unfold fewB; rw [decide_eq_false (by omega)]; rfl
    rw [hf]
    have hd : decide ((5 : Int) < (n : Int)) = true := decide_eq_true (by omega)
    clear hf hvl
    go_enter Tryz.func8, Tryz.ntmps8
    go_wp2
    go_ret
    exact ⟨rfl, rfl⟩
  · have hd : decide ((5 : Int) < (n : Int)) = false := decide_eq_false (by omega)
    have hn5 : n ≤ 5 := by omega
    clear hvl h5
    go_enter Tryz.func8, Tryz.ntmps8
    go_wp2
    go_loop [3] (fun i => ∃ k : Nat, i = .int .i64 k ∧ k ≤ n ∧ Hid (∀ v ∈ vs.take k, v.length ≤ 30)) (fun i => n - (intOf i).toNat)
    case atStart => exact ⟨0, rfl, Nat.zero_le _, Lib.hid (by simp)⟩
    case round =>
      obtain ⟨k, rfl, hk, HK⟩ := hrel
      by_cases hlt : k < n
      · obtain ⟨b, off, rfl, -, hc⟩ := HV.out.2 (by omega)
        have hkl : k < vs.length := by rw [HVL.out]; exact hlt
        have g1 := hc k _ (strs_get hkl)
        have hsz : (bs (vs.getD k [])).size = (vs.getD k []).length := bs_size _
        have hgd : vs.getD k [] = vs[k] := by rw [List.getD_eq_getElem?_getD, List.getElem?_eq_getElem hkl]; rfl
        by_cases h30 : 30 < (vs.getD k []).length
        · have hf : fewB vs = false := by
            unfold fewB
            rw [decide_eq_false (p := ∀ v ∈ vs, v.length ≤ 30) (fun h => by have := h _ (List.getElem_mem hkl); rw [hgd] at h30; omega), Bool.and_false]
          have HF := Lib.hid hf
          obtain ⟨S, hS⟩ : ∃ S, bs (vs.getD k []) = S := ⟨_, rfl⟩
          rw [hS] at g1 hsz
          rw [← hsz] at h30
          have hd3 : decide ((30 : Int) < (S.size : Int)) = true := decide_eq_true (by omega)
          clear hf hc hsz hgd hS hkl
          go_wp2
          go_ret
          exact ⟨by rw [HF.out]; rfl, rfl⟩
        · have HN := Lib.hid (show ∀ v ∈ vs.take (k + 1), v.length ≤ 30 from fun v hv => by
            rw [List.take_succ_eq_append_getElem hkl] at hv
            rcases List.mem_append.1 hv with h | h
            · exact HK.out v h
            · rw [List.mem_singleton.1 h, ← hgd]; omega)
          obtain ⟨S, hS⟩ : ∃ S, bs (vs.getD k []) = S := ⟨_, rfl⟩
          rw [hS] at g1 hsz
          rw [← hsz] at h30
          have hd3 : decide ((30 : Int) < (S.size : Int)) = false := decide_eq_false (by omega)
          clear hc hsz hgd hS hkl
          go_wp2
          go_round
          case rel => exact ⟨k + 1, by go_num, by omega, HN⟩
          case measure => simp [intOf]; omega
      · have hke : k = n := by omega
        subst hke
        have HF := Lib.hid (show fewB vs = true from by
          unfold fewB
          have h := HK.out
          rw [List.take_of_length_le (by rw [HVL.out]; exact Nat.le_refl _)] at h
          rw [decide_eq_true (p := ∀ v ∈ vs, v.length ≤ 30) h, decide_eq_true (by rw [HVL.out]; exact hn5)]
          rfl)
        go_wp2
        go_ret
        exact ⟨by rw [HF.out]; rfl, rfl⟩
end Go.Proofs.YtdbnegllncjhkaaGreatDoor
