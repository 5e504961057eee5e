/- The laws' Is: a table has just these pairs. -/
import Derived.Test.YtkcpnnfbhcklpaaGreatDoorCax
import Derived.Test.YtkcpnnfbhcklpaaGreatDoorRconf
import Derived.Test.YtkcpnnfbhcklpaaGreatDoorInts
import Derived.Test.YtkcpnnfbhcklpaaGreatDoorQuietin
import Derived.Deep.RegionHeld3
namespace Go.Proofs.YtkcpnnfbhcklpaaGreatDoor
open Go.RowKit Go.Shelf Go.Sort
attribute [local go_sem] Oper.semAt_some
attribute [local go_sem, simp] round_fn

/-- Between two pairs. -/
def IcI (w w4 : World) (most : Int) (xs : List PpV) (W : World) : Prop :=
  (W.cell? ⟨w.heap.size + 3, 0, none⟩ = some (.int .i64 (xs.length : Nat)) ∧ W.frozen? ⟨w.heap.size + 3, 0, none⟩ = false) ∧ ((Kept (fun k => k ≠ w.heap.size + 3) w4 W ∧ Below w.heap.size w W) ∧ (xs.length : Int) ≤ most)
/-- It was left off. -/
def IcX (w w4 : World) (most : Int) (c : Code) (xs : List PpV) (W : World) : Prop :=
  (c = .exit 0 ∧ most < (xs.length : Int)) ∧ ((W.cell? ⟨w.heap.size + 3, 0, none⟩ = some (.int .i64 most) ∧ W.frozen? ⟨w.heap.size + 3, 0, none⟩ = false) ∧ (Kept (fun k => k ≠ w.heap.size + 3) w4 W ∧ Below w.heap.size w W))
theorem ici_abide (w w4 : World) (most : Int) (hw : w.heap.size ≤ w4.heap.size) : Abide 0 0 w4.heap.size (IcI w w4 most) :=
  Abide.and (abide_cell (n₀ := 0) (n₁ := 0) (fun (_ : List PpV) => ⟨w.heap.size + 3, 0, none⟩) (fun (xs : List PpV) => .int .i64 (xs.length : Nat)) (fun _ => by omega)) (Abide.and (Abide.and (abide_kept _ w4 (fun k _ hk => ⟨hk, by omega⟩)) (abide_below w (.inr (by omega)) hw (Nat.le_refl _))) (Abide.pure _ _ _ _))
theorem icx_abide (w w4 : World) (most : Int) (hw : w.heap.size ≤ w4.heap.size) (c : Code) : Abide 0 0 w4.heap.size (IcX w w4 most c) :=
  Abide.and (Abide.pure _ _ _ _) (Abide.and (abide_cell (n₀ := 0) (n₁ := 0) (fun (_ : List PpV) => ⟨w.heap.size + 3, 0, none⟩) (fun _ => .int .i64 most) (fun _ => by omega)) (Abide.and (abide_kept _ w4 (fun k _ hk => ⟨hk, by omega⟩)) (abide_below w (.inr (by omega)) hw (Nat.le_refl _))))
theorem pprd_abide (N0 : Nat) (x : PpV) (B : Nat) : Abide 0 0 B (fun (_ : Unit) W => PpRd N0 x W) := by
  intro s W W' row h hg hr
  refine ⟨⟨h.1.1, fun hn => ?_⟩, Nat.le_trans h.2.1 hg.size, h.2.2⟩
  obtain ⟨b, off, e, hlt, hc⟩ := h.1.2 hn
  exact ⟨b, off, e, Nat.lt_of_lt_of_le hlt hg.size, fun j v hj => cell_abide (β := Unit) (B := B) _ _ () W W' row (hc j v hj) hg hr⟩
/-- The four boxes. -/
def wBox (w : World) (A' : Option Addr) (n c' : Nat) (most : Int) : World := (((w.alloc (.cells #[.slice A' n c'] 28)).alloc (.cells #[.int .i64 most] 3)).alloc (.cells #[.bool false] 4)).alloc (.cells #[.int .i64 0] 3)
theorem fz_new (w : World) (C : Array Value) (e : TypeId) (j : Nat) : (w.alloc (.cells C e)).frozen? ⟨w.heap.size, j, none⟩ = false := by
  have h := World.alloc_heap_new w (.cells C e)
  simp only [World.frozen?]
  rw [h]
  simp
theorem bx_new (W : World) (v : Value) (t : TypeId) : (W.alloc (.cells #[v] t)).cell? ⟨W.heap.size, 0, none⟩ = some v := by simp
theorem bx_cell {W : World} {a : Addr} {v : Value} (o : Obj) (h : W.cell? a = some v) : (W.alloc o).cell? a = some v := (World.cell?_alloc_lt _ _ _ (World.block_lt_of_cell? W a h)).trans h
theorem bx_frozen {W : World} {a : Addr} {v : Value} (o : Obj) (h : W.cell? a = some v) (hf : W.frozen? a = false) : (W.alloc o).frozen? a = false := (World.frozen?_alloc_past _ _ _ (World.block_lt_of_cell? W a h)).trans hf
/-- What stands in them, in every later world. -/
def BoxW (w : World) (A' : Option Addr) (n c' : Nat) (most : Int) (W : World) : Prop :=
  W.cell? ⟨w.heap.size, 0, none⟩ = some (.slice A' n c') ∧ W.cell? ⟨w.heap.size + 1, 0, none⟩ = some (.int .i64 most) ∧ (W.cell? ⟨w.heap.size + 2, 0, none⟩ = some (.bool false) ∧ W.frozen? ⟨w.heap.size + 2, 0, none⟩ = false) ∧ (W.cell? ⟨w.heap.size + 3, 0, none⟩ = some (.int .i64 0) ∧ W.frozen? ⟨w.heap.size + 3, 0, none⟩ = false)
theorem box_all (w : World) (A' : Option Addr) (n c' : Nat) (most : Int) : BoxW w A' n c' most (wBox w A' n c' most) ∧ Below w.heap.size w (wBox w A' n c' most) ∧ (wBox w A' n c' most).heap.size = w.heap.size + 4 := by
  have n1 : (w.alloc (.cells #[.slice A' n c'] 28)).cell? ⟨w.heap.size, 0, none⟩ = some (.slice A' n c') := by simp
  have n2 : ((w.alloc (.cells #[.slice A' n c'] 28)).alloc (.cells #[.int .i64 most] 3)).cell? ⟨w.heap.size + 1, 0, none⟩ = some (.int .i64 most) := by simp
  have n3 : (((w.alloc (.cells #[.slice A' n c'] 28)).alloc (.cells #[.int .i64 most] 3)).alloc (.cells #[.bool false] 4)).cell? ⟨w.heap.size + 2, 0, none⟩ = some (.bool false) := by
    have h := bx_new ((w.alloc (.cells #[.slice A' n c'] 28)).alloc (.cells #[.int .i64 most] 3)) (.bool false) 4
    rw [World.size_alloc, World.size_alloc] at h
    exact h
  have n4 : (wBox w A' n c' most).cell? ⟨w.heap.size + 3, 0, none⟩ = some (.int .i64 0) := by
    have h := bx_new (((w.alloc (.cells #[.slice A' n c'] 28)).alloc (.cells #[.int .i64 most] 3)).alloc (.cells #[.bool false] 4)) (.int .i64 0) 3
    rw [World.size_alloc, World.size_alloc, World.size_alloc] at h
    exact h
  have f3 := fz_new ((w.alloc (.cells #[.slice A' n c'] 28)).alloc (.cells #[.int .i64 most] 3)) #[.bool false] 4 0
  have f4 := fz_new (((w.alloc (.cells #[.slice A' n c'] 28)).alloc (.cells #[.int .i64 most] 3)).alloc (.cells #[.bool false] 4)) #[.int .i64 0] 3 0
  simp only [World.size_alloc] at f3 f4
  exact ⟨⟨bx_cell _ (bx_cell _ (bx_cell _ n1)), bx_cell _ (bx_cell _ n2), ⟨bx_cell _ n3, bx_frozen _ n3 f3⟩, n4, f4⟩, ((((Below.refl _ _).alloc (Nat.le_refl _) _).alloc (by simp) _).alloc (by simp; omega) _).alloc (by simp; omega) _, by unfold wBox; simp⟩
theorem BoxW.below {w : World} {A' : Option Addr} {n c' : Nat} {most : Int} {W W' : World} (h : BoxW w A' n c' most W) (hs : w.heap.size + 4 ≤ W.heap.size) (hb : Below W.heap.size W W') : BoxW w A' n c' most W' := by
  obtain ⟨h1, h2, ⟨h3, h4⟩, h5, h6⟩ := h
  exact ⟨(hb.cell (p := ⟨w.heap.size, 0, none⟩) (by show w.heap.size < _; omega)).trans h1, (hb.cell (p := ⟨w.heap.size + 1, 0, none⟩) (by show w.heap.size + 1 < _; omega)).trans h2, ⟨(hb.cell (p := ⟨w.heap.size + 2, 0, none⟩) (by show w.heap.size + 2 < _; omega)).trans h3, (hb.frozen (p := ⟨w.heap.size + 2, 0, none⟩) (by show w.heap.size + 2 < _; omega)).trans h4⟩, (hb.cell (p := ⟨w.heap.size + 3, 0, none⟩) (by show w.heap.size + 3 < _; omega)).trans h5, (hb.frozen (p := ⟨w.heap.size + 3, 0, none⟩) (by show w.heap.size + 3 < _; omega)).trans h6⟩
theorem next_pp {ps : List Pp} {pre : List PpV} {x : PpV} (h : (pre ++ [x]).map pview <+: ps) : pre.length < ps.length ∧ ps[pre.length]? = some (pview x) := by
  obtain ⟨r, rfl⟩ := h
  exact ⟨by simp, by simp⟩
theorem ic_next {w w4 W W2 : World} {most : Int} {pre : List PpV} {x : PpV} (h : IcI w w4 most pre W) (hm : (pre.length : Int) < most) (hb : Below W.heap.size W W2) :
    Kept (fun k => k ≠ w.heap.size + 3) W (W2.setCell ⟨w.heap.size + 3, 0, none⟩ (.int .i64 ((pre.length : Int) + 1))) ∧ IcI w w4 most (pre ++ [x]) (W2.setCell ⟨w.heap.size + 3, 0, none⟩ (.int .i64 ((pre.length : Int) + 1))) := by
  obtain ⟨⟨h1, h2⟩, ⟨h5, h6⟩, h7⟩ := h
  have hl : w.heap.size + 3 < W.heap.size := World.block_lt_of_cell? W _ h1
  have hk0 : Kept (fun k => k ≠ w.heap.size + 3) W W2 := ⟨hb.size, fun k _ hk => hb.block k hk⟩
  have hk1 : Kept (fun k => k ≠ w.heap.size + 3) W (W2.setCell ⟨w.heap.size + 3, 0, none⟩ (.int .i64 ((pre.length : Int) + 1))) := hk0.trans (Kept.setCell _ _ _ (by simp))
  have c2 : W2.cell? ⟨w.heap.size + 3, 0, none⟩ = some (.int .i64 (pre.length : Nat)) := (hb.cell (p := ⟨w.heap.size + 3, 0, none⟩) hl).trans h1
  refine ⟨hk1, ⟨?_, ?_⟩, ⟨h5.trans hk1, (h6.trans (hb.mono h6.size)).setCell (p := ⟨w.heap.size + 3, 0, none⟩) (by show w.heap.size ≤ w.heap.size + 3; omega) _⟩, ?_⟩
  · rw [List.length_append, List.length_singleton]
    exact (World.cell?_setCell_same' _ _ _ (by rw [c2]; rfl)).trans (by simp)
  · rw [World.frozen?_setCell]; exact (hb.frozen (p := ⟨w.heap.size + 3, 0, none⟩) hl).trans h2
  · rw [List.length_append, List.length_singleton]; push_cast; omega
theorem ic_leave {w Wf : World} {D : Nat} {tmps : Array Value} {m : Nat} (ht : tmps[6]?.getD undef = .pointer (some ⟨w.heap.size + 2, 0, none⟩)) (hk : Wf.heap[D]? = some (.deferred (some []))) (hd : w.heap.size ≤ D)
    (hr : Wf.cell? ⟨w.heap.size + 2, 0, none⟩ = some (.bool true)) (hb : Below w.heap.size w Wf) :
    LeavesInM Fence.wide m Tryz.prog Tryz.f9 tmps (fun e w' => e = .returned (.bool true) ∧ Below w.heap.size w w') [{ target := .collected D, args := #[] }] .returning Wf := by
  refine ⟨by simp, .inl ⟨_, _, rfl, run_takeDeferred hk, ?_⟩⟩
  have h1 := cell_kept hr (grownBy_putObj' _ D (.deferred none)) (fun r e => by cases e; exact ⟨_, hk, rfl⟩)
  refine ⟨.bool true, ?_, rfl, hb.trans (belowK_b (w := w) (Nat.le_refl _) _ D _ _ hd hk rfl rfl)⟩
  simp [results, Tryz.results9, go_sem, h1, ht]
set_option maxRecDepth 100000 in
set_option maxHeartbeats 4000000 in
theorem is9 (p A' : Option Addr) (n c' : Nat) (qs : List Pv) (rs : List Pp) (most : Int) (w : World) (hT : CT w p rs) (hP : PAt w A' n qs) (hI : IsPs w qs rs) (hn : n ≤ 100000) (hm0 : 0 ≤ most) :
    Calls Tryz.prog 9 #[.pointer p, .slice A' n c', .int .i64 most] w fun e w' => e = .returned (.bool true) ∧ Below w.heap.size w w' := by
  have hnl : rs.length = n := by have := hI.len; have := hP.1; omega
  obtain ⟨hbx, hb0, hs0⟩ := box_all w A' n c' most
  have c23 := callsIn_wide (n := 7) |>.2 (call23 p rs w (wBox w A' n c' most) hT hb0 (by omega) (fun k => k ≠ w.heap.size + 3) (fun k hk => by omega) (fun k hk => by omega))
  have HX := Lib.hid (And.intro hbx (And.intro hb0 hs0))
  unfold wBox at c23
  have HT := Lib.hid hT
  have HPP := Lib.hid hP
  have HII := Lib.hid hI
  have HNL := Lib.hid hnl
  clear hT hP hI hnl hbx hb0 hs0
  refine (callsIn_wide (n := 8)).1 ?_
  refine callsIn_of_wp_marks Tryz.func9 rfl trivial ?_ rfl
  simp only [Tryz.ntmps9, List.size_toArray, List.length_cons, List.length_nil, Nat.reduceAdd, Nat.reduceSub, Array.replicate_succ, Array.replicate_zero, List.push_toArray, List.append_toArray, List.nil_append, List.cons_append]
  gi_wp2_with (refine ⟨trivial, ?_⟩; gi_at_call 23; (with_reducible refine c23.mono ?_); rintro e W4 ⟨hb4, g, lb, rfl, hent, hq⟩; have HQ := Lib.hid hq; have HEN := Lib.hid hent; clear hq hent)
  clear c23
  obtain ⟨hbx, hb0, hs0⟩ := HX.out
  have hb4' : Below (wBox w A' n c' most).heap.size (wBox w A' n c' most) W4 := hb4
  have hx4 := hbx.below (by omega) hb4'
  have hbw4 : Below w.heap.size w W4 := hb0.trans (hb4'.mono hb0.size)
  have hs4 : w.heap.size + 4 ≤ W4.heap.size := by have := hb4'.size; omega
  have h0 : IcI w W4 most [] W4 := ⟨hx4.2.2.2, ⟨Kept.refl _ _, hbw4⟩, by simpa using hm0⟩
  have H0 := Lib.hid h0
  have HAB := Lib.hid (ici_abide w W4 most hbw4.size)
  have HAX := Lib.hid (icx_abide w W4 most hbw4.size)
  have HX4 := Lib.hid hx4
  have HL := Lib.hid hs4
  clear h0 hb4 hb4' hx4 hbw4 hs4 HX hbx hb0 hs0
  gi_wp2
  refine range_nx1 rfl (by omega) rfl trivial HEN.out HQ.out (Nat.zero_le _) (by have := HL.out; omega) (by have := HL.out; omega) (fun _ => rfl) (fun x => pprd_abide _ x _)
    (IcI w W4 most) (IcX w W4 most) HAB.out HAX.out H0.out ?a1 ?assign ?body ?done ?stop
  case assign =>
    rintro l x W K hK
    simp only [ppArr]
    gi_wp2
    exact hK
  case body =>
    rintro lq pre x W hi hr hnx
    obtain ⟨hkl, hgx⟩ := next_pp hnx
    obtain ⟨⟨hcn, hfn⟩, ⟨hkp, hbw⟩, hle⟩ := id hi
    have q0 : W.cell? ⟨w.heap.size, 0, none⟩ = some (.slice A' n c') := hkp.cell (a := ⟨w.heap.size, 0, none⟩) (by show w.heap.size ≠ _; omega) HX4.out.1
    have q1 : W.cell? ⟨w.heap.size + 1, 0, none⟩ = some (.int .i64 most) := hkp.cell (a := ⟨w.heap.size + 1, 0, none⟩) (by show w.heap.size + 1 ≠ _; omega) HX4.out.2.1
    have hcn' : W.cell? ⟨w.heap.size + 1 + 1 + 1, 0, none⟩ = some (.int .i64 (pre.length : Nat)) := hcn
    have hfn' : W.frozen? ⟨w.heap.size + 1 + 1 + 1, 0, none⟩ = false := hfn
    by_cases hlt : (pre.length : Int) < most
    · have hP := HPP.out.below hbw
      have hI := HII.out.below hbw
      rw [HNL.out] at hkl
      obtain ⟨b2, off, hA', hb2, hc⟩ := hP.2 (by omega)
      obtain ⟨q, hq⟩ : ∃ q, qs[pre.length]? = some q := ⟨_, List.getElem?_eq_getElem (by have := hP.1; omega)⟩
      obtain ⟨r, hr1, hqr⟩ := hI.get hq
      rw [hgx] at hr1
      cases hr1
      obtain ⟨g1, g2⟩ := hc _ q hq
      have k12 := same17 x.2.1.1 q.A x.2.2.length x.2.1.2 q.cap x.2.2 W hr.1 (by have := hqr.2.2; rw [hqr.2.1] at this; exact this) (Nat.le_trans hr.2.2 (by omega))
      have R := Lib.hid (fun q => ic_next (x := x) hi hlt (below_drewN (Below.refl _ W) q))
      rw [hqr.1] at g1
      rw [hqr.2.1] at g2
      have e1 : (pview x).c = x.1 := rfl
      have e2 : (pview x).p = x.2.2 := rfl
      rw [e1] at g1
      rw [e2] at g2
      obtain ⟨k, hk⟩ : ∃ k, pre.length = k := ⟨_, rfl⟩
      rw [hk] at hcn' hkl g1 g2 R hlt
      obtain ⟨m, hm⟩ : ∃ m, x.2.2.length = m := ⟨_, rfl⟩
      obtain ⟨Ax, hAx⟩ : ∃ m, x.2.1.1 = m := ⟨_, rfl⟩
      obtain ⟨cx, hcx⟩ : ∃ m, x.2.1.2 = m := ⟨_, rfl⟩
      obtain ⟨sx, hsx⟩ : ∃ m, x.1 = m := ⟨_, rfl⟩
      rw [hm, hAx, hcx] at k12
      rw [hm] at g2
      rw [hsx] at g1
      subst hA'
      simp only [hm, hAx, hcx, hsx]
      have hd0 : decide (n ≤ k) = false := decide_eq_false (by omega)
      clear hi hr hnx hgx hc hk hkp hbw hcn hfn hP hI hq hqr e1 e2 hm hAx hcx hsx hle
      gi_wp2_with (gi_at_call 12; refine (CallsIn.inRound lq (callsIn_wide.2 k12)).mono ?_; rintro e w2 ⟨rfl, nq, rfl⟩)
      exact R.out nq
    · have hpm : (pre.length : Int) = most := by omega
      have R : Hid (Kept (fun k => k ≠ w.heap.size + 3) W W ∧ IcX w W4 most (.exit 0) (pre ++ [x]) W) := Lib.hid ⟨Kept.refl _ _, ⟨rfl, by rw [List.length_append, List.length_singleton]; push_cast; omega⟩, ⟨by rw [← hpm]; exact hcn, hfn⟩, hkp, hbw⟩
      have hd0 : decide (most ≤ (pre.length : Int)) = true := decide_eq_true (by omega)
      clear hi hr hnx hgx hkp hbw hcn hfn hle
      gi_wp2
      exact R.out
  case done =>
    rintro D xs W3 hD hxs ⟨⟨hcn0, hfn⟩, ⟨hkp, hbw⟩, hle⟩ hKD
    have hlx : xs.length = n := by have h := congrArg List.length hxs; rw [List.length_map, HNL.out] at h; exact h
    have hcn : W3.cell? ⟨w.heap.size + 1 + 1 + 1, 0, none⟩ = some (.int .i64 (n : Nat)) := by rw [← hlx]; exact hcn0
    rw [hlx] at hle
    have hmin : (((n : Nat) : Int) == min most ((n : Nat) : Int)) = true := by rw [Int.min_eq_right (by omega)]; simp
    clear hxs hlx hcn0
    have q0 : W3.cell? ⟨w.heap.size, 0, none⟩ = some (.slice A' n c') := hkp.cell (a := ⟨w.heap.size, 0, none⟩) (by show w.heap.size ≠ _; omega) HX4.out.1
    have q1 : W3.cell? ⟨w.heap.size + 1, 0, none⟩ = some (.int .i64 most) := hkp.cell (a := ⟨w.heap.size + 1, 0, none⟩) (by show w.heap.size + 1 ≠ _; omega) HX4.out.2.1
    have q2 : W3.cell? ⟨w.heap.size + 1 + 1, 0, none⟩ = some (.bool false) := hkp.cell (a := ⟨w.heap.size + 2, 0, none⟩) (by show w.heap.size + 2 ≠ _; omega) HX4.out.2.2.1.1
    have q3 : W3.frozen? ⟨w.heap.size + 1 + 1, 0, none⟩ = false := (hkp.frozen (a := ⟨w.heap.size + 2, 0, none⟩) (by show w.heap.size + 2 ≠ _; omega) HX4.out.2.2.1.1).trans HX4.out.2.2.1.2
    have K13 : Hid (∀ W, Below W3.heap.size W3 W → Calls Tryz.prog 13 #[.pointer p] W fun e w' => e = .returned (.int .i64 (n : Nat)) ∧ W = w') := Lib.hid fun W hb => (clen13 p rs W ((HT.out.below hbw).below hb) (by rw [HNL.out]; exact hn)).mono fun e w' h => ⟨by rw [h.1, HNL.out], h.2⟩
    have HBW := Lib.hid hbw
    have hDw : w.heap.size ≤ D := by have := HL.out; omega
    have HSS : Hid (∀ W, Below W3.heap.size W3 W → W.cell? ⟨w.heap.size + 1 + 1 + 1, 0, none⟩ = some (.int .i64 (n : Nat)) ∧ W.cell? ⟨w.heap.size + 1, 0, none⟩ = some (.int .i64 most) ∧ W.cell? ⟨w.heap.size, 0, none⟩ = some (.slice A' n c')) := Lib.hid fun W hb =>
      ⟨(hb.cell (p := ⟨w.heap.size + 1 + 1 + 1, 0, none⟩) (World.block_lt_of_cell? W3 _ hcn)).trans hcn, (hb.cell (p := ⟨w.heap.size + 1, 0, none⟩) (World.block_lt_of_cell? W3 _ q1)).trans q1, (hb.cell (p := ⟨w.heap.size, 0, none⟩) (World.block_lt_of_cell? W3 _ q0)).trans q0⟩
    have HSU : Hid (∀ v, (W3.setCell ⟨w.heap.size + 1 + 1, 0, none⟩ v).cell? ⟨w.heap.size + 1 + 1 + 1, 0, none⟩ = some (.int .i64 (n : Nat)) ∧ (W3.setCell ⟨w.heap.size + 1 + 1, 0, none⟩ v).cell? ⟨w.heap.size + 1, 0, none⟩ = some (.int .i64 most) ∧ (W3.setCell ⟨w.heap.size + 1 + 1, 0, none⟩ v).cell? ⟨w.heap.size, 0, none⟩ = some (.slice A' n c')) := Lib.hid fun v =>
      ⟨(World.cell?_setCell_other _ _ _ _ (by intro e; injection e with e1; omega)).trans hcn, (World.cell?_setCell_other _ _ _ _ (by intro e; injection e with e1; omega)).trans q1, (World.cell?_setCell_other _ _ _ _ (by intro e; injection e with e1; omega)).trans q0⟩
    clear hkp hbw
    gi_wp2
    refine wpIn_wide.2 ?_
    go_region_held3 (fun w' => w'.cell? ⟨w.heap.size + 1 + 1 + 1, 0, none⟩ = some (.int .i64 (n : Nat)) ∧ w'.cell? ⟨w.heap.size + 1, 0, none⟩ = some (.int .i64 most) ∧ w'.cell? ⟨w.heap.size, 0, none⟩ = some (.slice A' n c'))
      (first | exact HSS.out _ (Below.refl _ _) | exact HSS.out _ (below_drew (Below.refl _ _)) | exact HSU.out _ | go_keep)
      ((go_simp; go_at_call 13; (with_reducible refine (K13.out _ (by first | with_reducible exact Below.refl _ _ | with_reducible exact below_drew (Below.refl _ _))).mono ?_); rintro e w' ⟨rfl, rfl⟩))
    gi_wp2
    exact ic_leave rfl ((KeepsOthers.setCell W3.drew ⟨w.heap.size + 2, 0, none⟩ _).same D _ hKD rfl) hDw (World.cell?_setCell_same' _ _ _ (by show (W3.cell? ⟨w.heap.size + 1 + 1, 0, none⟩).isSome = true; rw [q2]; rfl)) ((below_drew HBW.out).setCell (p := ⟨w.heap.size + 2, 0, none⟩) (by show w.heap.size ≤ w.heap.size + 2; omega) _)
  case stop =>
    rintro D c2 pre W3 hD hpre ⟨⟨rfl, hpl⟩, ⟨hcn0, hfn⟩, hkp, hbw⟩ hKD
    have hle : most < (n : Int) := by
      have h := hpre.length_le
      rw [List.length_map, HNL.out] at h
      omega
    have hcn : W3.cell? ⟨w.heap.size + 1 + 1 + 1, 0, none⟩ = some (.int .i64 most) := hcn0
    have hmin : (most == min most ((n : Nat) : Int)) = true := by rw [Int.min_eq_left (by omega)]; simp
    clear hpre hpl hcn0
    have q0 : W3.cell? ⟨w.heap.size, 0, none⟩ = some (.slice A' n c') := hkp.cell (a := ⟨w.heap.size, 0, none⟩) (by show w.heap.size ≠ _; omega) HX4.out.1
    have q1 : W3.cell? ⟨w.heap.size + 1, 0, none⟩ = some (.int .i64 most) := hkp.cell (a := ⟨w.heap.size + 1, 0, none⟩) (by show w.heap.size + 1 ≠ _; omega) HX4.out.2.1
    have q2 : W3.cell? ⟨w.heap.size + 1 + 1, 0, none⟩ = some (.bool false) := hkp.cell (a := ⟨w.heap.size + 2, 0, none⟩) (by show w.heap.size + 2 ≠ _; omega) HX4.out.2.2.1.1
    have q3 : W3.frozen? ⟨w.heap.size + 1 + 1, 0, none⟩ = false := (hkp.frozen (a := ⟨w.heap.size + 2, 0, none⟩) (by show w.heap.size + 2 ≠ _; omega) HX4.out.2.2.1.1).trans HX4.out.2.2.1.2
    have K13 : Hid (∀ W, Below W3.heap.size W3 W → Calls Tryz.prog 13 #[.pointer p] W fun e w' => e = .returned (.int .i64 (n : Nat)) ∧ W = w') := Lib.hid fun W hb => (clen13 p rs W ((HT.out.below hbw).below hb) (by rw [HNL.out]; exact hn)).mono fun e w' h => ⟨by rw [h.1, HNL.out], h.2⟩
    have HBW := Lib.hid hbw
    have hDw : w.heap.size ≤ D := by have := HL.out; omega
    have HSS : Hid (∀ W, Below W3.heap.size W3 W → W.cell? ⟨w.heap.size + 1 + 1 + 1, 0, none⟩ = some (.int .i64 most) ∧ W.cell? ⟨w.heap.size + 1, 0, none⟩ = some (.int .i64 most) ∧ W.cell? ⟨w.heap.size, 0, none⟩ = some (.slice A' n c')) := Lib.hid fun W hb =>
      ⟨(hb.cell (p := ⟨w.heap.size + 1 + 1 + 1, 0, none⟩) (World.block_lt_of_cell? W3 _ hcn)).trans hcn, (hb.cell (p := ⟨w.heap.size + 1, 0, none⟩) (World.block_lt_of_cell? W3 _ q1)).trans q1, (hb.cell (p := ⟨w.heap.size, 0, none⟩) (World.block_lt_of_cell? W3 _ q0)).trans q0⟩
    have HSU : Hid (∀ v, (W3.setCell ⟨w.heap.size + 1 + 1, 0, none⟩ v).cell? ⟨w.heap.size + 1 + 1 + 1, 0, none⟩ = some (.int .i64 most) ∧ (W3.setCell ⟨w.heap.size + 1 + 1, 0, none⟩ v).cell? ⟨w.heap.size + 1, 0, none⟩ = some (.int .i64 most) ∧ (W3.setCell ⟨w.heap.size + 1 + 1, 0, none⟩ v).cell? ⟨w.heap.size, 0, none⟩ = some (.slice A' n c')) := Lib.hid fun v =>
      ⟨(World.cell?_setCell_other _ _ _ _ (by intro e; injection e with e1; omega)).trans hcn, (World.cell?_setCell_other _ _ _ _ (by intro e; injection e with e1; omega)).trans q1, (World.cell?_setCell_other _ _ _ _ (by intro e; injection e with e1; omega)).trans q0⟩
    clear hkp hbw
    gi_wp2
    refine wpIn_wide.2 ?_
    go_region_held3 (fun w' => w'.cell? ⟨w.heap.size + 1 + 1 + 1, 0, none⟩ = some (.int .i64 most) ∧ w'.cell? ⟨w.heap.size + 1, 0, none⟩ = some (.int .i64 most) ∧ w'.cell? ⟨w.heap.size, 0, none⟩ = some (.slice A' n c'))
      (first | exact HSS.out _ (Below.refl _ _) | exact HSS.out _ (below_drew (Below.refl _ _)) | exact HSU.out _ | go_keep)
      ((go_simp; go_at_call 13; (with_reducible refine (K13.out _ (by first | with_reducible exact Below.refl _ _ | with_reducible exact below_drew (Below.refl _ _))).mono ?_); rintro e w' ⟨rfl, rfl⟩))
    gi_wp2
    exact ic_leave rfl ((KeepsOthers.setCell W3.drew ⟨w.heap.size + 2, 0, none⟩ _).same D _ hKD rfl) hDw (World.cell?_setCell_same' _ _ _ (by show (W3.cell? ⟨w.heap.size + 1 + 1, 0, none⟩).isSome = true; rw [q2]; rfl)) ((below_drew HBW.out).setCell (p := ⟨w.heap.size + 2, 0, none⟩) (by show w.heap.size ≤ w.heap.size + 2; omega) _)
end Go.Proofs.YtkcpnnfbhcklpaaGreatDoor
