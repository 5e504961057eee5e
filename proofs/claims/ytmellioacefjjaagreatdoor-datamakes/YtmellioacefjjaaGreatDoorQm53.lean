/- DataMakes walked. -/
import Derived.Test.YtmellioacefjjaaGreatDoorQm50
import Derived.Test.YtmellioacefjjaaGreatDoorQm51
import Derived.Test.YtmellioacefjjaaGreatDoorQm33
import Derived.RangeFuncCalls
import Derived.Test.YtmellioacefjjaaGreatDoorQm19
namespace Go.Proofs.YtmellioacefjjaaGreatDoor
open Go.RowKit Go.Shelf Go.Sort
attribute [local go_sem] Oper.semAt_some
attribute [local go_sem, simp] round_fn
theorem regrown_in {P : Program} {f : FuncId} {args : Array Value} {w : World} {d m lq : Nat} {os : Array Obj} {v : Value}
    (h : Calls P f args (grow (redrawn w d) os) fun e w' => e = .returned v ∧ Below (grow (redrawn w d) os).heap.size (grow (redrawn w d) os) w') :
    CallsIn (Fence.wide.inRound lq) m P f args (grow (redrawn w d) os) fun e w'' => e = .returned v ∧ ∃ p : Regrown, w'' = grow (redrawn w p.d) p.os :=
  CallsIn.inRound lq (callsIn_wide.2 (Calls.regrown_of h))

/-- The bundle's box at H, the result's at H + 1. -/
def WB (w W : World) (v0 v1 v2 v3 v4 v5 v6 : Value) : Prop :=
  ((W.cell? ⟨w.heap.size, 0, none⟩ = some v0 ∧ W.cell? ⟨w.heap.size, 1, none⟩ = some v1 ∧ W.cell? ⟨w.heap.size, 2, none⟩ = some v2 ∧ W.cell? ⟨w.heap.size, 3, none⟩ = some v3 ∧ W.cell? ⟨w.heap.size, 4, none⟩ = some v4 ∧ W.cell? ⟨w.heap.size, 5, none⟩ = some v5 ∧ W.cell? ⟨w.heap.size, 6, none⟩ = some v6) ∧
    (W.cell? ⟨w.heap.size + 1, 0, none⟩ = some (.bool false) ∧ W.frozen? ⟨w.heap.size + 1, 0, none⟩ = false)) ∧ Below w.heap.size w W
theorem WB.below {w W W' : World} {v0 v1 v2 v3 v4 v5 v6 : Value} (h : WB w W v0 v1 v2 v3 v4 v5 v6) (hb : Below W.heap.size W W') : WB w W' v0 v1 v2 v3 v4 v5 v6 := by
  obtain ⟨⟨⟨h0, h1, h2, h3, h4, h5, h6⟩, h7, h8⟩, h9⟩ := h
  have hl := World.block_lt_of_cell? W _ h7
  have hl : w.heap.size + 1 < W.heap.size := hl
  have c : ∀ i, W'.cell? ⟨w.heap.size, i, none⟩ = W.cell? ⟨w.heap.size, i, none⟩ := fun i => hb.cell (p := ⟨w.heap.size, i, none⟩) (show w.heap.size < W.heap.size by omega)
  exact ⟨⟨⟨(c _).trans h0, (c _).trans h1, (c _).trans h2, (c _).trans h3, (c _).trans h4, (c _).trans h5, (c _).trans h6⟩, (hb.cell (p := ⟨w.heap.size + 1, 0, none⟩) hl).trans h7, (hb.frozen (p := ⟨w.heap.size + 1, 0, none⟩) hl).trans h8⟩, h9.trans (hb.mono h9.size)⟩
theorem WB.lt {w W : World} {v0 v1 v2 v3 v4 v5 v6 : Value} (h : WB w W v0 v1 v2 v3 v4 v5 v6) : w.heap.size + 1 < W.heap.size := World.block_lt_of_cell? W _ h.1.2.1
theorem wb_ne {w W : World} {v0 v1 v2 v3 v4 v5 v6 : Value} (h : WB w W v0 v1 v2 v3 v4 v5 v6) : ¬ w.heap.size + 1 = W.heap.size ∧ ¬ W.heap.size = w.heap.size + 1 ∧ ¬ W.heap.size = w.heap.size ∧ ¬ w.heap.size = W.heap.size := by
  have := h.lt
  exact ⟨by omega, by omega, by omega, by omega⟩
theorem wb_fro2 {w W : World} {v0 v1 v2 v3 v4 v5 v6 : Value} (h : WB w W v0 v1 v2 v3 v4 v5 v6) (o1 o2 : Obj) : ((W.alloc o1).alloc o2).frozen? ⟨w.heap.size + 1, 0, none⟩ = false := by
  have := h.lt
  rw [old_fro _ _ _ _ (by simp; omega), old_fro _ _ _ _ (by omega)]
  exact h.1.2.2
theorem wb_cel2 {w W : World} {v0 v1 v2 v3 v4 v5 v6 : Value} (h : WB w W v0 v1 v2 v3 v4 v5 v6) (o1 o2 : Obj) : ((W.alloc o1).alloc o2).cell? ⟨w.heap.size + 1, 0, none⟩ = some (.bool false) := by
  have := h.lt
  rw [old_at _ _ _ _ (by simp; omega), old_at _ _ _ _ (by omega)]
  exact h.1.2.1
theorem wb_two {w W : World} {v0 v1 v2 v3 v4 v5 v6 : Value} (h : WB w W v0 v1 v2 v3 v4 v5 v6) (o1 o2 : Obj) : WB w ((W.alloc o1).alloc o2) v0 v1 v2 v3 v4 v5 v6 :=
  (h.below ((Below.refl _ _).alloc (Nat.le_refl _) _)).below ((Below.refl _ _).alloc (Nat.le_refl _) _)
theorem wb_new (w : World) (v0 v1 v2 v3 v4 v5 v6 : Value) : WB w ((w.alloc (.cells #[v0, v1, v2, v3, v4, v5, v6] 24)).alloc (.cells #[.bool false] 4)) v0 v1 v2 v3 v4 v5 v6 := by
  have o : ∀ i, ((w.alloc (.cells #[v0, v1, v2, v3, v4, v5, v6] 24)).alloc (.cells #[.bool false] 4)).cell? ⟨w.heap.size, i, none⟩ = (#[v0, v1, v2, v3, v4, v5, v6] : Array Value)[i]? := fun i => by rw [old_at _ _ _ _ (by simp), new_at _ _ _ _ _ rfl]
  refine ⟨⟨⟨by rw [o]; rfl, by rw [o]; rfl, by rw [o]; rfl, by rw [o]; rfl, by rw [o]; rfl, by rw [o]; rfl, by rw [o]; rfl⟩, ?_, new_fro _ _ _ _ _ (by simp)⟩, ((Below.refl _ _).alloc (Nat.le_refl _) _).alloc (by simp) _⟩
  rw [new_at _ _ _ _ _ (by simp)]; rfl
theorem leave5 {w Wf : World} {D m : Nat} {tmps : Array Value} {P : Ending → World → Prop} (t2 : tmps[6]?.getD undef = .pointer (some ⟨w.heap.size + 1, 0, none⟩)) (hk : Wf.heap[D]? = some (.deferred (some []))) (hr : Wf.cell? ⟨w.heap.size + 1, 0, none⟩ = some (.bool true))
    (h : P (.returned (.bool true)) (Wf.putObj D (.deferred none))) :
    LeavesInM Fence.wide m Tryz.prog Tryz.f5 tmps P [{ target := .collected D, args := #[] }] .returning Wf := by
  refine ⟨by simp, .inl ⟨_, _, rfl, run_takeDeferred hk, ?_⟩⟩
  have k1 := cell_kept hr (grownBy_putObj' _ D (.deferred none)) (fun r e => by cases e; exact ⟨_, hk, rfl⟩)
  refine ⟨.bool true, ?_, h⟩
  simp [results, Tryz.results5, go_sem, k1, t2]
theorem leave5n {w Wf : World} {m : Nat} {tmps : Array Value} {P : Ending → World → Prop} (t2 : tmps[6]?.getD undef = .pointer (some ⟨w.heap.size + 1, 0, none⟩)) (hr : Wf.cell? ⟨w.heap.size + 1, 0, none⟩ = some (.bool true)) (h : P (.returned (.bool true)) Wf) :
    LeavesInM Fence.wide m Tryz.prog Tryz.f5 tmps P [] .returning Wf := by
  refine ⟨.bool true, ?_, h⟩
  simp [results, Tryz.results5, go_sem, hr, t2]
theorem wb_set {w W : World} {v0 v1 v2 v3 v4 v5 v6 : Value} (h : WB w W v0 v1 v2 v3 v4 v5 v6) : (W.setCell ⟨w.heap.size + 1, 0, none⟩ (.bool true)).cell? ⟨w.heap.size + 1, 0, none⟩ = some (.bool true) ∧ Below w.heap.size w (W.setCell ⟨w.heap.size + 1, 0, none⟩ (.bool true)) :=
  ⟨World.cell?_setCell_same _ _ _ h.1.2.1, h.2.setCell (p := ⟨w.heap.size + 1, 0, none⟩) (by show w.heap.size ≤ w.heap.size + 1; omega) _⟩
theorem mk_end {w W : World} {D : Nat} {v0 v1 v2 v3 v4 v5 v6 : Value} (h : WB w W v0 v1 v2 v3 v4 v5 v6) (hk : W.heap[D]? = some (.deferred (some []))) (hD : w.heap.size + 1 < D) :
    (W.setCell ⟨w.heap.size + 1, 0, none⟩ (.bool true)).heap[D]? = some (.deferred (some [])) ∧ (W.setCell ⟨w.heap.size + 1, 0, none⟩ (.bool true)).cell? ⟨w.heap.size + 1, 0, none⟩ = some (.bool true) ∧ Below w.heap.size w ((W.setCell ⟨w.heap.size + 1, 0, none⟩ (.bool true)).putObj D (.deferred none)) := by
  have hk3 : (W.setCell ⟨w.heap.size + 1, 0, none⟩ (.bool true)).heap[D]? = some (.deferred (some [])) := by
    rw [heap_setCell_other _ ⟨w.heap.size + 1, 0, none⟩ D _ (fun e => by simp at e; omega)]; exact hk
  exact ⟨hk3, (wb_set h).1, (wb_set h).2.trans (belowK_b (w := w) (Nat.le_refl _) _ D _ _ (by omega) hk3 rfl rfl)⟩
/-- Between two rows nothing changes. -/
def MqI (w : World) (_pre : List Uc.RwP) (W : World) : Prop := Below w.heap.size w W
def MqY (w : World) (pre : List Uc.RwP) (x : Uc.RwP) (W : World) : Prop := MqI w pre W ∧ Uc.Is W x.1 x.2
theorem mqi_abide (w : World) (B : Nat) (hB : w.heap.size ≤ B) : Abide 0 0 B (MqI w) := fun _ W W' row h hg hr =>
  abide_below (β := Unit) w (.inr (by omega)) hB (Nat.le_refl _) () W W' row h hg hr
theorem mqy_abide (w : World) (pre : List Uc.RwP) (x : Uc.RwP) (B : Nat) (hB : w.heap.size ≤ B) : Abide 0 0 B (fun (_ : Unit) W => MqY w pre x W) := by
  intro _ W W' row ⟨h1, h3⟩ hg hr
  exact ⟨mqi_abide w B hB pre W W' row h1 hg hr, h3.1, h3.2.1, h3.2.2.1, h3.2.2.2.1, h3.2.2.2.2.1, h3.2.2.2.2.2.1, vals_abide (β := Unit) (B := B) () W W' row h3.2.2.2.2.2.2 hg hr⟩
set_option maxRecDepth 100000 in
set_option maxHeartbeats 4000000 in
theorem makes5 (b0 b1 b2 b3 b4 b5 b6 : Option Addr) (n0 n1 n2 n3 n4 n5 n6 m0 m1 m2 m3 m4 m5 m6 : Nat) (f : Nat → List UInt8) (x y : Int) (w : World) (h0 : Octs w b0 n0 (f 0)) (h1 : Octs w b1 n1 (f 1)) (h2 : Octs w b2 n2 (f 2)) (h3 : Octs w b3 n3 (f 3)) (h4 : Octs w b4 n4 (f 4)) (h5 : Octs w b5 n5 (f 5)) (h6 : Octs w b6 n6 (f 6))
    (l0 : n0 ≤ 1000000000000000) (l1 : n1 ≤ 1000000000000000) (l2 : n2 ≤ 1000000000000000) (l3 : n3 ≤ 1000000000000000) (l4 : n4 ≤ 1000000000000000) (l5 : n5 ≤ 1000000000000000) (l6 : n6 ≤ 1000000000000000) (hf7 : ∀ i, 7 ≤ i → f i = []) (hM : ML w) (hH : HanT w) (hx : (Lit.int .i64 x).wf = true) (hy : (Lit.int .i64 y).wf = true) :
    Calls Tryz.prog 5 #[.agg #[.slice b0 n0 m0, .slice b1 n1 m1, .slice b2 n2 m2, .slice b3 n3 m3, .slice b4 n4 m4, .slice b5 n5 m5, .slice b6 n6 m6], .int .i64 x, .int .i64 y] w fun e w' => e = .returned (.bool true) ∧ Below w.heap.size w w' := by
  have C7 : Hid (∀ W, WB w W (.slice b0 n0 m0) (.slice b1 n1 m1) (.slice b2 n2 m2) (.slice b3 n3 m3) (.slice b4 n4 m4) (.slice b5 n5 m5) (.slice b6 n6 m6) → CallsIn Fence.wide 8 Tryz.prog 7 #[] W fun e W' => (e = .returned (.bool true) ∧ WB w W' (.slice b0 n0 m0) (.slice b1 n1 m1) (.slice b2 n2 m2) (.slice b3 n3 m3) (.slice b4 n4 m4) (.slice b5 n5 m5) (.slice b6 n6 m6)) ∧ Hid (WB w W' (.slice b0 n0 m0) (.slice b1 n1 m1) (.slice b2 n2 m2) (.slice b3 n3 m3) (.slice b4 n4 m4) (.slice b5 n5 m5) (.slice b6 n6 m6))) := Lib.hid (fun W hW => callsIn_wide.2 ((awake7 W (ml_on hM hW.2) (hH.below hH.lt hW.2)).mono (by
    rintro e W' ⟨rfl, hb⟩
    exact ⟨⟨rfl, hW.below hb⟩, Lib.hid (hW.below hb)⟩)))
  have C8 : Hid (∀ W, WB w W (.slice b0 n0 m0) (.slice b1 n1 m1) (.slice b2 n2 m2) (.slice b3 n3 m3) (.slice b4 n4 m4) (.slice b5 n5 m5) (.slice b6 n6 m6) → CallsIn Fence.wide 8 Tryz.prog 8 #[.agg #[.slice b0 n0 m0, .slice b1 n1 m1, .slice b2 n2 m2, .slice b3 n3 m3, .slice b4 n4 m4, .slice b5 n5 m5, .slice b6 n6 m6]] W fun e W' => (e = .returned (.bool (decide (n0 + n1 + n2 + n3 + n4 + n5 + n6 ≤ 3000))) ∧ WB w W' (.slice b0 n0 m0) (.slice b1 n1 m1) (.slice b2 n2 m2) (.slice b3 n3 m3) (.slice b4 n4 m4) (.slice b5 n5 m5) (.slice b6 n6 m6)) ∧ Hid (WB w W' (.slice b0 n0 m0) (.slice b1 n1 m1) (.slice b2 n2 m2) (.slice b3 n3 m3) (.slice b4 n4 m4) (.slice b5 n5 m5) (.slice b6 n6 m6))) := Lib.hid (fun W hW => callsIn_wide.2 ((small8 b0 b1 b2 b3 b4 b5 b6 n0 n1 n2 n3 n4 n5 n6 m0 m1 m2 m3 m4 m5 m6 W l0 l1 l2 l3 l4 l5 l6).mono (by
    rintro e W' ⟨rfl, hb⟩
    exact ⟨⟨rfl, hW.below hb⟩, Lib.hid (hW.below hb)⟩)))
  have H1 := Lib.hid (wb_new w (.slice b0 n0 m0) (.slice b1 n1 m1) (.slice b2 n2 m2) (.slice b3 n3 m3) (.slice b4 n4 m4) (.slice b5 n5 m5) (.slice b6 n6 m6))
  refine (callsIn_wide (n := 9)).1 ?_
  refine callsIn_of_wp_marks Tryz.func5 rfl trivial ?_ rfl
  simp only [Tryz.ntmps5, List.size_toArray, List.length_cons, List.length_nil, Nat.reduceAdd, Nat.reduceSub, Array.replicate_succ, Array.replicate_zero, List.push_toArray, List.append_toArray, List.nil_append, List.cons_append]
  by_cases hs : n0 + n1 + n2 + n3 + n4 + n5 + n6 ≤ 3000
  · rw [decide_eq_true hs] at C8
    have C29 : Hid (∀ W, WB w W (.slice b0 n0 m0) (.slice b1 n1 m1) (.slice b2 n2 m2) (.slice b3 n3 m3) (.slice b4 n4 m4) (.slice b5 n5 m5) (.slice b6 n6 m6) → Calls Tryz.prog 29 #[.agg #[.slice b0 n0 m0, .slice b1 n1 m1, .slice b2 n2 m2, .slice b3 n3 m3, .slice b4 n4 m4, .slice b5 n5 m5, .slice b6 n6 m6]] W fun e W' => LoadPost f W e W' ∧ WB w W' (.slice b0 n0 m0) (.slice b1 n1 m1) (.slice b2 n2 m2) (.slice b3 n3 m3) (.slice b4 n4 m4) (.slice b5 n5 m5) (.slice b6 n6 m6)) := Lib.hid (fun W hW => by
      refine (load29 b0 b1 b2 b3 b4 b5 b6 n0 n1 n2 n3 n4 n5 n6 m0 m1 m2 m3 m4 m5 m6 f W (h0.below hW.2) (h1.below hW.2) (h2.below hW.2) (h3.below hW.2) (h4.below hW.2) (h5.below hW.2) (h6.below hW.2) (by omega) (fun i => ?_) (ml_on hM hW.2) (hH.below hH.lt hW.2)).mono (fun e W' h => ⟨h, hW.below h.1⟩)
      rcases Nat.lt_or_ge i 7 with hi | hi
      · match i, hi with
        | 0, _ => have := h0.len; omega
        | 1, _ => have := h1.len; omega
        | 2, _ => have := h2.len; omega
        | 3, _ => have := h3.len; omega
        | 4, _ => have := h4.len; omega
        | 5, _ => have := h5.len; omega
        | 6, _ => have := h6.len; omega
      · rw [hf7 i hi]; simp)
    clear h0 h1 h2 h3 h4 h5 h6 l0 l1 l2 l3 l4 l5 l6 hf7 hM hH hs
    have HXY := Lib.hid (And.intro hx hy)
    clear hx hy
    rcases hl : loadOf f with ⟨v, _ | d⟩
    · obtain ⟨e1, e2, e3⟩ := load_wrong hl
      obtain ⟨vf, vl, ve⟩ := v
      have D29 : Hid (∀ W, WB w W (.slice b0 n0 m0) (.slice b1 n1 m1) (.slice b2 n2 m2) (.slice b3 n3 m3) (.slice b4 n4 m4) (.slice b5 n5 m5) (.slice b6 n6 m6) → CallsIn Fence.wide 8 Tryz.prog 29 #[.agg #[.slice b0 n0 m0, .slice b1 n1 m1, .slice b2 n2 m2, .slice b3 n3 m3, .slice b4 n4 m4, .slice b5 n5 m5, .slice b6 n6 m6]] W fun e W' => (e = .returned (.tuple #[.pointer none, .agg #[.int .i64 vf, .int .i64 vl, .int .i64 ve]]) ∧ WB w W' (.slice b0 n0 m0) (.slice b1 n1 m1) (.slice b2 n2 m2) (.slice b3 n3 m3) (.slice b4 n4 m4) (.slice b5 n5 m5) (.slice b6 n6 m6)) ∧ Hid (WB w W' (.slice b0 n0 m0) (.slice b1 n1 m1) (.slice b2 n2 m2) (.slice b3 n3 m3) (.slice b4 n4 m4) (.slice b5 n5 m5) (.slice b6 n6 m6))) := Lib.hid (fun W hW => callsIn_wide.2 ((C29.out W hW).mono (by
        rintro e W' ⟨⟨-, ⟨d, b, h, -⟩ | ⟨x, h, rfl⟩⟩, hw⟩
        · rw [hl] at h; injection h with _ h; cases h
        · rw [hl] at h
          injection h with h
          subst h
          exact ⟨⟨rfl, hw⟩, Lib.hid hw⟩)))
      have hx1 : (ve == 0) = false := beq_false_of_ne e1
      have hx2 : (ve != 0) = true := bne_iff_ne.2 e1
      clear C29 hl HXY
      gi_wp2_with (first
        | (refine ⟨trivial, ?_⟩; gi_at_call 29; (with_reducible refine (D29.out _ H8.out).mono ?_); rintro e W9 ⟨⟨rfl, ⟨⟨q0, q1, q2, q3, q4, q5, q6⟩, r0, r1⟩, -⟩, H9⟩; obtain ⟨g1, g2, g3, g4⟩ := wb_ne H9.out; have fz := wb_fro2 H9.out; have fc := wb_cel2 H9.out)
        | (refine ⟨trivial, ?_⟩; gi_at_call 7; (with_reducible refine (C7.out _ H1.out).mono ?_); rintro e W7 ⟨⟨rfl, ⟨⟨q0, q1, q2, q3, q4, q5, q6⟩, r0, r1⟩, -⟩, H7⟩)
        | (refine ⟨trivial, ?_⟩; gi_at_call 8; (with_reducible refine (C8.out _ H7.out).mono ?_); rintro e W8 ⟨⟨rfl, ⟨⟨q0, q1, q2, q3, q4, q5, q6⟩, r0, r1⟩, -⟩, H8⟩))
      have hW9 := fun o1 o2 => wb_two H9.out o1 o2
      exact leave5n rfl (wb_set (hW9 _ _)).1 ⟨rfl, (wb_set (hW9 _ _)).2⟩
    · have D29 : Hid (∀ W, WB w W (.slice b0 n0 m0) (.slice b1 n1 m1) (.slice b2 n2 m2) (.slice b3 n3 m3) (.slice b4 n4 m4) (.slice b5 n5 m5) (.slice b6 n6 m6) → CallsIn Fence.wide 8 Tryz.prog 29 #[.agg #[.slice b0 n0 m0, .slice b1 n1 m1, .slice b2 n2 m2, .slice b3 n3 m3, .slice b4 n4 m4, .slice b5 n5 m5, .slice b6 n6 m6]] W fun e W' => ∃ b p, (e = .returned (.tuple #[.pointer (some ⟨b, 0, none⟩), .agg #[.int .i64 0, .int .i64 0, .int .i64 0]]) ∧ WB w W' (.slice b0 n0 m0) (.slice b1 n1 m1) (.slice b2 n2 m2) (.slice b3 n3 m3) (.slice b4 n4 m4) (.slice b5 n5 m5) (.slice b6 n6 m6)) ∧ Hid (WB w W' (.slice b0 n0 m0) (.slice b1 n1 m1) (.slice b2 n2 m2) (.slice b3 n3 m3) (.slice b4 n4 m4) (.slice b5 n5 m5) (.slice b6 n6 m6) ∧ (PF W' b d.ps d.sp d.cf ∧ PM W' b d.ms ∧ Szs d.ps d.sp ∧ ¬ touA d.ps = true ∧ mkP (d.sp 0) d.ps [] d.ps = some d.ms) ∧ (W'.cell? ⟨b, 0, none⟩ = some (.pointer p) ∧ UniT W' p d.ps))) := Lib.hid (fun W hW => callsIn_wide.2 ((C29.out W hW).mono (by
        rintro e W' ⟨⟨-, ⟨d', b, h, rfl, k1, k2, k3⟩ | ⟨x, h, -⟩⟩, hw⟩
        · rw [hl] at h
          injection h with h h'
          injection h' with h'
          subst h'
          subst h
          obtain ⟨p, A, c, ls, u1, u2, u3⟩ := k1.uni
          exact ⟨b, p, ⟨rfl, hw⟩, Lib.hid ⟨hw, ⟨k1, k2, k3, load_right hl⟩, u1, A, c, ls, u2, u3⟩⟩
        · rw [hl] at h; injection h with _ h; cases h)))
      have C15 : Hid (∀ (W9 : World) (b : Nat) (p : Option Addr) (o1 o2 : Obj), (W9.cell? ⟨b, 0, none⟩ = some (.pointer p) ∧ UniT W9 p d.ps) → CallsIn Fence.wide 8 Tryz.prog 15 #[.pointer (some ⟨b, 0, none⟩)] ((W9.alloc o1).alloc o2) fun e W => e = .returned (.pointer p) ∧ (W9.alloc o1).alloc o2 = W) := Lib.hid (fun W9 b p o1 o2 h => callsIn_wide.2 (uni15 b p _ (by
        have hb := World.block_lt_of_cell? W9 _ h.1
        have hb : b < W9.heap.size := hb
        rw [old_at _ _ _ _ (by simp; omega), old_at _ _ _ _ hb]; exact h.1)))
      have C30 : Hid (∀ (W9 : World) (b : Nat) (p : Option Addr) (o1 o2 : Obj), (W9.cell? ⟨b, 0, none⟩ = some (.pointer p) ∧ UniT W9 p d.ps) → CallsIn Fence.wide 8 Tryz.prog 30 #[.pointer p] ((W9.alloc o1).alloc o2) fun e W => ∃ A n c, e = .returned (.func (.func 53) #[] #[.pointer (some ⟨W9.heap.size + 1 + 1, 0, none⟩)]) ∧ W = ((W9.alloc o1).alloc o2).alloc (.cells #[.slice A n c] 49) ∧ ∃ ls, n = ls.length ∧ Uc.TIn W9 p A c ls ∧ Uc.Ist W9 ls d.ps) := Lib.hid (fun W9 b p o1 o2 h => by
        obtain ⟨-, A, c, ls, u2, u3⟩ := h
        have hbb : Below W9.heap.size W9 ((W9.alloc o1).alloc o2) := ((Below.refl _ _).alloc (Nat.le_refl _) _).alloc (by simp) _
        refine callsIn_wide.2 ((Uc.rows10 p A c ls _ (u2.below hbb)).mono ?_)
        rintro e W ⟨rfl, rfl⟩
        exact ⟨A, ls.length, c, by simp, rfl, ls, rfl, u2, u3⟩)
      clear C29 hl
      gi_wp2_with (first
        | (refine ⟨trivial, ?_⟩; gi_at_call 15; (with_reducible refine (C15.out _ _ _ _ _ H9.out.2.2).mono ?_); rintro e W10 ⟨rfl, rfl⟩)
        | (refine ⟨trivial, ?_⟩; gi_at_call 30; (with_reducible refine (C30.out _ _ _ _ _ H9.out.2.2).mono ?_); rintro e W11 ⟨A, nr, ca, rfl, hW11, ls, hnr, hT, hI⟩)
        | (refine ⟨trivial, ?_⟩; gi_at_call 29; (with_reducible refine (D29.out _ H8.out).mono ?_); rintro e W9 ⟨b, p, ⟨rfl, ⟨⟨q0, q1, q2, q3, q4, q5, q6⟩, r0, r1⟩, -⟩, H9⟩)
        | (refine ⟨trivial, ?_⟩; gi_at_call 7; (with_reducible refine (C7.out _ H1.out).mono ?_); rintro e W7 ⟨⟨rfl, ⟨⟨q0, q1, q2, q3, q4, q5, q6⟩, r0, r1⟩, -⟩, H7⟩)
        | (refine ⟨trivial, ?_⟩; gi_at_call 8; (with_reducible refine (C8.out _ H7.out).mono ?_); rintro e W8 ⟨⟨rfl, ⟨⟨q0, q1, q2, q3, q4, q5, q6⟩, r0, r1⟩, -⟩, H8⟩))
      subst hnr
      obtain ⟨G, hG⟩ : ∃ G, W9.heap.size = G := ⟨_, rfl⟩
      rw [← hW11]
      have hb11 : Below W9.heap.size W9 W11 := by rw [hW11]; exact (((Below.refl _ _).alloc (Nat.le_refl _) _).alloc (by simp) _).alloc (by simp; omega) _
      have hs11 : W11.heap.size = G + 3 := by rw [hW11, ← hG]; simp
      have cr11 : W11.cell? ⟨G + 1 + 1, 0, none⟩ = some (.slice A ls.length ca) := by rw [hW11, new_at _ _ _ _ _ (by simp; omega)]; rfl
      have ct11 : W11.cell? ⟨G, 0, none⟩ = some (.pointer (some ⟨b, 0, none⟩)) := by rw [hW11, old_at _ _ _ _ (by simp; omega), old_at _ _ _ _ (by simp; omega), new_at _ _ _ _ _ hG.symm]; rfl
      have hT11 := hT.below hb11
      have hI11 := hI.below hb11
      obtain ⟨hWB, ⟨hPF, hPM, hSz, htou, hmk⟩, hu, -⟩ := H9.out
      have hq := Uc.fseq25 8 (G + 1 + 1) ls.length ca A ls d.ps (fun _ => True) W11 (by omega) (by rw [hI.len]; have := hSz.few; omega) (fun q hq => by have := (hSz.good.2 q hq).2.2.2; omega) (by omega) cr11 hT11.rat hI11 (fun _ _ _ => trivial)
      rw [hs11] at hq
      have HQ := Lib.hid hq
      have HSZ := Lib.hid (And.intro hs11 (And.intro hG ct11))
      have HS := Lib.hid (And.intro (And.intro hPF hPM) (And.intro hSz (And.intro htou hmk)))
      have HU := Lib.hid (And.intro hu (And.intro hT hI))
      have HW := Lib.hid (And.intro hWB hb11)
      rw [hG]
      clear hW11 hb11 hs11 cr11 ct11 hT11 hI11 hWB hPF hPM hSz htou hmk hu hq hT hI H9 H8 H7 q0 q1 q2 q3 q4 q5 q6 r0 r1 C7 C8 C15 C30 D29 hG
      refine range_nf2 rfl (by omega) rfl trivial (enters_of Tryz.func53 (by kernel_rfl) rfl) HQ.out (Nat.zero_le _) trivial trivial (fun _ => rfl)
        (MqI W11) (MqY W11) (fun pre x W0 W h hb hx => ⟨(mqi_abide W11 _ h.size).below h hb, hx.1⟩) (fun pre x => mqy_abide W11 pre x _ (by have := HSZ.out; omega)) (fun _ _ _ => False) (mqi_abide W11 _ (by have := HSZ.out; omega)) (fun _ _ _ _ _ h => h.elim) (Below.refl _ _) RwBt (fun x b => rwBt_abide x b _) ?a1 ?assign ?body ?done ?stop
      case assign =>
        rintro lq pre x W' K hi hK
        simp only [Uc.rwArr, Uc.rwV]
        gi_wp2
        obtain ⟨b', hb'⟩ : ∃ b', W'.heap.size = b' := ⟨_, rfl⟩
        rw [hb']
        have hbo : ∀ o, Below W'.heap.size W' (W'.alloc o) := fun o => (Below.refl _ _).alloc (Nat.le_refl _) o
        refine hK b' _ (Kept.of_below (hbo _)) ((mqy_abide W11 pre x _ hi.1.size).below (s := ()) hi (hbo _)) ?_
        rw [← hb']
        exact rwBt_new x W'
      case body =>
        rintro lq pre ⟨s, q⟩ b' Wb ⟨hbe, hi⟩ hbx ⟨hnx, hlen⟩
        have hbe : Below W11.heap.size W11 Wb := hbe
        dsimp only at hi
        rw [List.map_append] at hnx
        obtain ⟨hSz, htou, hmk⟩ := HS.out.2
        obtain ⟨-, e0, e1, e2, e3, e4, e5⟩ := id hbx
        dsimp only at e0 e1 e2 e3 e4 e5
        have hq : q ∈ d.ps := by obtain ⟨r, hr⟩ := hnx; rw [← hr]; simp
        have hqa := hSz.good.2 q hq
        have hdm : s.dm = q.dec.length := hi.2.2.2.2.2.1
        have hHE : ∀ W1, Below Wb.heap.size Wb W1 → Kept (fun _ => True) Wb W1 ∧ MqI W11 (pre ++ [(s, q)]) W1 := fun W1 hb1 => ⟨Kept.of_below hb1, hbe.trans (hb1.mono hbe.size)⟩
        have HE := Lib.hid hHE
        obtain ⟨T, hT⟩ : ∃ T, bs s.gc = T := ⟨_, rfl⟩
        obtain ⟨U, hU⟩ : ∃ T, bs s.bd = T := ⟨_, rfl⟩
        rw [hT] at e2
        rw [hU] at e4
        have hud : undef = Value.tuple #[] := rfl
        by_cases h0 : q.dec.length = 0 ∧ q.ccc = 0
        · have z1 : s.dm = 0 := hdm.trans h0.1
          have z2 : s.ccc = 0 := hi.2.2.2.1.trans h0.2
          rw [z1] at e5
          rw [z2] at e3
          clear hbe hi hbx hnx hSz htou hmk hq hqa hdm hHE h0 z1 z2 hT hU hlen
          gi_wp2
          exact HE.out Wb (Below.refl _ _)
        · have hkor := row_kor htou hq (by omega)
          have ka := korean31 s.a
          have kb := korean31 s.b
          rw [hi.1, hkor.1, ← hi.1] at ka
          rw [hi.2.1, hkor.2, ← hi.2.1] at kb
          have KA := Lib.hid ka
          have KB := Lib.hid kb
          by_cases h2 : q.dec.length = 2
          · have z1 : s.dm = 2 := hdm.trans h2
            obtain ⟨b2, off, hdp, hb2, hcc⟩ := hi.2.2.2.2.2.2.2 (by omega)
            have q0 : Wb.cell? ⟨b2, off, none⟩ = some (.int .i64 (dec0 q)) := hcc 0 (.int .i64 (dec0 q)) (by
              unfold dec0 nums
              rw [List.getElem?_map, List.getElem?_map]
              match hh : q.dec, h2 with
              | [x, y], _ => rfl)
            have q1 : Wb.cell? ⟨b2, off + 1, none⟩ = some (.int .i64 (dec1 q)) := hcc 1 (.int .i64 (dec1 q)) (by
              unfold dec1 nums
              rw [List.getElem?_map, List.getElem?_map]
              match hh : q.dec, h2 with
              | [x, y], _ => rfl)
            have hw0 : (Lit.int .i64 (dec0 q)).wf = true := by
              unfold dec0
              match hh : q.dec, h2 with
              | [x, y], _ => exact wf_nat x (by have := hSz.low q hq x (by rw [hh]; simp); omega)
            have hw1 : (Lit.int .i64 (dec1 q)).wf = true := by
              unfold dec1
              match hh : q.dec, h2 with
              | [x, y], _ => exact wf_nat y (by have := hSz.low q hq y (by rw [hh]; simp); omega)
            rw [z1, hdp] at e5
            obtain ⟨hs11, hG, ct11⟩ := HSZ.out
            have ctb : Wb.cell? ⟨G, 0, none⟩ = some (.pointer (some ⟨b, 0, none⟩)) := (hbe.cell (p := ⟨G, 0, none⟩) (show G < W11.heap.size by omega)).trans ct11
            have h9b : Below W9.heap.size W9 Wb := HW.out.2.trans (hbe.mono HW.out.2.size)
            have C13 : Hid (∀ W, Below Wb.heap.size Wb W → Calls Tryz.prog 13 #[.pointer (some ⟨b, 0, none⟩), .int .i64 (dec0 q), .int .i64 (dec1 q)] W fun e w' => e = .returned (mkV (findM d.ms (dec0 q) (dec1 q))) ∧ W = w') := Lib.hid (fun W hW => mak13 b d.ms (dec0 q) (dec1 q) W ((HS.out.1.2.below h9b).below hW) hw0 hw1)
            have C17 : Hid (∀ W, Below Wb.heap.size Wb W → Calls Tryz.prog 17 #[.pointer (some ⟨b, 0, none⟩), .int .i64 s.a] W fun e w' => e = .returned (.bool (decide (¬ Pq.valueOf (d.sp 0) q.a = []))) ∧ Below W.heap.size W w') := Lib.hid (fun W hW => by
              obtain ⟨p', A', c', k1, k2⟩ := ((HS.out.1.1.below h9b).below hW).prs 0 (by omega)
              have hg := hSz.spg 0
              refine (exc17_at b p' A' c' (d.sp 0) s.a W k1 k2 (by have := hSz.spf 0; omega) hg.1 (fun t ht => (hg.2 t ht).2.2.1)).mono ?_
              rintro e w' ⟨rfl, hb⟩
              exact ⟨by rw [has_is (by decide) hSz.ex, hi.1], hb⟩)
            have C15 : Hid (∀ W, Below Wb.heap.size Wb W → Calls Tryz.prog 15 #[.pointer (some ⟨b, 0, none⟩)] W fun e w' => e = .returned (.pointer p) ∧ W = w') := Lib.hid (fun W hW => by
              have h9 := h9b.trans (hW.mono h9b.size)
              exact uni15 b p W ((h9.cell (p := ⟨b, 0, none⟩) (World.block_lt_of_cell? W9 _ HU.out.1)).trans HU.out.1))
            have C32 : Hid (∀ W, Below Wb.heap.size Wb W → Calls Tryz.prog 32 #[.pointer p, .int .i64 (dec0 q)] W fun e w' => e = .returned (.int .i64 (Uc.patOf d.ps (dec0 q)).ccc) ∧ Below W.heap.size W w') := Lib.hid (fun W hW => by
              have h9 := h9b.trans (hW.mono h9b.size)
              obtain ⟨-, hT0, hI0⟩ := HU.out
              refine (Uc.ccc15 p A ca ls (dec0 q) W (hT0.below h9) (by rw [hI0.len]; have := hSz.few; omega) (Uc.ist_rises hI0 hSz.good)).mono ?_
              rintro e w' ⟨rfl, hb⟩
              exact ⟨by rw [(Uc.ist_at _ hI0).2.2.2.1], hb⟩)
            have HMR := makes_row hSz.good hmk hq
            have z3 : s.ccc = q.ccc := hi.2.2.2.1
            have z4 : s.a = q.a := hi.1
            obtain ⟨d0, hd0⟩ : ∃ x, dec0 q = x := ⟨_, rfl⟩
            obtain ⟨d1, hd1⟩ : ∃ x, dec1 q = x := ⟨_, rfl⟩
            have HCE : Hid (∀ W1, Below Wb.heap.size Wb W1 → W1.cell? ⟨b', 5, none⟩ = some (.slice (some ⟨b2, off, none⟩) 2 s.dc) ∧ W1.cell? ⟨b', 0, none⟩ = some (.int .i64 s.a) ∧ W1.cell? ⟨b', 3, none⟩ = some (.int .i64 s.ccc) ∧ W1.cell? ⟨b2, off, none⟩ = some (.int .i64 d0) ∧ W1.cell? ⟨b2, off + 1, none⟩ = some (.int .i64 d1) ∧ W1.cell? ⟨G, 0, none⟩ = some (.pointer (some ⟨b, 0, none⟩))) := Lib.hid (fun W1 hb1 => by
              have cc : ∀ {k i : Nat} {v : Value}, Wb.cell? ⟨k, i, none⟩ = some v → W1.cell? ⟨k, i, none⟩ = some v := fun {k i v} hc => (hb1.cell (p := ⟨k, i, none⟩) (World.block_lt_of_cell? Wb _ hc)).trans hc
              rw [← hd0, ← hd1]
              exact ⟨cc e5, cc e0, cc e3, cc q0, cc q1, cc ctb⟩)
            rw [hd0, hd1] at C13 HMR
            rw [hd0] at C32
            have K13 : Hid (∀ dr os m, CallsIn (Fence.wide.inRound lq) m Tryz.prog 13 #[.pointer (some ⟨b, 0, none⟩), .int .i64 d0, .int .i64 d1] (grow (redrawn Wb dr) os) fun e w'' => e = .returned (mkV (findM d.ms d0 d1)) ∧ ∃ p : Regrown, w'' = grow (redrawn Wb p.d) p.os) := Lib.hid (fun dr os m => regrown_in ((C13.out _ (below_regrown Wb dr os)).mono (by rintro e W ⟨rfl, rfl⟩; exact ⟨rfl, Below.refl _ _⟩)))
            have K17 : Hid (∀ W1, Below Wb.heap.size Wb W1 → ∀ dr os m, CallsIn (Fence.wide.inRound lq) m Tryz.prog 17 #[.pointer (some ⟨b, 0, none⟩), .int .i64 s.a] (grow (redrawn W1 dr) os) fun e w'' => e = .returned (.bool (decide (¬ Pq.valueOf (d.sp 0) q.a = []))) ∧ ∃ p : Regrown, w'' = grow (redrawn W1 p.d) p.os) := Lib.hid (fun W1 h1 dr os m => regrown_in (C17.out _ (h1.trans ((below_regrown W1 dr os).mono h1.size))))
            have K15 : Hid (∀ W1, Below Wb.heap.size Wb W1 → ∀ dr os m, CallsIn (Fence.wide.inRound lq) m Tryz.prog 15 #[.pointer (some ⟨b, 0, none⟩)] (grow (redrawn W1 dr) os) fun e w'' => e = .returned (.pointer p) ∧ ∃ p : Regrown, w'' = grow (redrawn W1 p.d) p.os) := Lib.hid (fun W1 h1 dr os m => regrown_in ((C15.out _ (h1.trans ((below_regrown W1 dr os).mono h1.size))).mono (by rintro e W ⟨rfl, rfl⟩; exact ⟨rfl, Below.refl _ _⟩)))
            have K32 : Hid (∀ W1, Below Wb.heap.size Wb W1 → ∀ dr os m, CallsIn (Fence.wide.inRound lq) m Tryz.prog 32 #[.pointer p, .int .i64 d0] (grow (redrawn W1 dr) os) fun e w'' => e = .returned (.int .i64 (Uc.patOf d.ps d0).ccc) ∧ ∃ p : Regrown, w'' = grow (redrawn W1 p.d) p.os) := Lib.hid (fun W1 h1 dr os m => regrown_in (C32.out _ (h1.trans ((below_regrown W1 dr os).mono h1.size))))
            clear C13 C15 C17 C32
            have hw0 : ∀ {k i : Nat} {v : Value}, Wb.cell? ⟨k, i, none⟩ = some v → ∀ dr os, (grow (redrawn Wb dr) os).cell? ⟨k, i, none⟩ = some v := fun h => cell_regrown h
            rcases HMR with ⟨hfm, hni⟩ | ⟨c, hfm, hc⟩ | ⟨hfm, hidl⟩
            · have i2 : q.ccc = 0 := Classical.byContradiction (fun h => hni (.inr (.inl h)))
              have i3 : Pq.valueOf (d.sp 0) q.a = [] := Classical.byContradiction (fun h => hni (.inr (.inr (.inl h))))
              have i4 : (Uc.patOf d.ps d0).ccc = 0 := Classical.byContradiction (fun h => hni (.inr (.inr (.inr (by rw [hd0]; exact h)))))
              rw [hfm, ← z4] at K13
              rw [decide_eq_false (fun h => h i3)] at K17
              rw [i4] at K32
              rw [z3, i2] at HCE e3
              rw [hd0] at q0
              rw [hd1] at q1
              have K13 : Hid (∀ dr os m, CallsIn (Fence.wide.inRound lq) m Tryz.prog 13 #[.pointer (some ⟨b, 0, none⟩), .int .i64 d0, .int .i64 d1] (grow (redrawn Wb dr) os) fun e w'' => e = .returned (.tuple #[.int .i64 s.a, .bool true]) ∧ ∃ p : Regrown, w'' = grow (redrawn Wb p.d) p.os) := K13
              have y5 := fun dr os => cell_regrown e5 dr os
              have yd0 := fun dr os => cell_regrown q0 dr os
              have yd1 := fun dr os => cell_regrown q1 dr os
              have yG := fun dr os => cell_regrown ctb dr os
              clear hbe hi hbx hnx hSz htou hmk hq hqa hdm hHE h0 z1 hT hU hlen hkor ka kb h2 hcc hs11 hG ct11 h9b z3 z4 hfm hdp hb2 hd0 hd1 hni i2 i3 i4
              gi_wp2_with (first
                | (gi_at_call 31; (with_reducible refine (CallsIn.inRound lq (callsIn_wide.2 (KA.out _))).mono ?_); rintro e W5 ⟨rfl, rfl⟩)
                | (gi_at_call 31; (with_reducible refine (CallsIn.inRound lq (callsIn_wide.2 (KB.out _))).mono ?_); rintro e W6 ⟨rfl, rfl⟩))
              refine region_round_below (by kernel_rfl) (by kernel_rfl) (by kernel_rfl) ?_
              repeat (gi_big_quiet_step ((gi_at_call 13; exact K13.out _ _ _)))
              refine wpQuietIn_nil ?_
              intro _ hw'
              obtain ⟨⟨dq, osq⟩, hw''⟩ := hw'
              subst hw''
              obtain ⟨W1, hW1⟩ : ∃ W1, grow (redrawn Wb dq) osq = W1 := ⟨_, rfl⟩
              rw [hW1]
              have hb1 : Below Wb.heap.size Wb W1 := hW1 ▸ below_regrown Wb dq osq
              obtain ⟨x5, x0, x3, xd0, xd1, xG⟩ := HCE.out W1 hb1
              have v5 := fun dr os => cell_regrown x5 dr os
              have v0 := fun dr os => cell_regrown x0 dr os
              have v3 := fun dr os => cell_regrown x3 dr os
              have vd0 := fun dr os => cell_regrown xd0 dr os
              have vG := fun dr os => cell_regrown xG dr os
              have k17 := Lib.hid (K17.out W1 hb1)
              have k15 := Lib.hid (K15.out W1 hb1)
              have k32 := Lib.hid (K32.out W1 hb1)
              clear hW1 K13 K17 K15 K32 y5 yd0 yd1 yG e0 e1 e2 e3 e4 e5
              gi_wp2
              refine region_round_below (by kernel_rfl) (by kernel_rfl) (by kernel_rfl) ?_
              repeat (gi_big_quiet_step ((first | (gi_at_call 17; exact k17.out _ _ _) | (gi_at_call 15; exact k15.out _ _ _) | (gi_at_call 32; exact k32.out _ _ _))))
              refine wpQuietIn_nil ?_
              intro _ hw'
              obtain ⟨⟨dq2, osq2⟩, hw''⟩ := hw'
              subst hw''
              gi_wp2
              exact HE.out _ (hb1.trans ((below_regrown W1 dq2 osq2).mono hb1.size))
            · have hc1 : ¬ c = s.a := fun h => hc (h.trans z4)
              have hc2 : (c == s.a) = false := beq_false_of_ne hc1
              have hc3 : (c != s.a) = true := bne_iff_ne.2 hc1
              rw [hfm] at K13
              rw [hd0] at q0
              rw [hd1] at q1
              have K13 : Hid (∀ dr os m, CallsIn (Fence.wide.inRound lq) m Tryz.prog 13 #[.pointer (some ⟨b, 0, none⟩), .int .i64 d0, .int .i64 d1] (grow (redrawn Wb dr) os) fun e w'' => e = .returned (.tuple #[.int .i64 c, .bool true]) ∧ ∃ p : Regrown, w'' = grow (redrawn Wb p.d) p.os) := K13
              have y5 := fun dr os => cell_regrown e5 dr os
              have yd0 := fun dr os => cell_regrown q0 dr os
              have yd1 := fun dr os => cell_regrown q1 dr os
              have yG := fun dr os => cell_regrown ctb dr os
              clear hbe hi hbx hnx hSz htou hmk hq hqa hdm hHE h0 z1 hT hU hlen hkor ka kb h2 hcc hs11 hG ct11 h9b z3 z4 hfm hdp hb2 hd0 hd1 hc
              gi_wp2_with (first
                | (gi_at_call 31; (with_reducible refine (CallsIn.inRound lq (callsIn_wide.2 (KA.out _))).mono ?_); rintro e W5 ⟨rfl, rfl⟩)
                | (gi_at_call 31; (with_reducible refine (CallsIn.inRound lq (callsIn_wide.2 (KB.out _))).mono ?_); rintro e W6 ⟨rfl, rfl⟩))
              refine region_round_below (by kernel_rfl) (by kernel_rfl) (by kernel_rfl) ?_
              repeat (gi_big_quiet_step ((gi_at_call 13; exact K13.out _ _ _)))
              refine wpQuietIn_nil ?_
              intro _ hw'
              obtain ⟨⟨dq, osq⟩, hw''⟩ := hw'
              subst hw''
              obtain ⟨W1, hW1⟩ : ∃ W1, grow (redrawn Wb dq) osq = W1 := ⟨_, rfl⟩
              rw [hW1]
              have hb1 : Below Wb.heap.size Wb W1 := hW1 ▸ below_regrown Wb dq osq
              obtain ⟨x5, x0, x3, xd0, xd1, xG⟩ := HCE.out W1 hb1
              have v5 := fun dr os => cell_regrown x5 dr os
              have v0 := fun dr os => cell_regrown x0 dr os
              have v3 := fun dr os => cell_regrown x3 dr os
              have vd0 := fun dr os => cell_regrown xd0 dr os
              have vG := fun dr os => cell_regrown xG dr os
              have k17 := Lib.hid (K17.out W1 hb1)
              have k15 := Lib.hid (K15.out W1 hb1)
              have k32 := Lib.hid (K32.out W1 hb1)
              clear hW1 K13 K17 K15 K32 y5 yd0 yd1 yG e0 e1 e2 e3 e4 e5
              gi_wp2
              refine region_round_below (by kernel_rfl) (by kernel_rfl) (by kernel_rfl) ?_
              repeat (gi_big_quiet_step ((first | (gi_at_call 17; exact k17.out _ _ _) | (gi_at_call 15; exact k15.out _ _ _) | (gi_at_call 32; exact k32.out _ _ _))))
              refine wpQuietIn_nil ?_
              intro _ hw'
              obtain ⟨⟨dq2, osq2⟩, hw''⟩ := hw'
              subst hw''
              gi_wp2
              exact HE.out _ (hb1.trans ((below_regrown W1 dq2 osq2).mono hb1.size))
            · rw [hfm] at K13
              rw [hd0] at q0
              rw [hd1] at q1
              have K13 : Hid (∀ dr os m, CallsIn (Fence.wide.inRound lq) m Tryz.prog 13 #[.pointer (some ⟨b, 0, none⟩), .int .i64 d0, .int .i64 d1] (grow (redrawn Wb dr) os) fun e w'' => e = .returned (.tuple #[.int .i64 0, .bool false]) ∧ ∃ p : Regrown, w'' = grow (redrawn Wb p.d) p.os) := K13
              obtain ⟨sa, hsa⟩ : ∃ x, s.a = x := ⟨_, rfl⟩
              obtain ⟨sc, hsc⟩ : ∃ x, s.ccc = x := ⟨_, rfl⟩
              obtain ⟨ex, hex⟩ : ∃ x, decide (¬ Pq.valueOf (d.sp 0) q.a = []) = x := ⟨_, rfl⟩
              obtain ⟨cz, hcz⟩ : ∃ x, (Uc.patOf d.ps d0).ccc = x := ⟨_, rfl⟩
              rw [hsa] at e0 KA HCE K17
              rw [hsc] at e3 HCE
              rw [hex] at K17
              rw [hcz] at K32
              by_cases ha0 : sa = 0
              · subst ha0
                by_cases hc0 : sc = 0
                · subst hc0
                  cases ex with
                  | true =>
                    have y5 := fun dr os => cell_regrown e5 dr os
                    have yd0 := fun dr os => cell_regrown q0 dr os
                    have yd1 := fun dr os => cell_regrown q1 dr os
                    have yG := fun dr os => cell_regrown ctb dr os
                    clear hbe hi hbx hnx hSz htou hmk hq hqa hdm hHE h0 z1 hT hU hlen hkor ka kb h2 hcc hs11 hG ct11 h9b z3 z4 hfm hdp hb2 hd0 hd1 hidl hsa hsc hex hcz
                    gi_wp2_with (first
                      | (gi_at_call 31; (with_reducible refine (CallsIn.inRound lq (callsIn_wide.2 (KA.out _))).mono ?_); rintro e W5 ⟨rfl, rfl⟩)
                      | (gi_at_call 31; (with_reducible refine (CallsIn.inRound lq (callsIn_wide.2 (KB.out _))).mono ?_); rintro e W6 ⟨rfl, rfl⟩))
                    refine region_round_below (by kernel_rfl) (by kernel_rfl) (by kernel_rfl) ?_
                    repeat (gi_big_quiet_step ((gi_at_call 13; exact K13.out _ _ _)))
                    refine wpQuietIn_nil ?_
                    intro _ hw'
                    obtain ⟨⟨dq, osq⟩, hw''⟩ := hw'
                    subst hw''
                    obtain ⟨W1, hW1⟩ : ∃ W1, grow (redrawn Wb dq) osq = W1 := ⟨_, rfl⟩
                    rw [hW1]
                    have hb1 : Below Wb.heap.size Wb W1 := hW1 ▸ below_regrown Wb dq osq
                    obtain ⟨x5, x0, x3, xd0, xd1, xG⟩ := HCE.out W1 hb1
                    have v5 := fun dr os => cell_regrown x5 dr os
                    have v0 := fun dr os => cell_regrown x0 dr os
                    have v3 := fun dr os => cell_regrown x3 dr os
                    have vd0 := fun dr os => cell_regrown xd0 dr os
                    have vG := fun dr os => cell_regrown xG dr os
                    have k17 := Lib.hid (K17.out W1 hb1)
                    have k15 := Lib.hid (K15.out W1 hb1)
                    have k32 := Lib.hid (K32.out W1 hb1)
                    clear hW1 K13 K17 K15 K32 y5 yd0 yd1 yG e0 e1 e2 e3 e4 e5
                    gi_wp2
                    refine region_round_below (by kernel_rfl) (by kernel_rfl) (by kernel_rfl) ?_
                    repeat (gi_big_quiet_step ((first | (gi_at_call 17; exact k17.out _ _ _) | (gi_at_call 15; exact k15.out _ _ _) | (gi_at_call 32; exact k32.out _ _ _))))
                    refine wpQuietIn_nil ?_
                    intro _ hw'
                    obtain ⟨⟨dq2, osq2⟩, hw''⟩ := hw'
                    subst hw''
                    gi_wp2
                    exact HE.out _ (hb1.trans ((below_regrown W1 dq2 osq2).mono hb1.size))
                  | false =>
                    have hz1 : ¬ cz = 0 := fun h => by
                      rcases hidl with h' | h' | h' | h'
                      · exact h' h2
                      · exact h' (z3.symm.trans hsc)
                      · exact (of_decide_eq_false hex) h'
                      · rw [hd0, hcz] at h'; exact h' h
                    have hz2 : (cz == 0) = false := beq_false_of_ne hz1
                    have hz3 : (cz != 0) = true := bne_iff_ne.2 hz1
                    have y5 := fun dr os => cell_regrown e5 dr os
                    have yd0 := fun dr os => cell_regrown q0 dr os
                    have yd1 := fun dr os => cell_regrown q1 dr os
                    have yG := fun dr os => cell_regrown ctb dr os
                    clear hbe hi hbx hnx hSz htou hmk hq hqa hdm hHE h0 z1 hT hU hlen hkor ka kb h2 hcc hs11 hG ct11 h9b z3 z4 hfm hdp hb2 hd0 hd1 hidl hsa hsc hex hcz
                    gi_wp2_with (first
                      | (gi_at_call 31; (with_reducible refine (CallsIn.inRound lq (callsIn_wide.2 (KA.out _))).mono ?_); rintro e W5 ⟨rfl, rfl⟩)
                      | (gi_at_call 31; (with_reducible refine (CallsIn.inRound lq (callsIn_wide.2 (KB.out _))).mono ?_); rintro e W6 ⟨rfl, rfl⟩))
                    refine region_round_below (by kernel_rfl) (by kernel_rfl) (by kernel_rfl) ?_
                    repeat (gi_big_quiet_step ((gi_at_call 13; exact K13.out _ _ _)))
                    refine wpQuietIn_nil ?_
                    intro _ hw'
                    obtain ⟨⟨dq, osq⟩, hw''⟩ := hw'
                    subst hw''
                    obtain ⟨W1, hW1⟩ : ∃ W1, grow (redrawn Wb dq) osq = W1 := ⟨_, rfl⟩
                    rw [hW1]
                    have hb1 : Below Wb.heap.size Wb W1 := hW1 ▸ below_regrown Wb dq osq
                    obtain ⟨x5, x0, x3, xd0, xd1, xG⟩ := HCE.out W1 hb1
                    have v5 := fun dr os => cell_regrown x5 dr os
                    have v0 := fun dr os => cell_regrown x0 dr os
                    have v3 := fun dr os => cell_regrown x3 dr os
                    have vd0 := fun dr os => cell_regrown xd0 dr os
                    have vG := fun dr os => cell_regrown xG dr os
                    have k17 := Lib.hid (K17.out W1 hb1)
                    have k15 := Lib.hid (K15.out W1 hb1)
                    have k32 := Lib.hid (K32.out W1 hb1)
                    clear hW1 K13 K17 K15 K32 y5 yd0 yd1 yG e0 e1 e2 e3 e4 e5
                    gi_wp2
                    refine region_round_below (by kernel_rfl) (by kernel_rfl) (by kernel_rfl) ?_
                    repeat (gi_big_quiet_step ((first | (gi_at_call 17; exact k17.out _ _ _) | (gi_at_call 15; exact k15.out _ _ _) | (gi_at_call 32; exact k32.out _ _ _))))
                    refine wpQuietIn_nil ?_
                    intro _ hw'
                    obtain ⟨⟨dq2, osq2⟩, hw''⟩ := hw'
                    subst hw''
                    gi_wp2
                    exact HE.out _ (hb1.trans ((below_regrown W1 dq2 osq2).mono hb1.size))
                · have hz2 : (sc == 0) = false := beq_false_of_ne hc0
                  have hz3 : (sc != 0) = true := bne_iff_ne.2 hc0
                  have y5 := fun dr os => cell_regrown e5 dr os
                  have yd0 := fun dr os => cell_regrown q0 dr os
                  have yd1 := fun dr os => cell_regrown q1 dr os
                  have yG := fun dr os => cell_regrown ctb dr os
                  clear hbe hi hbx hnx hSz htou hmk hq hqa hdm hHE h0 z1 hT hU hlen hkor ka kb h2 hcc hs11 hG ct11 h9b z3 z4 hfm hdp hb2 hd0 hd1 hidl hsa hsc hex hcz
                  gi_wp2_with (first
                    | (gi_at_call 31; (with_reducible refine (CallsIn.inRound lq (callsIn_wide.2 (KA.out _))).mono ?_); rintro e W5 ⟨rfl, rfl⟩)
                    | (gi_at_call 31; (with_reducible refine (CallsIn.inRound lq (callsIn_wide.2 (KB.out _))).mono ?_); rintro e W6 ⟨rfl, rfl⟩))
                  refine region_round_below (by kernel_rfl) (by kernel_rfl) (by kernel_rfl) ?_
                  repeat (gi_big_quiet_step ((gi_at_call 13; exact K13.out _ _ _)))
                  refine wpQuietIn_nil ?_
                  intro _ hw'
                  obtain ⟨⟨dq, osq⟩, hw''⟩ := hw'
                  subst hw''
                  obtain ⟨W1, hW1⟩ : ∃ W1, grow (redrawn Wb dq) osq = W1 := ⟨_, rfl⟩
                  rw [hW1]
                  have hb1 : Below Wb.heap.size Wb W1 := hW1 ▸ below_regrown Wb dq osq
                  obtain ⟨x5, x0, x3, xd0, xd1, xG⟩ := HCE.out W1 hb1
                  have v5 := fun dr os => cell_regrown x5 dr os
                  have v0 := fun dr os => cell_regrown x0 dr os
                  have v3 := fun dr os => cell_regrown x3 dr os
                  have vd0 := fun dr os => cell_regrown xd0 dr os
                  have vG := fun dr os => cell_regrown xG dr os
                  have k17 := Lib.hid (K17.out W1 hb1)
                  have k15 := Lib.hid (K15.out W1 hb1)
                  have k32 := Lib.hid (K32.out W1 hb1)
                  clear hW1 K13 K17 K15 K32 y5 yd0 yd1 yG e0 e1 e2 e3 e4 e5
                  gi_wp2
                  refine region_round_below (by kernel_rfl) (by kernel_rfl) (by kernel_rfl) ?_
                  repeat (gi_big_quiet_step ((first | (gi_at_call 17; exact k17.out _ _ _) | (gi_at_call 15; exact k15.out _ _ _) | (gi_at_call 32; exact k32.out _ _ _))))
                  refine wpQuietIn_nil ?_
                  intro _ hw'
                  obtain ⟨⟨dq2, osq2⟩, hw''⟩ := hw'
                  subst hw''
                  gi_wp2
                  exact HE.out _ (hb1.trans ((below_regrown W1 dq2 osq2).mono hb1.size))
              · have hz1 : ¬ 0 = sa := fun h => ha0 h.symm
                have hz2 : (0 == sa) = false := beq_false_of_ne hz1
                have hz3 : (0 != sa) = true := bne_iff_ne.2 hz1
                have y5 := fun dr os => cell_regrown e5 dr os
                have yd0 := fun dr os => cell_regrown q0 dr os
                have yd1 := fun dr os => cell_regrown q1 dr os
                have yG := fun dr os => cell_regrown ctb dr os
                clear hbe hi hbx hnx hSz htou hmk hq hqa hdm hHE h0 z1 hT hU hlen hkor ka kb h2 hcc hs11 hG ct11 h9b z3 z4 hfm hdp hb2 hd0 hd1 hidl hsa hsc hex hcz
                gi_wp2_with (first
                  | (gi_at_call 31; (with_reducible refine (CallsIn.inRound lq (callsIn_wide.2 (KA.out _))).mono ?_); rintro e W5 ⟨rfl, rfl⟩)
                  | (gi_at_call 31; (with_reducible refine (CallsIn.inRound lq (callsIn_wide.2 (KB.out _))).mono ?_); rintro e W6 ⟨rfl, rfl⟩))
                refine region_round_below (by kernel_rfl) (by kernel_rfl) (by kernel_rfl) ?_
                repeat (gi_big_quiet_step ((gi_at_call 13; exact K13.out _ _ _)))
                refine wpQuietIn_nil ?_
                intro _ hw'
                obtain ⟨⟨dq, osq⟩, hw''⟩ := hw'
                subst hw''
                obtain ⟨W1, hW1⟩ : ∃ W1, grow (redrawn Wb dq) osq = W1 := ⟨_, rfl⟩
                rw [hW1]
                have hb1 : Below Wb.heap.size Wb W1 := hW1 ▸ below_regrown Wb dq osq
                obtain ⟨x5, x0, x3, xd0, xd1, xG⟩ := HCE.out W1 hb1
                have v5 := fun dr os => cell_regrown x5 dr os
                have v0 := fun dr os => cell_regrown x0 dr os
                have v3 := fun dr os => cell_regrown x3 dr os
                have vd0 := fun dr os => cell_regrown xd0 dr os
                have vG := fun dr os => cell_regrown xG dr os
                have k17 := Lib.hid (K17.out W1 hb1)
                have k15 := Lib.hid (K15.out W1 hb1)
                have k32 := Lib.hid (K32.out W1 hb1)
                clear hW1 K13 K17 K15 K32 y5 yd0 yd1 yG e0 e1 e2 e3 e4 e5
                gi_wp2
                refine region_round_below (by kernel_rfl) (by kernel_rfl) (by kernel_rfl) ?_
                repeat (gi_big_quiet_step ((first | (gi_at_call 17; exact k17.out _ _ _) | (gi_at_call 15; exact k15.out _ _ _) | (gi_at_call 32; exact k32.out _ _ _))))
                refine wpQuietIn_nil ?_
                intro _ hw'
                obtain ⟨⟨dq2, osq2⟩, hw''⟩ := hw'
                subst hw''
                gi_wp2
                exact HE.out _ (hb1.trans ((below_regrown W1 dq2 osq2).mono hb1.size))
          · by_cases h1 : q.dec.length = 1
            · have z1 : s.dm = 1 := hdm.trans h1
              rw [z1] at e5
              clear hbe hi hbx hnx hSz htou hmk hq hqa hdm hHE h0 z1 hT hU hlen hkor ka kb h1 h2
              gi_wp2_with (first
                | (gi_at_call 31; (with_reducible refine (CallsIn.inRound lq (callsIn_wide.2 (KA.out _))).mono ?_); rintro e W5 ⟨rfl, rfl⟩)
                | (gi_at_call 31; (with_reducible refine (CallsIn.inRound lq (callsIn_wide.2 (KB.out _))).mono ?_); rintro e W6 ⟨rfl, rfl⟩))
              exact HE.out Wb (Below.refl _ _)
            · have z1 : s.dm = 0 := by have := hqa.2.2.2; omega
              have z2 : ¬ s.ccc = 0 := by rw [hi.2.2.2.1]; omega
              have z3 : (s.ccc == 0) = false := beq_false_of_ne z2
              have z4 : (s.ccc != 0) = true := bne_iff_ne.2 z2
              rw [z1] at e5
              clear hbe hi hbx hnx hSz htou hmk hq hqa hdm hHE h0 z1 hT hU hlen hkor ka kb h1 h2
              gi_wp2_with (first
                | (gi_at_call 31; (with_reducible refine (CallsIn.inRound lq (callsIn_wide.2 (KA.out _))).mono ?_); rintro e W5 ⟨rfl, rfl⟩)
                | (gi_at_call 31; (with_reducible refine (CallsIn.inRound lq (callsIn_wide.2 (KB.out _))).mono ?_); rintro e W6 ⟨rfl, rfl⟩))
              exact HE.out Wb (Below.refl _ _)
      case done =>
        rintro D xs W3 hD hxs hbe hKD
        have hbe : Below W11.heap.size W11 W3 := hbe
        obtain ⟨hs11, hG, ct11⟩ := HSZ.out
        have hDl := (Array.getElem?_eq_some_iff.1 hKD).1
        have WB3 := (HW.out.1.below HW.out.2).below hbe
        have hWl := HW.out.1.lt
        have ct3 : W3.cell? ⟨G, 0, none⟩ = some (.pointer (some ⟨b, 0, none⟩)) := (hbe.cell (p := ⟨G, 0, none⟩) (show G < W11.heap.size by omega)).trans ct11
        have PM3 := (HS.out.1.2.below HW.out.2).below hbe
        have c13 := callsIn_wide (n := 8) |>.2 (mak13 b d.ms x y W3 PM3 HXY.out.1 HXY.out.2)
        obtain ⟨⟨⟨-, -, -, -, -, -, -⟩, r0, r1⟩, -⟩ := id WB3
        cases hfm : findM d.ms x y with
        | none =>
          rw [hfm] at c13
          have c13 : CallsIn Fence.wide 8 Tryz.prog 13 #[.pointer (some ⟨b, 0, none⟩), .int .i64 x, .int .i64 y] W3 fun e w' => e = .returned (.tuple #[.int .i64 0, .bool false]) ∧ W3 = w' := c13
          have HE := Lib.hid (mk_end WB3 hKD (by omega))
          clear hbe hs11 hG ct11 hDl WB3 hWl PM3 hfm hxs hKD hD
          have hud : undef = Value.tuple #[] := rfl
          gi_wp2_with (first
            | (refine ⟨trivial, ?_⟩; gi_at_call 13; (with_reducible refine c13.mono ?_); rintro e W4 ⟨rfl, rfl⟩)
            | (refine ⟨trivial, ?_⟩))
          exact leave5 rfl HE.out.1 HE.out.2.1 ⟨rfl, HE.out.2.2⟩
        | some c =>
          rw [hfm] at c13
          have c13 : CallsIn Fence.wide 8 Tryz.prog 13 #[.pointer (some ⟨b, 0, none⟩), .int .i64 x, .int .i64 y] W3 fun e w' => e = .returned (.tuple #[.int .i64 c, .bool true]) ∧ W3 = w' := c13
          obtain ⟨hu, hT, hI⟩ := HU.out
          have hw93 : Below W9.heap.size W9 W3 := HW.out.2.trans (hbe.mono HW.out.2.size)
          have hmap := makes_any HS.out.2.1.good HS.out.2.2.2 hfm
          have hlen : (Uc.patOf d.ps c).dec.length = 2 := by have := congrArg List.length hmap; simpa using this
          have c15 := callsIn_wide (n := 8) |>.2 (uni15 b p W3 ((hw93.cell (p := ⟨b, 0, none⟩) (World.block_lt_of_cell? W9 _ hu)).trans hu))
          have c33 := Uc.decomp18 p A ca ls c (Uc.patOf d.ps c) W3 (hT.below hw93) (by rw [hI.len]; have := HS.out.2.1.few; omega) (Uc.ist_rises hI HS.out.2.1.good) (Uc.ist_at c (hI.below hw93)) (by omega)
          rw [hlen, hmap] at c33
          have d33 := callsIn_wide (n := 8) |>.2 c33
          have C24 : Hid (∀ W4 A2 c2, Below W3.heap.size W3 W4 → Hid (Vals W4 A2 2 (nums .i64 [x, y])) → CallsIn Fence.wide 8 Tryz.prog 24 #[.slice A2 2 c2, .slice (some ⟨W4.heap.size, 0, none⟩) 2 2] (W4.alloc (.cells #[.int .i64 x, .int .i64 y] 3)) fun e W6 => (e = .returned (.bool true) ∧ W6.cell? ⟨w.heap.size + 1, 0, none⟩ = some (.bool false) ∧ W6.frozen? ⟨w.heap.size + 1, 0, none⟩ = false) ∧ Hid ((W6.setCell ⟨w.heap.size + 1, 0, none⟩ (.bool true)).heap[D]? = some (.deferred (some [])) ∧ (W6.setCell ⟨w.heap.size + 1, 0, none⟩ (.bool true)).cell? ⟨w.heap.size + 1, 0, none⟩ = some (.bool true) ∧ Below w.heap.size w ((W6.setCell ⟨w.heap.size + 1, 0, none⟩ (.bool true)).putObj D (.deferred none)))) := Lib.hid (fun W4 A2 c2 h4 hv => by
            have ha : Below W4.heap.size W4 (W4.alloc (.cells #[.int .i64 x, .int .i64 y] 3)) := (Below.refl _ _).alloc (Nat.le_refl _) _
            refine callsIn_wide.2 ((same17 A2 (some ⟨W4.heap.size, 0, none⟩) 2 c2 2 [x, y] _ (hv.out.below ha) (vals_lit W4 (nums .i64 [x, y]) 3) (by omega)).mono ?_)
            rintro e W6 ⟨rfl, q, rfl⟩
            have h6 : Below W3.heap.size W3 ((W4.alloc (.cells #[.int .i64 x, .int .i64 y] 3)).drewN q) := below_drewN (h4.trans (ha.mono h4.size)) q
            have WB6 := WB3.below h6
            exact ⟨⟨rfl, WB6.1.2⟩, Lib.hid (mk_end WB6 ((h6.block D hDl).trans hKD) (by omega))⟩)
          clear hbe hs11 hG ct11 hDl WB3 hWl PM3 hfm hxs hKD hD hu hT hI hw93 hmap hlen c33
          have hud : undef = Value.tuple #[] := rfl
          gi_wp2_with (first
            | (refine ⟨trivial, ?_⟩; gi_at_call 13; (with_reducible refine c13.mono ?_); rintro e W4 ⟨rfl, rfl⟩)
            | (refine ⟨trivial, ?_⟩; gi_at_call 15; (with_reducible refine c15.mono ?_); rintro e W4 ⟨rfl, rfl⟩)
            | (refine ⟨trivial, ?_⟩; gi_at_call 33; (with_reducible refine d33.mono ?_); rintro e W5 ⟨A2, c2, rfl, hb5, hv5⟩)
            | (refine ⟨trivial, ?_⟩; gi_at_call 24; (with_reducible refine (C24.out W5 A2 c2 hb5 hv5).mono ?_); rintro e W6 ⟨⟨rfl, f0, f1⟩, HE⟩)
            | (refine ⟨trivial, ?_⟩))
          exact leave5 rfl HE.out.1 HE.out.2.1 ⟨rfl, HE.out.2.2⟩
      case stop =>
        rintro D c2 pre W3 hD hpre hx hKD
        exact hx.elim
  · rw [decide_eq_false hs] at C8
    clear h0 h1 h2 h3 h4 h5 h6 l0 l1 l2 l3 l4 l5 l6 hf7 hM hH hx hy hs
    gi_wp2_with (first
      | (refine ⟨trivial, ?_⟩; gi_at_call 7; (with_reducible refine (C7.out _ H8.out).mono ?_); rintro e W9 ⟨⟨rfl, ⟨⟨q0, q1, q2, q3, q4, q5, q6⟩, r0, r1⟩, -⟩, H9⟩)
      | (refine ⟨trivial, ?_⟩; gi_at_call 7; (with_reducible refine (C7.out _ H1.out).mono ?_); rintro e W7 ⟨⟨rfl, ⟨⟨q0, q1, q2, q3, q4, q5, q6⟩, r0, r1⟩, -⟩, H7⟩)
      | (refine ⟨trivial, ?_⟩; gi_at_call 8; (with_reducible refine (C8.out _ H7.out).mono ?_); rintro e W8 ⟨⟨rfl, ⟨⟨q0, q1, q2, q3, q4, q5, q6⟩, r0, r1⟩, -⟩, H8⟩))
    exact leave5n rfl (wb_set H9.out).1 ⟨rfl, (wb_set H9.out).2⟩
end Go.Proofs.YtmellioacefjjaaGreatDoor
