/- DataRemarks walked. -/
import Derived.Test.YtmellioacefjjaaGreatDoorQr46
import Derived.Test.YtmellioacefjjaaGreatDoorQr47
import Derived.Test.YtmellioacefjjaaGreatDoorQr48
import Derived.Test.YtmellioacefjjaaGreatDoorQr07
import Derived.Test.YtmellioacefjjaaGreatDoorQr49
import Derived.Test.YtmellioacefjjaaGreatDoorQr50
import Derived.Test.YtmellioacefjjaaGreatDoorQr30
import Derived.Deep.RegionHeld3
namespace Go.Proofs.YtmellioacefjjaaGreatDoor
open Go.RowKit Go.Shelf
attribute [local go_sem] Oper.semAt_some

/-- New rows of octets, and the second result's box once it is laid. -/
def OS (X : World) (Z : Option Nat) (L : List (Option Addr × Nat × List UInt8)) (W : World) : Prop := Below X.heap.size X W ∧ (∀ k, Z = some k → X.heap.size ≤ k ∧ k < W.heap.size ∧ Zr3 k W) ∧ ∀ t ∈ L, Octs W t.1 t.2.1 t.2.2
theorem OS.below {X W W' : World} {Z : Option Nat} {L : List (Option Addr × Nat × List UInt8)} (h : OS X Z L W) (hb : Below W.heap.size W W') : OS X Z L W' :=
  ⟨h.1.trans (hb.mono h.1.size), fun k hk => ⟨(h.2.1 k hk).1, Nat.lt_of_lt_of_le (h.2.1 k hk).2.1 hb.size, (h.2.1 k hk).2.2.below (h.2.1 k hk).2.1 hb⟩, fun t ht => (h.2.2 t ht).below hb⟩
theorem OS.drew {X W : World} {Z : Option Nat} {L : List (Option Addr × Nat × List UInt8)} (h : OS X Z L W) : OS X Z L W.drew := h.below (below_drew (Below.refl _ _))
theorem OS.add {X W : World} {Z : Option Nat} {L : List (Option Addr × Nat × List UInt8)} {B : Option Addr} {n : Nat} {l : List UInt8} (h : OS X Z L W) (ho : Octs W B n l) : OS X Z ((B, n, l) :: L) W :=
  ⟨h.1, h.2.1, fun t ht => by
    rcases List.mem_cons.1 ht with rfl | ht
    · exact ho
    · exact h.2.2 t ht⟩
theorem OS.box {X W : World} {L : List (Option Addr × Nat × List UInt8)} (h : OS X none L W) : OS X (some W.heap.size) L (W.alloc (.cells #[.int .i64 0, .int .i64 0, .int .i64 0] 59)) := by
  have q := h.below ((Below.refl _ _).alloc (Nat.le_refl _) (.cells #[.int .i64 0, .int .i64 0, .int .i64 0] 59))
  refine ⟨q.1, fun k hk => ?_, q.2.2⟩
  injection hk with hk
  subst hk
  exact ⟨h.1.size, by simp, by rw [new_at _ _ _ _ _ rfl]; rfl, by rw [new_at _ _ _ _ _ rfl]; rfl, by rw [new_at _ _ _ _ _ rfl]; rfl, fun i => new_fro _ _ _ _ _ rfl⟩
theorem more_os (X : World) (B : Option Addr) (n c : Nat) (l : List UInt8) (h : Octs X B n l) (hn : n ≤ 3000) (Z : Option Nat) (L : List (Option Addr × Nat × List UInt8)) (W : World) (hW : OS X Z L W) :
    Calls Tryz.prog 34 #[.slice B n c] W fun e W' => ∃ A2 c2, e = .returned (.slice A2 (n + 10) c2) ∧ Hid (OS X Z ((A2, n + 10, l ++ remO) :: L) W') :=
  (more34 B n c l W (h.below hW.1) hn).mono (by
    rintro e W' ⟨A2, c2, rfl, hh⟩
    exact ⟨A2, c2, rfl, Lib.hid ((hW.below hh.out.1).add hh.out.2)⟩)

theorem zr3_put {k : Nat} {W : World} (h : Zr3 k W) (x y z : Int) : (((W.setCell ⟨k, 0, none⟩ (.int .i64 x)).setCell ⟨k, 1, none⟩ (.int .i64 y)).setCell ⟨k, 2, none⟩ (.int .i64 z)).cell? ⟨k, 0, none⟩ = some (.int .i64 x) ∧ (((W.setCell ⟨k, 0, none⟩ (.int .i64 x)).setCell ⟨k, 1, none⟩ (.int .i64 y)).setCell ⟨k, 2, none⟩ (.int .i64 z)).cell? ⟨k, 1, none⟩ = some (.int .i64 y) ∧ (((W.setCell ⟨k, 0, none⟩ (.int .i64 x)).setCell ⟨k, 1, none⟩ (.int .i64 y)).setCell ⟨k, 2, none⟩ (.int .i64 z)).cell? ⟨k, 2, none⟩ = some (.int .i64 z) := by
  refine ⟨?_, ?_, ?_⟩
  · rw [World.cell?_setCell_other _ ⟨k, 2, none⟩ ⟨k, 0, none⟩ _ (by simp), World.cell?_setCell_other _ ⟨k, 1, none⟩ ⟨k, 0, none⟩ _ (by simp)]
    exact World.cell?_setCell_same _ _ _ h.1
  · rw [World.cell?_setCell_other _ ⟨k, 2, none⟩ ⟨k, 1, none⟩ _ (by simp)]
    exact World.cell?_setCell_same _ _ _ ((World.cell?_setCell_other _ ⟨k, 0, none⟩ ⟨k, 1, none⟩ _ (by simp)).trans h.2.1)
  · exact World.cell?_setCell_same _ _ _ ((World.cell?_setCell_other _ ⟨k, 1, none⟩ ⟨k, 2, none⟩ _ (by simp)).trans ((World.cell?_setCell_other _ ⟨k, 0, none⟩ ⟨k, 2, none⟩ _ (by simp)).trans h.2.2.1))
theorem ne59 (x y z : Int) (w : World) : Sem.run Tryz.prog (binOp .neq 59 (.agg #[.int .i64 x, .int .i64 y, .int .i64 z]) (.agg #[.int .i64 x, .int .i64 y, .int .i64 z])) w = .ok (.bool false) w := by
  have hS : Tryz.prog.underlying 59 = some (.struct (Tryz.prog.fieldsOf 59)) := by kernel_rfl
  have hp : Tryz.prog.stoodInHeld 59 = false := by kernel_rfl
  rw [run_neq_struct, show (10000 : Nat) = 9999 + 1 from rfl, run_equalIn_agg w 9999 59 _ _ hS hp]
  simp only [Program.fieldsOf, Tryz.underlying59]
  go_simp
theorem load_zero {f : Nat → List UInt8} {d : Dt} {x : Wh} (h : loadOf f = (x, some d)) : x = ⟨0, 0, 0⟩ := by
  rcases read_load f with ⟨h1, h2⟩ | ⟨h1, h2⟩
  · rw [h2] at h
    rcases load2_join (uF f).rows (spF f) (cfF f).rows with ⟨-, ms, -, h3⟩ | ⟨h3, h4⟩
    · rw [h3] at h; injection h with h _; exact h.symm
    · rw [h4] at h; injection h with _ h; cases h
  · rw [h2] at h; injection h with _ h; cases h
theorem ph_two {Q : Exit → Act → World → Prop} {l : List Oper} {S : World → Prop} {i j : Nat} {oi oj : Oper} {ri rj : List Oper} {fuel : Nat} {listed : Array Bool} {a : Act} {w : World} (hdi : l.drop i = oi :: ri) (hdj : l.drop j = oj :: rj) (hr : Region.ready .any l.toArray listed = [i, j]) (hwi : Region.wanted oi (yielded l.toArray a.tmps) = true) (hwj : Region.wanted oj (yielded l.toArray a.tmps) = true)
    (hi : ∀ K : Act → World → Prop, Shut (∀ a w, S w → (S w → wpAnyH Tryz.prog .any l.toArray Q S fuel (listed.setIfInBounds i true) a w) → K a w) → Oper.wp Tryz.prog oi a w K Q)
    (hj : ∀ K : Act → World → Prop, Shut (∀ a w, S w → (S w → wpAnyH Tryz.prog .any l.toArray Q S fuel (listed.setIfInBounds j true) a w) → K a w) → Oper.wp Tryz.prog oj a w K Q) : wpAnyH Tryz.prog .any l.toArray Q S (fuel + 1) listed a w :=
  wpAnyH_ready hr (by simp) (AllReadyH.cons (drop_get hdi) (fun K hK => by rw [if_pos hwi]; exact hi K hK) (AllReadyH.cons (drop_get hdj) (fun K hK => by rw [if_pos hwj]; exact hj K hK) AllReadyH.nil))
theorem ph_take {Q : Exit → Act → World → Prop} {l : List Oper} {S : World → Prop} {i : Nat} {oi : Oper} {rest : List Oper} {v : Value} {fuel : Nat} {listed : Array Bool} {a : Act} {w : World} (hs : Hid (Region.noSelect l.toArray = true)) (hd : l.drop i = oi :: rest) (hf : Region.free .any l.toArray listed i = true) (hr : (Region.ready .any l.toArray listed).contains i = true)
    (hQ : ∀ c a w, Q (.panic c) (a.put oi.dst v) w → Q (.panic c) a w) (hw : Region.wanted oi (yielded l.toArray a.tmps) = true) (hy : ∀ w, S w → (execOp a.eval oi).run Tryz.prog w = .ok (.value v) w) (hS : S w) (h : wpAnyH Tryz.prog .any l.toArray Q S fuel (listed.setIfInBounds i true) (a.put oi.dst v) w) : wpAnyH Tryz.prog .any l.toArray Q S (fuel + 1) listed a w :=
  wpAnyH_take (drop_get hd) hs.out hf hr hQ (.inl ⟨hw, hy⟩) hS h
theorem ph_step {Q : Exit → Act → World → Prop} {l : List Oper} {S : World → Prop} {i : Nat} {oi : Oper} {rest : List Oper} {fuel : Nat} {listed : Array Bool} {a : Act} {w : World} (hd : l.drop i = oi :: rest) (hr : Region.ready .any l.toArray listed = [i]) (hw : Region.wanted oi (yielded l.toArray a.tmps) = true)
    (h : ∀ K : Act → World → Prop, Shut (∀ a w, S w → (S w → wpAnyH Tryz.prog .any l.toArray Q S fuel (listed.setIfInBounds i true) a w) → K a w) → Oper.wp Tryz.prog oi a w K Q) : wpAnyH Tryz.prog .any l.toArray Q S (fuel + 1) listed a w :=
  wpAnyH_ready hr (by simp) (AllReadyH.cons (drop_get hd) (fun K hK => by rw [if_pos hw]; exact h K hK) AllReadyH.nil)
theorem ph_open {Q : Exit → Act → World → Prop} {id : Nat} {l : List Oper} {a : Act} {w : World} (S : World → Prop) (hm : Tryz.prog.follows .mixedOrders = true) (hS : S w.drew) (hs : Region.noSelect l.toArray = true)
    (h : Hid (Region.noSelect l.toArray = true) → S w.drew → wpAnyH Tryz.prog .any l.toArray Q S l.toArray.size (Array.replicate l.toArray.size false) a w.drew) : (Code.region id l.toArray true).wp Tryz.prog Q a w :=
  wp_region_held_drew (S := S) hm hS (fun q => h (Lib.hid hs) q)

set_option maxRecDepth 100000 in
set_option maxHeartbeats 8000000 in
theorem remarks6 (b0 b1 b2 b3 b4 b5 b6 : Option Addr) (n0 n1 n2 n3 n4 n5 n6 m0 m1 m2 m3 m4 m5 m6 : Nat) (f : Nat → List UInt8) (c : Int) (w : World) (h0 : Octs w b0 n0 (f 0)) (h1 : Octs w b1 n1 (f 1)) (h2 : Octs w b2 n2 (f 2)) (h3 : Octs w b3 n3 (f 3)) (h4 : Octs w b4 n4 (f 4)) (h5 : Octs w b5 n5 (f 5)) (h6 : Octs w b6 n6 (f 6))
    (l0 : n0 ≤ 1000000000000000) (l1 : n1 ≤ 1000000000000000) (l2 : n2 ≤ 1000000000000000) (l3 : n3 ≤ 1000000000000000) (l4 : n4 ≤ 1000000000000000) (l5 : n5 ≤ 1000000000000000) (l6 : n6 ≤ 1000000000000000) (hf7 : ∀ i, 7 ≤ i → f i = []) (hM : ML w) (hH : HanT w) (hc : (Lit.int .i64 c).wf = true) :
    Calls Tryz.prog 6 #[.agg #[.slice b0 n0 m0, .slice b1 n1 m1, .slice b2 n2 m2, .slice b3 n3 m3, .slice b4 n4 m4, .slice b5 n5 m5, .slice b6 n6 m6], .int .i64 c] w fun e w' => e = .returned (.bool true) ∧ Below w.heap.size w w' := by
  have C7 : Hid (∀ W, BnB w W (.slice b0 n0 m0) (.slice b1 n1 m1) (.slice b2 n2 m2) (.slice b3 n3 m3) (.slice b4 n4 m4) (.slice b5 n5 m5) (.slice b6 n6 m6) → Calls Tryz.prog 7 #[] W fun e W' => e = .returned (.bool true) ∧ BnB w W' (.slice b0 n0 m0) (.slice b1 n1 m1) (.slice b2 n2 m2) (.slice b3 n3 m3) (.slice b4 n4 m4) (.slice b5 n5 m5) (.slice b6 n6 m6)) := Lib.hid (fun W hW => (awake7 W (ml_on hM hW.2) (hH.below hH.lt hW.2)).mono (by
    rintro e W' ⟨rfl, hb⟩
    exact ⟨rfl, hW.below hb⟩))
  have C8 : Hid (∀ W, BnB w W (.slice b0 n0 m0) (.slice b1 n1 m1) (.slice b2 n2 m2) (.slice b3 n3 m3) (.slice b4 n4 m4) (.slice b5 n5 m5) (.slice b6 n6 m6) → Calls Tryz.prog 8 #[.agg #[.slice b0 n0 m0, .slice b1 n1 m1, .slice b2 n2 m2, .slice b3 n3 m3, .slice b4 n4 m4, .slice b5 n5 m5, .slice b6 n6 m6]] W fun e W' => e = .returned (.bool (decide (n0 + n1 + n2 + n3 + n4 + n5 + n6 ≤ 3000))) ∧ BnB w W' (.slice b0 n0 m0) (.slice b1 n1 m1) (.slice b2 n2 m2) (.slice b3 n3 m3) (.slice b4 n4 m4) (.slice b5 n5 m5) (.slice b6 n6 m6)) := Lib.hid (fun W hW => (small8 b0 b1 b2 b3 b4 b5 b6 n0 n1 n2 n3 n4 n5 n6 m0 m1 m2 m3 m4 m5 m6 W l0 l1 l2 l3 l4 l5 l6).mono (by
    rintro e W' ⟨rfl, hb⟩
    exact ⟨rfl, hW.below hb⟩))
  have H1 := Lib.hid (bnb_new w (.slice b0 n0 m0) (.slice b1 n1 m1) (.slice b2 n2 m2) (.slice b3 n3 m3) (.slice b4 n4 m4) (.slice b5 n5 m5) (.slice b6 n6 m6))
  by_cases hs : n0 + n1 + n2 + n3 + n4 + n5 + n6 ≤ 3000
  · rw [decide_eq_true hs] at C8
    have hfl : ∀ i, (f i).length ≤ 3000 := by
      intro i
      by_cases e0 : i = 0
      · subst e0; have := h0.len; omega
      by_cases e1 : i = 1
      · subst e1; have := h1.len; omega
      by_cases e2 : i = 2
      · subst e2; have := h2.len; omega
      by_cases e3 : i = 3
      · subst e3; have := h3.len; omega
      by_cases e4 : i = 4
      · subst e4; have := h4.len; omega
      by_cases e5 : i = 5
      · subst e5; have := h5.len; omega
      by_cases e6 : i = 6
      · subst e6; have := h6.len; omega
      rw [hf7 i (by omega)]; simp
    have hml : ∀ i, (moreF f i).length ≤ 4000 := by
      intro i
      unfold moreF
      have := hfl i
      split
      · rw [List.length_append]; have : remO.length = 10 := rfl; omega
      · omega
    have C9 : Hid (∀ W, BnB w W (.slice b0 n0 m0) (.slice b1 n1 m1) (.slice b2 n2 m2) (.slice b3 n3 m3) (.slice b4 n4 m4) (.slice b5 n5 m5) (.slice b6 n6 m6) → Calls Tryz.prog 29 #[.agg #[.slice b0 n0 m0, .slice b1 n1 m1, .slice b2 n2 m2, .slice b3 n3 m3, .slice b4 n4 m4, .slice b5 n5 m5, .slice b6 n6 m6]] W fun e W' => BnB w W' (.slice b0 n0 m0) (.slice b1 n1 m1) (.slice b2 n2 m2) (.slice b3 n3 m3) (.slice b4 n4 m4) (.slice b5 n5 m5) (.slice b6 n6 m6) ∧ LoadPost f W e W') := Lib.hid (fun W hW => (load29 b0 b1 b2 b3 b4 b5 b6 n0 n1 n2 n3 n4 n5 n6 m0 m1 m2 m3 m4 m5 m6 f W (h0.below hW.2) (h1.below hW.2) (h2.below hW.2) (h3.below hW.2) (h4.below hW.2) (h5.below hW.2) (h6.below hW.2) (by omega) (fun i => Nat.le_trans (hfl i) (by omega)) (ml_on hM hW.2) (hH.below hH.lt hW.2)).mono (fun e W' h => ⟨hW.below h.1, h⟩))
    have D29 : Hid (∀ X, Below w.heap.size w X → ∀ (Z : Option Nat) (A0 : Option Addr) (A1 : Option Addr) (A2 : Option Addr) (A3 : Option Addr) (A4 : Option Addr) (A5 : Option Addr) (A6 : Option Addr) (k0 k1 k2 k3 k4 k5 k6 : Nat) W, OS X Z [(A6, n6 + 10, f 6 ++ remO), (A5, n5 + 10, f 5 ++ remO), (A4, n4 + 10, f 4 ++ remO), (A3, n3 + 10, f 3 ++ remO), (A2, n2 + 10, f 2 ++ remO), (A1, n1 + 10, f 1 ++ remO), (A0, n0 + 10, f 0 ++ remO)] W → Calls Tryz.prog 29 #[.agg #[.slice A0 (n0 + 10) k0, .slice A1 (n1 + 10) k1, .slice A2 (n2 + 10) k2, .slice A3 (n3 + 10) k3, .slice A4 (n4 + 10) k4, .slice A5 (n5 + 10) k5, .slice A6 (n6 + 10) k6]] W fun e W' => OS X Z [] W' ∧ LoadPost (moreF f) W e W') := Lib.hid (fun X hX Z A0 A1 A2 A3 A4 A5 A6 k0 k1 k2 k3 k4 k5 k6 W hW => (load29 A0 A1 A2 A3 A4 A5 A6 (n0 + 10) (n1 + 10) (n2 + 10) (n3 + 10) (n4 + 10) (n5 + 10) (n6 + 10) k0 k1 k2 k3 k4 k5 k6 (moreF f) W (hW.2.2 (A0, n0 + 10, f 0 ++ remO) (by simp)) (hW.2.2 (A1, n1 + 10, f 1 ++ remO) (by simp)) (hW.2.2 (A2, n2 + 10, f 2 ++ remO) (by simp)) (hW.2.2 (A3, n3 + 10, f 3 ++ remO) (by simp)) (hW.2.2 (A4, n4 + 10, f 4 ++ remO) (by simp)) (hW.2.2 (A5, n5 + 10, f 5 ++ remO) (by simp)) (hW.2.2 (A6, n6 + 10, f 6 ++ remO) (by simp)) (by omega) hml (ml_on hM (hX.trans (hW.1.mono hX.size))) (hH.below hH.lt (hX.trans (hW.1.mono hX.size)))).mono (fun e W' h => ⟨⟨(hW.below h.1).1, (hW.below h.1).2.1, fun t ht => by cases ht⟩, h⟩))
    have M0 : Hid (∀ X, Below w.heap.size w X → ∀ Z L W, OS X Z L W → Calls Tryz.prog 34 #[.slice b0 n0 m0] W fun e W' => ∃ A2 c2, e = .returned (.slice A2 (n0 + 10) c2) ∧ Hid (OS X Z ((A2, n0 + 10, f 0 ++ remO) :: L) W')) := Lib.hid (fun X hX Z L W hW => more_os X b0 n0 m0 (f 0) (h0.below hX) (by omega) Z L W hW)
    have M1 : Hid (∀ X, Below w.heap.size w X → ∀ Z L W, OS X Z L W → Calls Tryz.prog 34 #[.slice b1 n1 m1] W fun e W' => ∃ A2 c2, e = .returned (.slice A2 (n1 + 10) c2) ∧ Hid (OS X Z ((A2, n1 + 10, f 1 ++ remO) :: L) W')) := Lib.hid (fun X hX Z L W hW => more_os X b1 n1 m1 (f 1) (h1.below hX) (by omega) Z L W hW)
    have M2 : Hid (∀ X, Below w.heap.size w X → ∀ Z L W, OS X Z L W → Calls Tryz.prog 34 #[.slice b2 n2 m2] W fun e W' => ∃ A2 c2, e = .returned (.slice A2 (n2 + 10) c2) ∧ Hid (OS X Z ((A2, n2 + 10, f 2 ++ remO) :: L) W')) := Lib.hid (fun X hX Z L W hW => more_os X b2 n2 m2 (f 2) (h2.below hX) (by omega) Z L W hW)
    have M3 : Hid (∀ X, Below w.heap.size w X → ∀ Z L W, OS X Z L W → Calls Tryz.prog 34 #[.slice b3 n3 m3] W fun e W' => ∃ A2 c2, e = .returned (.slice A2 (n3 + 10) c2) ∧ Hid (OS X Z ((A2, n3 + 10, f 3 ++ remO) :: L) W')) := Lib.hid (fun X hX Z L W hW => more_os X b3 n3 m3 (f 3) (h3.below hX) (by omega) Z L W hW)
    have M4 : Hid (∀ X, Below w.heap.size w X → ∀ Z L W, OS X Z L W → Calls Tryz.prog 34 #[.slice b4 n4 m4] W fun e W' => ∃ A2 c2, e = .returned (.slice A2 (n4 + 10) c2) ∧ Hid (OS X Z ((A2, n4 + 10, f 4 ++ remO) :: L) W')) := Lib.hid (fun X hX Z L W hW => more_os X b4 n4 m4 (f 4) (h4.below hX) (by omega) Z L W hW)
    have M5 : Hid (∀ X, Below w.heap.size w X → ∀ Z L W, OS X Z L W → Calls Tryz.prog 34 #[.slice b5 n5 m5] W fun e W' => ∃ A2 c2, e = .returned (.slice A2 (n5 + 10) c2) ∧ Hid (OS X Z ((A2, n5 + 10, f 5 ++ remO) :: L) W')) := Lib.hid (fun X hX Z L W hW => more_os X b5 n5 m5 (f 5) (h5.below hX) (by omega) Z L W hW)
    have M6 : Hid (∀ X, Below w.heap.size w X → ∀ Z L W, OS X Z L W → Calls Tryz.prog 34 #[.slice b6 n6 m6] W fun e W' => ∃ A2 c2, e = .returned (.slice A2 (n6 + 10) c2) ∧ Hid (OS X Z ((A2, n6 + 10, f 6 ++ remO) :: L) W')) := Lib.hid (fun X hX Z L W hW => more_os X b6 n6 m6 (f 6) (h6.below hX) (by omega) Z L W hW)
    clear h0 h1 h2 h3 h4 h5 h6 l0 l1 l2 l3 l4 l5 l6 hf7 hM hH hs hfl hml
    rcases hl : loadOf f with ⟨⟨vf, vl, ve⟩, _ | d⟩
    · have hve := (load_wrong hl).1
      have hv1 : (ve == 0) = false := beq_false_of_ne hve
      have hv2 : (ve != 0) = true := bne_iff_ne.2 hve
      have D9 : Hid (∀ W, BnB w W (.slice b0 n0 m0) (.slice b1 n1 m1) (.slice b2 n2 m2) (.slice b3 n3 m3) (.slice b4 n4 m4) (.slice b5 n5 m5) (.slice b6 n6 m6) → Calls Tryz.prog 29 #[.agg #[.slice b0 n0 m0, .slice b1 n1 m1, .slice b2 n2 m2, .slice b3 n3 m3, .slice b4 n4 m4, .slice b5 n5 m5, .slice b6 n6 m6]] W fun e W' => e = .returned (.tuple #[.pointer none, .agg #[.int .i64 vf, .int .i64 vl, .int .i64 ve]]) ∧ Hid (BnB w W' (.slice b0 n0 m0) (.slice b1 n1 m1) (.slice b2 n2 m2) (.slice b3 n3 m3) (.slice b4 n4 m4) (.slice b5 n5 m5) (.slice b6 n6 m6))) := Lib.hid (fun W hW => (C9.out W hW).mono (by
        rintro e W' ⟨hw, -, ⟨d', b, h, rfl, h1, h2, h3⟩ | ⟨x, h, rfl⟩⟩
        · rw [hl] at h; injection h with _ h; cases h
        · rw [hl] at h; injection h with h _; subst h; exact ⟨rfl, Lib.hid hw⟩))
      have E29 : Hid (∀ X, Below w.heap.size w X → ∀ (Z : Option Nat) (A0 : Option Addr) (A1 : Option Addr) (A2 : Option Addr) (A3 : Option Addr) (A4 : Option Addr) (A5 : Option Addr) (A6 : Option Addr) (k0 k1 k2 k3 k4 k5 k6 : Nat) W, OS X Z [(A6, n6 + 10, f 6 ++ remO), (A5, n5 + 10, f 5 ++ remO), (A4, n4 + 10, f 4 ++ remO), (A3, n3 + 10, f 3 ++ remO), (A2, n2 + 10, f 2 ++ remO), (A1, n1 + 10, f 1 ++ remO), (A0, n0 + 10, f 0 ++ remO)] W → Calls Tryz.prog 29 #[.agg #[.slice A0 (n0 + 10) k0, .slice A1 (n1 + 10) k1, .slice A2 (n2 + 10) k2, .slice A3 (n3 + 10) k3, .slice A4 (n4 + 10) k4, .slice A5 (n5 + 10) k5, .slice A6 (n6 + 10) k6]] W fun e W' => e = .returned (.tuple #[.pointer none, .agg #[.int .i64 vf, .int .i64 vl, .int .i64 ve]]) ∧ Hid (OS X Z [] W')) := Lib.hid (fun X hX Z A0 A1 A2 A3 A4 A5 A6 k0 k1 k2 k3 k4 k5 k6 W hW => (D29.out X hX Z A0 A1 A2 A3 A4 A5 A6 k0 k1 k2 k3 k4 k5 k6 W hW).mono (by
        rintro e W' ⟨hw, -, ⟨d', b, h, rfl, h1, h2, h3⟩ | ⟨x, h, rfl⟩⟩
        · rw [more_load, hl] at h; injection h with _ h; cases h
        · rw [more_load, hl] at h; injection h with h _; subst h; exact ⟨rfl, Lib.hid hw⟩))
      clear C9 D29 hl hve hc
      go_enter Tryz.func6, Tryz.ntmps6
      go_upto_region 4 with (first
      | (go_at_call 29; (with_reducible refine (D9.out _ H8.out).mono ?_); rintro e W9 ⟨rfl, H9⟩; obtain ⟨⟨r0, r1, r2, r3, r4, r5, r6⟩, -⟩ := H9.out)
      | (go_at_call 7; (with_reducible refine (C7.out _ H1.out).mono ?_); rintro e W7 ⟨rfl, H7'⟩; have H7 := Lib.hid H7'; clear H7'; obtain ⟨⟨q0, q1, q2, q3, q4, q5, q6⟩, -⟩ := H7.out)
      | (go_at_call 8; (with_reducible refine (C8.out _ H7.out).mono ?_); rintro e W8 ⟨rfl, H8'⟩; have H8 := Lib.hid H8'; clear H8'; obtain ⟨⟨q0, q1, q2, q3, q4, q5, q6⟩, -⟩ := H8.out))
      clear C7 C8 D9 H1 H7 H8 q0 q1 q2 q3 q4 q5 q6
      have H10 := Lib.hid (H9.out.below ((Below.refl _ _).alloc (Nat.le_refl _) (.cells #[.int .i64 vf, .int .i64 vl, .int .i64 ve] 59)))
      have HZ6 : Hid (W9.heap.size < (W9.alloc (.cells #[.int .i64 vf, .int .i64 vl, .int .i64 ve] 59)).heap.size ∧ (W9.alloc (.cells #[.int .i64 vf, .int .i64 vl, .int .i64 ve] 59)).cell? ⟨W9.heap.size, 0, none⟩ = some (.int .i64 vf) ∧ (W9.alloc (.cells #[.int .i64 vf, .int .i64 vl, .int .i64 ve] 59)).cell? ⟨W9.heap.size, 1, none⟩ = some (.int .i64 vl) ∧ (W9.alloc (.cells #[.int .i64 vf, .int .i64 vl, .int .i64 ve] 59)).cell? ⟨W9.heap.size, 2, none⟩ = some (.int .i64 ve)) := Lib.hid ⟨by simp, by rw [new_at _ _ _ _ _ rfl]; rfl, by rw [new_at _ _ _ _ _ rfl]; rfl, by rw [new_at _ _ _ _ _ rfl]; rfl⟩
      obtain ⟨X, hX⟩ : ∃ z, W9.alloc (.cells #[.int .i64 vf, .int .i64 vl, .int .i64 ve] 59) = z := ⟨_, rfl⟩
      rw [hX] at H10 HZ6 ⊢
      obtain ⟨K6, hK6⟩ : ∃ z, W9.heap.size = z := ⟨_, rfl⟩
      rw [hK6] at HZ6 ⊢
      clear hX hK6 H9 r0 r1 r2 r3 r4 r5 r6
      have HS : Hid (∀ W, Below X.heap.size X W → (W.cell? ⟨w.heap.size, 0, none⟩ = some (.slice b0 n0 m0) ∧ W.cell? ⟨w.heap.size, 1, none⟩ = some (.slice b1 n1 m1) ∧ W.cell? ⟨w.heap.size, 2, none⟩ = some (.slice b2 n2 m2) ∧ W.cell? ⟨w.heap.size, 3, none⟩ = some (.slice b3 n3 m3) ∧ W.cell? ⟨w.heap.size, 4, none⟩ = some (.slice b4 n4 m4) ∧ W.cell? ⟨w.heap.size, 5, none⟩ = some (.slice b5 n5 m5) ∧ W.cell? ⟨w.heap.size, 6, none⟩ = some (.slice b6 n6 m6))) := Lib.hid (fun W hb => (H10.out.below hb).1)
      have OO : Hid (OS X none [] X) := Lib.hid ⟨Below.refl _ _, fun k hk => (by cases hk), fun t ht => (by cases ht)⟩
      have HX := Lib.hid H10.out.2
      go_cut [7, 8] from 22 to 47 (fun v7 v8 W => ∃ k8 : Nat, v7 = .pointer none ∧ v8 = .pointer (some ⟨k8, 0, none⟩) ∧ Hid (Below X.heap.size X W) ∧ W.cell? ⟨k8, 0, none⟩ = some (.int .i64 vf) ∧ W.cell? ⟨k8, 1, none⟩ = some (.int .i64 vl) ∧ W.cell? ⟨k8, 2, none⟩ = some (.int .i64 ve))
      case first =>
        refine ph_open (fun W => W.cell? ⟨w.heap.size, 0, none⟩ = some (.slice b0 n0 m0) ∧ W.cell? ⟨w.heap.size, 1, none⟩ = some (.slice b1 n1 m1) ∧ W.cell? ⟨w.heap.size, 2, none⟩ = some (.slice b2 n2 m2) ∧ W.cell? ⟨w.heap.size, 3, none⟩ = some (.slice b3 n3 m3) ∧ W.cell? ⟨w.heap.size, 4, none⟩ = some (.slice b4 n4 m4) ∧ W.cell? ⟨w.heap.size, 5, none⟩ = some (.slice b5 n5 m5) ∧ W.cell? ⟨w.heap.size, 6, none⟩ = some (.slice b6 n6 m6)) (by kernel_rfl) ?_ (by as_aux_lemma => kernel_rfl) (fun NS hHeld => ?_)
        · (try dsimp only); exact HS.out _ OO.out.drew.1
        refine ph_take (i := 0) (v := ?_) NS rfl (by as_aux_lemma => kernel_rfl) (by as_aux_lemma => kernel_rfl) (fun _ _ _ h => h) (by rfl) ?_ (by assumption) ?_
        rotate_left
        · (intro w hSw; (try dsimp only at hSw); go_simp; try with_reducible rfl)
        try simp only [Act.put, List.setIfInBounds_toArray, List.set_cons_zero, List.set_cons_succ]
        refine ph_take (i := 1) (v := ?_) NS rfl (by as_aux_lemma => kernel_rfl) (by as_aux_lemma => kernel_rfl) (fun _ _ _ h => h) (by rfl) ?_ (by assumption) ?_
        rotate_left
        · (intro w hSw; (try dsimp only at hSw); go_simp; try with_reducible rfl)
        try simp only [Act.put, List.setIfInBounds_toArray, List.set_cons_zero, List.set_cons_succ]
        refine ph_take (i := 3) (v := ?_) NS rfl (by as_aux_lemma => kernel_rfl) (by as_aux_lemma => kernel_rfl) (fun _ _ _ h => h) (by rfl) ?_ (by assumption) ?_
        rotate_left
        · (intro w hSw; (try dsimp only at hSw); go_simp; try with_reducible rfl)
        try simp only [Act.put, List.setIfInBounds_toArray, List.set_cons_zero, List.set_cons_succ]
        refine ph_take (i := 4) (v := ?_) NS rfl (by as_aux_lemma => kernel_rfl) (by as_aux_lemma => kernel_rfl) (fun _ _ _ h => h) (by rfl) ?_ (by assumption) ?_
        rotate_left
        · (intro w hSw; (try dsimp only at hSw); go_simp; try with_reducible rfl)
        try simp only [Act.put, List.setIfInBounds_toArray, List.set_cons_zero, List.set_cons_succ]
        refine ph_take (i := 6) (v := ?_) NS rfl (by as_aux_lemma => kernel_rfl) (by as_aux_lemma => kernel_rfl) (fun _ _ _ h => h) (by rfl) ?_ (by assumption) ?_
        rotate_left
        · (intro w hSw; (try dsimp only at hSw); go_simp; try with_reducible rfl)
        try simp only [Act.put, List.setIfInBounds_toArray, List.set_cons_zero, List.set_cons_succ]
        refine ph_take (i := 7) (v := ?_) NS rfl (by as_aux_lemma => kernel_rfl) (by as_aux_lemma => kernel_rfl) (fun _ _ _ h => h) (by rfl) ?_ (by assumption) ?_
        rotate_left
        · (intro w hSw; (try dsimp only at hSw); go_simp; try with_reducible rfl)
        try simp only [Act.put, List.setIfInBounds_toArray, List.set_cons_zero, List.set_cons_succ]
        refine ph_take (i := 9) (v := ?_) NS rfl (by as_aux_lemma => kernel_rfl) (by as_aux_lemma => kernel_rfl) (fun _ _ _ h => h) (by rfl) ?_ (by assumption) ?_
        rotate_left
        · (intro w hSw; (try dsimp only at hSw); go_simp; try with_reducible rfl)
        try simp only [Act.put, List.setIfInBounds_toArray, List.set_cons_zero, List.set_cons_succ]
        refine ph_take (i := 10) (v := ?_) NS rfl (by as_aux_lemma => kernel_rfl) (by as_aux_lemma => kernel_rfl) (fun _ _ _ h => h) (by rfl) ?_ (by assumption) ?_
        rotate_left
        · (intro w hSw; (try dsimp only at hSw); go_simp; try with_reducible rfl)
        try simp only [Act.put, List.setIfInBounds_toArray, List.set_cons_zero, List.set_cons_succ]
        refine ph_take (i := 12) (v := ?_) NS rfl (by as_aux_lemma => kernel_rfl) (by as_aux_lemma => kernel_rfl) (fun _ _ _ h => h) (by rfl) ?_ (by assumption) ?_
        rotate_left
        · (intro w hSw; (try dsimp only at hSw); go_simp; try with_reducible rfl)
        try simp only [Act.put, List.setIfInBounds_toArray, List.set_cons_zero, List.set_cons_succ]
        refine ph_take (i := 13) (v := ?_) NS rfl (by as_aux_lemma => kernel_rfl) (by as_aux_lemma => kernel_rfl) (fun _ _ _ h => h) (by rfl) ?_ (by assumption) ?_
        rotate_left
        · (intro w hSw; (try dsimp only at hSw); go_simp; try with_reducible rfl)
        try simp only [Act.put, List.setIfInBounds_toArray, List.set_cons_zero, List.set_cons_succ]
        refine ph_take (i := 15) (v := ?_) NS rfl (by as_aux_lemma => kernel_rfl) (by as_aux_lemma => kernel_rfl) (fun _ _ _ h => h) (by rfl) ?_ (by assumption) ?_
        rotate_left
        · (intro w hSw; (try dsimp only at hSw); go_simp; try with_reducible rfl)
        try simp only [Act.put, List.setIfInBounds_toArray, List.set_cons_zero, List.set_cons_succ]
        refine ph_take (i := 16) (v := ?_) NS rfl (by as_aux_lemma => kernel_rfl) (by as_aux_lemma => kernel_rfl) (fun _ _ _ h => h) (by rfl) ?_ (by assumption) ?_
        rotate_left
        · (intro w hSw; (try dsimp only at hSw); go_simp; try with_reducible rfl)
        try simp only [Act.put, List.setIfInBounds_toArray, List.set_cons_zero, List.set_cons_succ]
        refine ph_take (i := 18) (v := ?_) NS rfl (by as_aux_lemma => kernel_rfl) (by as_aux_lemma => kernel_rfl) (fun _ _ _ h => h) (by rfl) ?_ (by assumption) ?_
        rotate_left
        · (intro w hSw; (try dsimp only at hSw); go_simp; try with_reducible rfl)
        try simp only [Act.put, List.setIfInBounds_toArray, List.set_cons_zero, List.set_cons_succ]
        refine ph_take (i := 19) (v := ?_) NS rfl (by as_aux_lemma => kernel_rfl) (by as_aux_lemma => kernel_rfl) (fun _ _ _ h => h) (by rfl) ?_ (by assumption) ?_
        rotate_left
        · (intro w hSw; (try dsimp only at hSw); go_simp; try with_reducible rfl)
        try simp only [Act.put, List.setIfInBounds_toArray, List.set_cons_zero, List.set_cons_succ]
        refine ph_two (i := 2) (j := 26) rfl rfl (by as_aux_lemma => kernel_rfl) (by rfl) (by rfl) (fun KK hK => ?_) (fun KK hK => ?_)
        · skip
          (go_simp; go_at_call 34; (with_reducible refine (M0.out X HX.out _ _ _ (by first | with_reducible exact OO.out | with_reducible exact OO.out.drew)).mono ?_); rintro e Y0 ⟨A0, k0, rfl, O0⟩; have OO := O0)
          refine hK.out _ _ ?_ (fun hHeld => ?_)
          · (try dsimp only); exact HS.out _ OO.out.1
          clear hK KK
          try simp only [Act.put, List.setIfInBounds_toArray, List.set_cons_zero, List.set_cons_succ]
          refine ph_two (i := 5) (j := 26) rfl rfl (by as_aux_lemma => kernel_rfl) (by rfl) (by rfl) (fun KK hK => ?_) (fun KK hK => ?_)
          · skip
            (go_simp; go_at_call 34; (with_reducible refine (M1.out X HX.out _ _ _ (by first | with_reducible exact OO.out | with_reducible exact OO.out.drew)).mono ?_); rintro e Y1 ⟨A1, k1, rfl, O1⟩; have OO := O1)
            refine hK.out _ _ ?_ (fun hHeld => ?_)
            · (try dsimp only); exact HS.out _ OO.out.1
            clear hK KK
            try simp only [Act.put, List.setIfInBounds_toArray, List.set_cons_zero, List.set_cons_succ]
            refine ph_two (i := 8) (j := 26) rfl rfl (by as_aux_lemma => kernel_rfl) (by rfl) (by rfl) (fun KK hK => ?_) (fun KK hK => ?_)
            · skip
              (go_simp; go_at_call 34; (with_reducible refine (M2.out X HX.out _ _ _ (by first | with_reducible exact OO.out | with_reducible exact OO.out.drew)).mono ?_); rintro e Y2 ⟨A2, k2, rfl, O2⟩; have OO := O2)
              refine hK.out _ _ ?_ (fun hHeld => ?_)
              · (try dsimp only); exact HS.out _ OO.out.1
              clear hK KK
              try simp only [Act.put, List.setIfInBounds_toArray, List.set_cons_zero, List.set_cons_succ]
              refine ph_two (i := 11) (j := 26) rfl rfl (by as_aux_lemma => kernel_rfl) (by rfl) (by rfl) (fun KK hK => ?_) (fun KK hK => ?_)
              · skip
                (go_simp; go_at_call 34; (with_reducible refine (M3.out X HX.out _ _ _ (by first | with_reducible exact OO.out | with_reducible exact OO.out.drew)).mono ?_); rintro e Y3 ⟨A3, k3, rfl, O3⟩; have OO := O3)
                refine hK.out _ _ ?_ (fun hHeld => ?_)
                · (try dsimp only); exact HS.out _ OO.out.1
                clear hK KK
                try simp only [Act.put, List.setIfInBounds_toArray, List.set_cons_zero, List.set_cons_succ]
                refine ph_two (i := 14) (j := 26) rfl rfl (by as_aux_lemma => kernel_rfl) (by rfl) (by rfl) (fun KK hK => ?_) (fun KK hK => ?_)
                · skip
                  (go_simp; go_at_call 34; (with_reducible refine (M4.out X HX.out _ _ _ (by first | with_reducible exact OO.out | with_reducible exact OO.out.drew)).mono ?_); rintro e Y4 ⟨A4, k4, rfl, O4⟩; have OO := O4)
                  refine hK.out _ _ ?_ (fun hHeld => ?_)
                  · (try dsimp only); exact HS.out _ OO.out.1
                  clear hK KK
                  try simp only [Act.put, List.setIfInBounds_toArray, List.set_cons_zero, List.set_cons_succ]
                  refine ph_two (i := 17) (j := 26) rfl rfl (by as_aux_lemma => kernel_rfl) (by rfl) (by rfl) (fun KK hK => ?_) (fun KK hK => ?_)
                  · skip
                    (go_simp; go_at_call 34; (with_reducible refine (M5.out X HX.out _ _ _ (by first | with_reducible exact OO.out | with_reducible exact OO.out.drew)).mono ?_); rintro e Y5 ⟨A5, k5, rfl, O5⟩; have OO := O5)
                    refine hK.out _ _ ?_ (fun hHeld => ?_)
                    · (try dsimp only); exact HS.out _ OO.out.1
                    clear hK KK
                    try simp only [Act.put, List.setIfInBounds_toArray, List.set_cons_zero, List.set_cons_succ]
                    refine ph_two (i := 20) (j := 26) rfl rfl (by as_aux_lemma => kernel_rfl) (by rfl) (by rfl) (fun KK hK => ?_) (fun KK hK => ?_)
                    · skip
                      (go_simp; go_at_call 34; (with_reducible refine (M6.out X HX.out _ _ _ (by first | with_reducible exact OO.out | with_reducible exact OO.out.drew)).mono ?_); rintro e Y6 ⟨A6, k6, rfl, O6⟩; have OO := O6)
                      refine hK.out _ _ ?_ (fun hHeld => ?_)
                      · (try dsimp only); exact HS.out _ OO.out.1
                      clear hK KK
                      try simp only [Act.put, List.setIfInBounds_toArray, List.set_cons_zero, List.set_cons_succ]
                      refine ph_take (i := 21) (v := ?_) NS rfl (by as_aux_lemma => kernel_rfl) (by as_aux_lemma => kernel_rfl) (fun _ _ _ h => h) (by rfl) ?_ (by assumption) ?_
                      rotate_left
                      · (intro w hSw; (try dsimp only at hSw); go_simp; try with_reducible rfl)
                      try simp only [Act.put, List.setIfInBounds_toArray, List.set_cons_zero, List.set_cons_succ]
                      refine ph_two (i := 22) (j := 26) rfl rfl (by as_aux_lemma => kernel_rfl) (by rfl) (by rfl) (fun KK hK => ?_) (fun KK hK => ?_)
                      · skip
                        (go_simp; go_at_call 29; (with_reducible refine (E29.out X HX.out _ _ _ _ _ _ _ _ _ _ _ _ _ _ _ _ (by first | with_reducible exact OO.out | with_reducible exact OO.out.drew)).mono ?_); rintro e Y7 ⟨rfl, O7⟩; have OO := O7)
                        refine hK.out _ _ ?_ (fun hHeld => ?_)
                        · (try dsimp only); exact HS.out _ OO.out.1
                        clear hK KK
                        try simp only [Act.put, List.setIfInBounds_toArray, List.set_cons_zero, List.set_cons_succ]
                        refine ph_take (i := 23) (v := ?_) NS rfl (by as_aux_lemma => kernel_rfl) (by as_aux_lemma => kernel_rfl) (fun _ _ _ h => h) (by rfl) ?_ (by assumption) ?_
                        rotate_left
                        · (intro w hSw; (try dsimp only at hSw); go_simp; try with_reducible rfl)
                        try simp only [Act.put, List.setIfInBounds_toArray, List.set_cons_zero, List.set_cons_succ]
                        refine ph_take (i := 24) (v := ?_) NS rfl (by as_aux_lemma => kernel_rfl) (by as_aux_lemma => kernel_rfl) (fun _ _ _ h => h) (by rfl) ?_ (by assumption) ?_
                        rotate_left
                        · (intro w hSw; (try dsimp only at hSw); go_simp; try with_reducible rfl)
                        try simp only [Act.put, List.setIfInBounds_toArray, List.set_cons_zero, List.set_cons_succ]
                        refine ph_take (i := 25) (v := ?_) NS rfl (by as_aux_lemma => kernel_rfl) (by as_aux_lemma => kernel_rfl) (fun _ _ _ h => h) (by rfl) ?_ (by assumption) ?_
                        rotate_left
                        · (intro w hSw; (try dsimp only at hSw); go_simp; try with_reducible rfl)
                        try simp only [Act.put, List.setIfInBounds_toArray, List.set_cons_zero, List.set_cons_succ]
                        refine ph_step (i := 26) rfl (by as_aux_lemma => kernel_rfl) (by rfl) (fun KK hK => ?_)
                        have O8 : Hid (OS X (some Y7.heap.size) [] (Y7.alloc (.cells #[.int .i64 0, .int .i64 0, .int .i64 0] 59)) ∧ True) := Lib.hid ⟨OO.out.box, trivial⟩
                        go_simp
                        obtain ⟨k8, hk8⟩ : ∃ z, Y7.heap.size = z := ⟨_, rfl⟩
                        obtain ⟨V8, hV8⟩ : ∃ z, Y7.alloc (.cells #[.int .i64 0, .int .i64 0, .int .i64 0] 59) = z := ⟨_, rfl⟩
                        rw [hk8] at O8 ⊢
                        rw [hV8] at O8 ⊢
                        clear hk8 hV8
                        have OO := Lib.hid O8.out.1
                        refine hK.out _ _ ?_ (fun hHeld => ?_)
                        · (try dsimp only); exact HS.out _ OO.out.1
                        clear hK KK
                        try simp only [Act.put, List.setIfInBounds_toArray, List.set_cons_zero, List.set_cons_succ]
                        refine ph_take (i := 27) (v := ?_) NS rfl (by as_aux_lemma => kernel_rfl) (by as_aux_lemma => kernel_rfl) (fun _ _ _ h => h) (by rfl) ?_ (by assumption) ?_
                        rotate_left
                        · (intro w hSw; (try dsimp only at hSw); go_simp; try with_reducible rfl)
                        try simp only [Act.put, List.setIfInBounds_toArray, List.set_cons_zero, List.set_cons_succ]
                        refine ph_step (i := 28) rfl (by as_aux_lemma => kernel_rfl) (by rfl) (fun KK hK => ?_)
                        obtain ⟨u1, u2, hz3⟩ := OO.out.2.1 _ rfl
                        have O9 := Lib.hid (And.intro (zr3_new (.int .i64 vf) (.int .i64 vl) (.int .i64 ve) u1 OO.out.1) (zr3_put hz3 vf vl ve))
                        obtain ⟨z0, z1, z2, zf⟩ := hz3
                        have f0 := zf 0
                        have f1 := zf 1
                        have f2 := zf 2
                        go_simp
                        refine hK.out _ _ ?_ (fun hHeld => ?_)
                        · (try dsimp only); exact HS.out _ O9.out.1
                        clear hK KK
                        try simp only [Act.put, List.setIfInBounds_toArray, List.set_cons_zero, List.set_cons_succ]
                        refine wpAnyH_done (by as_aux_lemma => kernel_rfl) ?_ _
                        go_wp2_with fail
                        go_meet
                        exact ⟨k8, rfl, rfl, Lib.hid O9.out.1, O9.out.2⟩
                      · skip
                        go_simp
                        have OO : Hid (OS X (some Y6.heap.size) _ (Y6.alloc (.cells #[.int .i64 0, .int .i64 0, .int .i64 0] 59))) := Lib.hid (OO.out.box)
                        obtain ⟨k8, hk8⟩ : ∃ z, Y6.heap.size = z := ⟨_, rfl⟩
                        obtain ⟨V8, hV8⟩ : ∃ z, Y6.alloc (.cells #[.int .i64 0, .int .i64 0, .int .i64 0] 59) = z := ⟨_, rfl⟩
                        rw [hk8] at OO ⊢
                        rw [hV8] at OO ⊢
                        clear hk8 hV8
                        refine hK.out _ _ ?_ (fun hHeld => ?_)
                        · (try dsimp only); exact HS.out _ OO.out.1
                        clear hK KK
                        try simp only [Act.put, List.setIfInBounds_toArray, List.set_cons_zero, List.set_cons_succ]
                        refine ph_step (i := 22) rfl (by as_aux_lemma => kernel_rfl) (by rfl) (fun KK hK => ?_)
                        (go_simp; go_at_call 29; (with_reducible refine (E29.out X HX.out _ _ _ _ _ _ _ _ _ _ _ _ _ _ _ _ (by first | with_reducible exact OO.out | with_reducible exact OO.out.drew)).mono ?_); rintro e Y7 ⟨rfl, O7⟩; have OO := O7)
                        refine hK.out _ _ ?_ (fun hHeld => ?_)
                        · (try dsimp only); exact HS.out _ OO.out.1
                        clear hK KK
                        try simp only [Act.put, List.setIfInBounds_toArray, List.set_cons_zero, List.set_cons_succ]
                        refine ph_take (i := 23) (v := ?_) NS rfl (by as_aux_lemma => kernel_rfl) (by as_aux_lemma => kernel_rfl) (fun _ _ _ h => h) (by rfl) ?_ (by assumption) ?_
                        rotate_left
                        · (intro w hSw; (try dsimp only at hSw); go_simp; try with_reducible rfl)
                        try simp only [Act.put, List.setIfInBounds_toArray, List.set_cons_zero, List.set_cons_succ]
                        refine ph_take (i := 24) (v := ?_) NS rfl (by as_aux_lemma => kernel_rfl) (by as_aux_lemma => kernel_rfl) (fun _ _ _ h => h) (by rfl) ?_ (by assumption) ?_
                        rotate_left
                        · (intro w hSw; (try dsimp only at hSw); go_simp; try with_reducible rfl)
                        try simp only [Act.put, List.setIfInBounds_toArray, List.set_cons_zero, List.set_cons_succ]
                        refine ph_take (i := 25) (v := ?_) NS rfl (by as_aux_lemma => kernel_rfl) (by as_aux_lemma => kernel_rfl) (fun _ _ _ h => h) (by rfl) ?_ (by assumption) ?_
                        rotate_left
                        · (intro w hSw; (try dsimp only at hSw); go_simp; try with_reducible rfl)
                        try simp only [Act.put, List.setIfInBounds_toArray, List.set_cons_zero, List.set_cons_succ]
                        refine ph_take (i := 27) (v := ?_) NS rfl (by as_aux_lemma => kernel_rfl) (by as_aux_lemma => kernel_rfl) (fun _ _ _ h => h) (by rfl) ?_ (by assumption) ?_
                        rotate_left
                        · (intro w hSw; (try dsimp only at hSw); go_simp; try with_reducible rfl)
                        try simp only [Act.put, List.setIfInBounds_toArray, List.set_cons_zero, List.set_cons_succ]
                        refine ph_step (i := 28) rfl (by as_aux_lemma => kernel_rfl) (by rfl) (fun KK hK => ?_)
                        obtain ⟨u1, u2, hz3⟩ := OO.out.2.1 _ rfl
                        have O9 := Lib.hid (And.intro (zr3_new (.int .i64 vf) (.int .i64 vl) (.int .i64 ve) u1 OO.out.1) (zr3_put hz3 vf vl ve))
                        obtain ⟨z0, z1, z2, zf⟩ := hz3
                        have f0 := zf 0
                        have f1 := zf 1
                        have f2 := zf 2
                        go_simp
                        refine hK.out _ _ ?_ (fun hHeld => ?_)
                        · (try dsimp only); exact HS.out _ O9.out.1
                        clear hK KK
                        try simp only [Act.put, List.setIfInBounds_toArray, List.set_cons_zero, List.set_cons_succ]
                        refine wpAnyH_done (by as_aux_lemma => kernel_rfl) ?_ _
                        go_wp2_with fail
                        go_meet
                        exact ⟨k8, rfl, rfl, Lib.hid O9.out.1, O9.out.2⟩
                    · skip
                      go_simp
                      have OO : Hid (OS X (some Y5.heap.size) _ (Y5.alloc (.cells #[.int .i64 0, .int .i64 0, .int .i64 0] 59))) := Lib.hid (OO.out.box)
                      obtain ⟨k8, hk8⟩ : ∃ z, Y5.heap.size = z := ⟨_, rfl⟩
                      obtain ⟨V8, hV8⟩ : ∃ z, Y5.alloc (.cells #[.int .i64 0, .int .i64 0, .int .i64 0] 59) = z := ⟨_, rfl⟩
                      rw [hk8] at OO ⊢
                      rw [hV8] at OO ⊢
                      clear hk8 hV8
                      refine hK.out _ _ ?_ (fun hHeld => ?_)
                      · (try dsimp only); exact HS.out _ OO.out.1
                      clear hK KK
                      try simp only [Act.put, List.setIfInBounds_toArray, List.set_cons_zero, List.set_cons_succ]
                      refine ph_step (i := 20) rfl (by as_aux_lemma => kernel_rfl) (by rfl) (fun KK hK => ?_)
                      (go_simp; go_at_call 34; (with_reducible refine (M6.out X HX.out _ _ _ (by first | with_reducible exact OO.out | with_reducible exact OO.out.drew)).mono ?_); rintro e Y6 ⟨A6, k6, rfl, O6⟩; have OO := O6)
                      refine hK.out _ _ ?_ (fun hHeld => ?_)
                      · (try dsimp only); exact HS.out _ OO.out.1
                      clear hK KK
                      try simp only [Act.put, List.setIfInBounds_toArray, List.set_cons_zero, List.set_cons_succ]
                      refine ph_take (i := 21) (v := ?_) NS rfl (by as_aux_lemma => kernel_rfl) (by as_aux_lemma => kernel_rfl) (fun _ _ _ h => h) (by rfl) ?_ (by assumption) ?_
                      rotate_left
                      · (intro w hSw; (try dsimp only at hSw); go_simp; try with_reducible rfl)
                      try simp only [Act.put, List.setIfInBounds_toArray, List.set_cons_zero, List.set_cons_succ]
                      refine ph_step (i := 22) rfl (by as_aux_lemma => kernel_rfl) (by rfl) (fun KK hK => ?_)
                      (go_simp; go_at_call 29; (with_reducible refine (E29.out X HX.out _ _ _ _ _ _ _ _ _ _ _ _ _ _ _ _ (by first | with_reducible exact OO.out | with_reducible exact OO.out.drew)).mono ?_); rintro e Y7 ⟨rfl, O7⟩; have OO := O7)
                      refine hK.out _ _ ?_ (fun hHeld => ?_)
                      · (try dsimp only); exact HS.out _ OO.out.1
                      clear hK KK
                      try simp only [Act.put, List.setIfInBounds_toArray, List.set_cons_zero, List.set_cons_succ]
                      refine ph_take (i := 23) (v := ?_) NS rfl (by as_aux_lemma => kernel_rfl) (by as_aux_lemma => kernel_rfl) (fun _ _ _ h => h) (by rfl) ?_ (by assumption) ?_
                      rotate_left
                      · (intro w hSw; (try dsimp only at hSw); go_simp; try with_reducible rfl)
                      try simp only [Act.put, List.setIfInBounds_toArray, List.set_cons_zero, List.set_cons_succ]
                      refine ph_take (i := 24) (v := ?_) NS rfl (by as_aux_lemma => kernel_rfl) (by as_aux_lemma => kernel_rfl) (fun _ _ _ h => h) (by rfl) ?_ (by assumption) ?_
                      rotate_left
                      · (intro w hSw; (try dsimp only at hSw); go_simp; try with_reducible rfl)
                      try simp only [Act.put, List.setIfInBounds_toArray, List.set_cons_zero, List.set_cons_succ]
                      refine ph_take (i := 25) (v := ?_) NS rfl (by as_aux_lemma => kernel_rfl) (by as_aux_lemma => kernel_rfl) (fun _ _ _ h => h) (by rfl) ?_ (by assumption) ?_
                      rotate_left
                      · (intro w hSw; (try dsimp only at hSw); go_simp; try with_reducible rfl)
                      try simp only [Act.put, List.setIfInBounds_toArray, List.set_cons_zero, List.set_cons_succ]
                      refine ph_take (i := 27) (v := ?_) NS rfl (by as_aux_lemma => kernel_rfl) (by as_aux_lemma => kernel_rfl) (fun _ _ _ h => h) (by rfl) ?_ (by assumption) ?_
                      rotate_left
                      · (intro w hSw; (try dsimp only at hSw); go_simp; try with_reducible rfl)
                      try simp only [Act.put, List.setIfInBounds_toArray, List.set_cons_zero, List.set_cons_succ]
                      refine ph_step (i := 28) rfl (by as_aux_lemma => kernel_rfl) (by rfl) (fun KK hK => ?_)
                      obtain ⟨u1, u2, hz3⟩ := OO.out.2.1 _ rfl
                      have O9 := Lib.hid (And.intro (zr3_new (.int .i64 vf) (.int .i64 vl) (.int .i64 ve) u1 OO.out.1) (zr3_put hz3 vf vl ve))
                      obtain ⟨z0, z1, z2, zf⟩ := hz3
                      have f0 := zf 0
                      have f1 := zf 1
                      have f2 := zf 2
                      go_simp
                      refine hK.out _ _ ?_ (fun hHeld => ?_)
                      · (try dsimp only); exact HS.out _ O9.out.1
                      clear hK KK
                      try simp only [Act.put, List.setIfInBounds_toArray, List.set_cons_zero, List.set_cons_succ]
                      refine wpAnyH_done (by as_aux_lemma => kernel_rfl) ?_ _
                      go_wp2_with fail
                      go_meet
                      exact ⟨k8, rfl, rfl, Lib.hid O9.out.1, O9.out.2⟩
                  · skip
                    go_simp
                    have OO : Hid (OS X (some Y4.heap.size) _ (Y4.alloc (.cells #[.int .i64 0, .int .i64 0, .int .i64 0] 59))) := Lib.hid (OO.out.box)
                    obtain ⟨k8, hk8⟩ : ∃ z, Y4.heap.size = z := ⟨_, rfl⟩
                    obtain ⟨V8, hV8⟩ : ∃ z, Y4.alloc (.cells #[.int .i64 0, .int .i64 0, .int .i64 0] 59) = z := ⟨_, rfl⟩
                    rw [hk8] at OO ⊢
                    rw [hV8] at OO ⊢
                    clear hk8 hV8
                    refine hK.out _ _ ?_ (fun hHeld => ?_)
                    · (try dsimp only); exact HS.out _ OO.out.1
                    clear hK KK
                    try simp only [Act.put, List.setIfInBounds_toArray, List.set_cons_zero, List.set_cons_succ]
                    refine ph_step (i := 17) rfl (by as_aux_lemma => kernel_rfl) (by rfl) (fun KK hK => ?_)
                    (go_simp; go_at_call 34; (with_reducible refine (M5.out X HX.out _ _ _ (by first | with_reducible exact OO.out | with_reducible exact OO.out.drew)).mono ?_); rintro e Y5 ⟨A5, k5, rfl, O5⟩; have OO := O5)
                    refine hK.out _ _ ?_ (fun hHeld => ?_)
                    · (try dsimp only); exact HS.out _ OO.out.1
                    clear hK KK
                    try simp only [Act.put, List.setIfInBounds_toArray, List.set_cons_zero, List.set_cons_succ]
                    refine ph_step (i := 20) rfl (by as_aux_lemma => kernel_rfl) (by rfl) (fun KK hK => ?_)
                    (go_simp; go_at_call 34; (with_reducible refine (M6.out X HX.out _ _ _ (by first | with_reducible exact OO.out | with_reducible exact OO.out.drew)).mono ?_); rintro e Y6 ⟨A6, k6, rfl, O6⟩; have OO := O6)
                    refine hK.out _ _ ?_ (fun hHeld => ?_)
                    · (try dsimp only); exact HS.out _ OO.out.1
                    clear hK KK
                    try simp only [Act.put, List.setIfInBounds_toArray, List.set_cons_zero, List.set_cons_succ]
                    refine ph_take (i := 21) (v := ?_) NS rfl (by as_aux_lemma => kernel_rfl) (by as_aux_lemma => kernel_rfl) (fun _ _ _ h => h) (by rfl) ?_ (by assumption) ?_
                    rotate_left
                    · (intro w hSw; (try dsimp only at hSw); go_simp; try with_reducible rfl)
                    try simp only [Act.put, List.setIfInBounds_toArray, List.set_cons_zero, List.set_cons_succ]
                    refine ph_step (i := 22) rfl (by as_aux_lemma => kernel_rfl) (by rfl) (fun KK hK => ?_)
                    (go_simp; go_at_call 29; (with_reducible refine (E29.out X HX.out _ _ _ _ _ _ _ _ _ _ _ _ _ _ _ _ (by first | with_reducible exact OO.out | with_reducible exact OO.out.drew)).mono ?_); rintro e Y7 ⟨rfl, O7⟩; have OO := O7)
                    refine hK.out _ _ ?_ (fun hHeld => ?_)
                    · (try dsimp only); exact HS.out _ OO.out.1
                    clear hK KK
                    try simp only [Act.put, List.setIfInBounds_toArray, List.set_cons_zero, List.set_cons_succ]
                    refine ph_take (i := 23) (v := ?_) NS rfl (by as_aux_lemma => kernel_rfl) (by as_aux_lemma => kernel_rfl) (fun _ _ _ h => h) (by rfl) ?_ (by assumption) ?_
                    rotate_left
                    · (intro w hSw; (try dsimp only at hSw); go_simp; try with_reducible rfl)
                    try simp only [Act.put, List.setIfInBounds_toArray, List.set_cons_zero, List.set_cons_succ]
                    refine ph_take (i := 24) (v := ?_) NS rfl (by as_aux_lemma => kernel_rfl) (by as_aux_lemma => kernel_rfl) (fun _ _ _ h => h) (by rfl) ?_ (by assumption) ?_
                    rotate_left
                    · (intro w hSw; (try dsimp only at hSw); go_simp; try with_reducible rfl)
                    try simp only [Act.put, List.setIfInBounds_toArray, List.set_cons_zero, List.set_cons_succ]
                    refine ph_take (i := 25) (v := ?_) NS rfl (by as_aux_lemma => kernel_rfl) (by as_aux_lemma => kernel_rfl) (fun _ _ _ h => h) (by rfl) ?_ (by assumption) ?_
                    rotate_left
                    · (intro w hSw; (try dsimp only at hSw); go_simp; try with_reducible rfl)
                    try simp only [Act.put, List.setIfInBounds_toArray, List.set_cons_zero, List.set_cons_succ]
                    refine ph_take (i := 27) (v := ?_) NS rfl (by as_aux_lemma => kernel_rfl) (by as_aux_lemma => kernel_rfl) (fun _ _ _ h => h) (by rfl) ?_ (by assumption) ?_
                    rotate_left
                    · (intro w hSw; (try dsimp only at hSw); go_simp; try with_reducible rfl)
                    try simp only [Act.put, List.setIfInBounds_toArray, List.set_cons_zero, List.set_cons_succ]
                    refine ph_step (i := 28) rfl (by as_aux_lemma => kernel_rfl) (by rfl) (fun KK hK => ?_)
                    obtain ⟨u1, u2, hz3⟩ := OO.out.2.1 _ rfl
                    have O9 := Lib.hid (And.intro (zr3_new (.int .i64 vf) (.int .i64 vl) (.int .i64 ve) u1 OO.out.1) (zr3_put hz3 vf vl ve))
                    obtain ⟨z0, z1, z2, zf⟩ := hz3
                    have f0 := zf 0
                    have f1 := zf 1
                    have f2 := zf 2
                    go_simp
                    refine hK.out _ _ ?_ (fun hHeld => ?_)
                    · (try dsimp only); exact HS.out _ O9.out.1
                    clear hK KK
                    try simp only [Act.put, List.setIfInBounds_toArray, List.set_cons_zero, List.set_cons_succ]
                    refine wpAnyH_done (by as_aux_lemma => kernel_rfl) ?_ _
                    go_wp2_with fail
                    go_meet
                    exact ⟨k8, rfl, rfl, Lib.hid O9.out.1, O9.out.2⟩
                · skip
                  go_simp
                  have OO : Hid (OS X (some Y3.heap.size) _ (Y3.alloc (.cells #[.int .i64 0, .int .i64 0, .int .i64 0] 59))) := Lib.hid (OO.out.box)
                  obtain ⟨k8, hk8⟩ : ∃ z, Y3.heap.size = z := ⟨_, rfl⟩
                  obtain ⟨V8, hV8⟩ : ∃ z, Y3.alloc (.cells #[.int .i64 0, .int .i64 0, .int .i64 0] 59) = z := ⟨_, rfl⟩
                  rw [hk8] at OO ⊢
                  rw [hV8] at OO ⊢
                  clear hk8 hV8
                  refine hK.out _ _ ?_ (fun hHeld => ?_)
                  · (try dsimp only); exact HS.out _ OO.out.1
                  clear hK KK
                  try simp only [Act.put, List.setIfInBounds_toArray, List.set_cons_zero, List.set_cons_succ]
                  refine ph_step (i := 14) rfl (by as_aux_lemma => kernel_rfl) (by rfl) (fun KK hK => ?_)
                  (go_simp; go_at_call 34; (with_reducible refine (M4.out X HX.out _ _ _ (by first | with_reducible exact OO.out | with_reducible exact OO.out.drew)).mono ?_); rintro e Y4 ⟨A4, k4, rfl, O4⟩; have OO := O4)
                  refine hK.out _ _ ?_ (fun hHeld => ?_)
                  · (try dsimp only); exact HS.out _ OO.out.1
                  clear hK KK
                  try simp only [Act.put, List.setIfInBounds_toArray, List.set_cons_zero, List.set_cons_succ]
                  refine ph_step (i := 17) rfl (by as_aux_lemma => kernel_rfl) (by rfl) (fun KK hK => ?_)
                  (go_simp; go_at_call 34; (with_reducible refine (M5.out X HX.out _ _ _ (by first | with_reducible exact OO.out | with_reducible exact OO.out.drew)).mono ?_); rintro e Y5 ⟨A5, k5, rfl, O5⟩; have OO := O5)
                  refine hK.out _ _ ?_ (fun hHeld => ?_)
                  · (try dsimp only); exact HS.out _ OO.out.1
                  clear hK KK
                  try simp only [Act.put, List.setIfInBounds_toArray, List.set_cons_zero, List.set_cons_succ]
                  refine ph_step (i := 20) rfl (by as_aux_lemma => kernel_rfl) (by rfl) (fun KK hK => ?_)
                  (go_simp; go_at_call 34; (with_reducible refine (M6.out X HX.out _ _ _ (by first | with_reducible exact OO.out | with_reducible exact OO.out.drew)).mono ?_); rintro e Y6 ⟨A6, k6, rfl, O6⟩; have OO := O6)
                  refine hK.out _ _ ?_ (fun hHeld => ?_)
                  · (try dsimp only); exact HS.out _ OO.out.1
                  clear hK KK
                  try simp only [Act.put, List.setIfInBounds_toArray, List.set_cons_zero, List.set_cons_succ]
                  refine ph_take (i := 21) (v := ?_) NS rfl (by as_aux_lemma => kernel_rfl) (by as_aux_lemma => kernel_rfl) (fun _ _ _ h => h) (by rfl) ?_ (by assumption) ?_
                  rotate_left
                  · (intro w hSw; (try dsimp only at hSw); go_simp; try with_reducible rfl)
                  try simp only [Act.put, List.setIfInBounds_toArray, List.set_cons_zero, List.set_cons_succ]
                  refine ph_step (i := 22) rfl (by as_aux_lemma => kernel_rfl) (by rfl) (fun KK hK => ?_)
                  (go_simp; go_at_call 29; (with_reducible refine (E29.out X HX.out _ _ _ _ _ _ _ _ _ _ _ _ _ _ _ _ (by first | with_reducible exact OO.out | with_reducible exact OO.out.drew)).mono ?_); rintro e Y7 ⟨rfl, O7⟩; have OO := O7)
                  refine hK.out _ _ ?_ (fun hHeld => ?_)
                  · (try dsimp only); exact HS.out _ OO.out.1
                  clear hK KK
                  try simp only [Act.put, List.setIfInBounds_toArray, List.set_cons_zero, List.set_cons_succ]
                  refine ph_take (i := 23) (v := ?_) NS rfl (by as_aux_lemma => kernel_rfl) (by as_aux_lemma => kernel_rfl) (fun _ _ _ h => h) (by rfl) ?_ (by assumption) ?_
                  rotate_left
                  · (intro w hSw; (try dsimp only at hSw); go_simp; try with_reducible rfl)
                  try simp only [Act.put, List.setIfInBounds_toArray, List.set_cons_zero, List.set_cons_succ]
                  refine ph_take (i := 24) (v := ?_) NS rfl (by as_aux_lemma => kernel_rfl) (by as_aux_lemma => kernel_rfl) (fun _ _ _ h => h) (by rfl) ?_ (by assumption) ?_
                  rotate_left
                  · (intro w hSw; (try dsimp only at hSw); go_simp; try with_reducible rfl)
                  try simp only [Act.put, List.setIfInBounds_toArray, List.set_cons_zero, List.set_cons_succ]
                  refine ph_take (i := 25) (v := ?_) NS rfl (by as_aux_lemma => kernel_rfl) (by as_aux_lemma => kernel_rfl) (fun _ _ _ h => h) (by rfl) ?_ (by assumption) ?_
                  rotate_left
                  · (intro w hSw; (try dsimp only at hSw); go_simp; try with_reducible rfl)
                  try simp only [Act.put, List.setIfInBounds_toArray, List.set_cons_zero, List.set_cons_succ]
                  refine ph_take (i := 27) (v := ?_) NS rfl (by as_aux_lemma => kernel_rfl) (by as_aux_lemma => kernel_rfl) (fun _ _ _ h => h) (by rfl) ?_ (by assumption) ?_
                  rotate_left
                  · (intro w hSw; (try dsimp only at hSw); go_simp; try with_reducible rfl)
                  try simp only [Act.put, List.setIfInBounds_toArray, List.set_cons_zero, List.set_cons_succ]
                  refine ph_step (i := 28) rfl (by as_aux_lemma => kernel_rfl) (by rfl) (fun KK hK => ?_)
                  obtain ⟨u1, u2, hz3⟩ := OO.out.2.1 _ rfl
                  have O9 := Lib.hid (And.intro (zr3_new (.int .i64 vf) (.int .i64 vl) (.int .i64 ve) u1 OO.out.1) (zr3_put hz3 vf vl ve))
                  obtain ⟨z0, z1, z2, zf⟩ := hz3
                  have f0 := zf 0
                  have f1 := zf 1
                  have f2 := zf 2
                  go_simp
                  refine hK.out _ _ ?_ (fun hHeld => ?_)
                  · (try dsimp only); exact HS.out _ O9.out.1
                  clear hK KK
                  try simp only [Act.put, List.setIfInBounds_toArray, List.set_cons_zero, List.set_cons_succ]
                  refine wpAnyH_done (by as_aux_lemma => kernel_rfl) ?_ _
                  go_wp2_with fail
                  go_meet
                  exact ⟨k8, rfl, rfl, Lib.hid O9.out.1, O9.out.2⟩
              · skip
                go_simp
                have OO : Hid (OS X (some Y2.heap.size) _ (Y2.alloc (.cells #[.int .i64 0, .int .i64 0, .int .i64 0] 59))) := Lib.hid (OO.out.box)
                obtain ⟨k8, hk8⟩ : ∃ z, Y2.heap.size = z := ⟨_, rfl⟩
                obtain ⟨V8, hV8⟩ : ∃ z, Y2.alloc (.cells #[.int .i64 0, .int .i64 0, .int .i64 0] 59) = z := ⟨_, rfl⟩
                rw [hk8] at OO ⊢
                rw [hV8] at OO ⊢
                clear hk8 hV8
                refine hK.out _ _ ?_ (fun hHeld => ?_)
                · (try dsimp only); exact HS.out _ OO.out.1
                clear hK KK
                try simp only [Act.put, List.setIfInBounds_toArray, List.set_cons_zero, List.set_cons_succ]
                refine ph_step (i := 11) rfl (by as_aux_lemma => kernel_rfl) (by rfl) (fun KK hK => ?_)
                (go_simp; go_at_call 34; (with_reducible refine (M3.out X HX.out _ _ _ (by first | with_reducible exact OO.out | with_reducible exact OO.out.drew)).mono ?_); rintro e Y3 ⟨A3, k3, rfl, O3⟩; have OO := O3)
                refine hK.out _ _ ?_ (fun hHeld => ?_)
                · (try dsimp only); exact HS.out _ OO.out.1
                clear hK KK
                try simp only [Act.put, List.setIfInBounds_toArray, List.set_cons_zero, List.set_cons_succ]
                refine ph_step (i := 14) rfl (by as_aux_lemma => kernel_rfl) (by rfl) (fun KK hK => ?_)
                (go_simp; go_at_call 34; (with_reducible refine (M4.out X HX.out _ _ _ (by first | with_reducible exact OO.out | with_reducible exact OO.out.drew)).mono ?_); rintro e Y4 ⟨A4, k4, rfl, O4⟩; have OO := O4)
                refine hK.out _ _ ?_ (fun hHeld => ?_)
                · (try dsimp only); exact HS.out _ OO.out.1
                clear hK KK
                try simp only [Act.put, List.setIfInBounds_toArray, List.set_cons_zero, List.set_cons_succ]
                refine ph_step (i := 17) rfl (by as_aux_lemma => kernel_rfl) (by rfl) (fun KK hK => ?_)
                (go_simp; go_at_call 34; (with_reducible refine (M5.out X HX.out _ _ _ (by first | with_reducible exact OO.out | with_reducible exact OO.out.drew)).mono ?_); rintro e Y5 ⟨A5, k5, rfl, O5⟩; have OO := O5)
                refine hK.out _ _ ?_ (fun hHeld => ?_)
                · (try dsimp only); exact HS.out _ OO.out.1
                clear hK KK
                try simp only [Act.put, List.setIfInBounds_toArray, List.set_cons_zero, List.set_cons_succ]
                refine ph_step (i := 20) rfl (by as_aux_lemma => kernel_rfl) (by rfl) (fun KK hK => ?_)
                (go_simp; go_at_call 34; (with_reducible refine (M6.out X HX.out _ _ _ (by first | with_reducible exact OO.out | with_reducible exact OO.out.drew)).mono ?_); rintro e Y6 ⟨A6, k6, rfl, O6⟩; have OO := O6)
                refine hK.out _ _ ?_ (fun hHeld => ?_)
                · (try dsimp only); exact HS.out _ OO.out.1
                clear hK KK
                try simp only [Act.put, List.setIfInBounds_toArray, List.set_cons_zero, List.set_cons_succ]
                refine ph_take (i := 21) (v := ?_) NS rfl (by as_aux_lemma => kernel_rfl) (by as_aux_lemma => kernel_rfl) (fun _ _ _ h => h) (by rfl) ?_ (by assumption) ?_
                rotate_left
                · (intro w hSw; (try dsimp only at hSw); go_simp; try with_reducible rfl)
                try simp only [Act.put, List.setIfInBounds_toArray, List.set_cons_zero, List.set_cons_succ]
                refine ph_step (i := 22) rfl (by as_aux_lemma => kernel_rfl) (by rfl) (fun KK hK => ?_)
                (go_simp; go_at_call 29; (with_reducible refine (E29.out X HX.out _ _ _ _ _ _ _ _ _ _ _ _ _ _ _ _ (by first | with_reducible exact OO.out | with_reducible exact OO.out.drew)).mono ?_); rintro e Y7 ⟨rfl, O7⟩; have OO := O7)
                refine hK.out _ _ ?_ (fun hHeld => ?_)
                · (try dsimp only); exact HS.out _ OO.out.1
                clear hK KK
                try simp only [Act.put, List.setIfInBounds_toArray, List.set_cons_zero, List.set_cons_succ]
                refine ph_take (i := 23) (v := ?_) NS rfl (by as_aux_lemma => kernel_rfl) (by as_aux_lemma => kernel_rfl) (fun _ _ _ h => h) (by rfl) ?_ (by assumption) ?_
                rotate_left
                · (intro w hSw; (try dsimp only at hSw); go_simp; try with_reducible rfl)
                try simp only [Act.put, List.setIfInBounds_toArray, List.set_cons_zero, List.set_cons_succ]
                refine ph_take (i := 24) (v := ?_) NS rfl (by as_aux_lemma => kernel_rfl) (by as_aux_lemma => kernel_rfl) (fun _ _ _ h => h) (by rfl) ?_ (by assumption) ?_
                rotate_left
                · (intro w hSw; (try dsimp only at hSw); go_simp; try with_reducible rfl)
                try simp only [Act.put, List.setIfInBounds_toArray, List.set_cons_zero, List.set_cons_succ]
                refine ph_take (i := 25) (v := ?_) NS rfl (by as_aux_lemma => kernel_rfl) (by as_aux_lemma => kernel_rfl) (fun _ _ _ h => h) (by rfl) ?_ (by assumption) ?_
                rotate_left
                · (intro w hSw; (try dsimp only at hSw); go_simp; try with_reducible rfl)
                try simp only [Act.put, List.setIfInBounds_toArray, List.set_cons_zero, List.set_cons_succ]
                refine ph_take (i := 27) (v := ?_) NS rfl (by as_aux_lemma => kernel_rfl) (by as_aux_lemma => kernel_rfl) (fun _ _ _ h => h) (by rfl) ?_ (by assumption) ?_
                rotate_left
                · (intro w hSw; (try dsimp only at hSw); go_simp; try with_reducible rfl)
                try simp only [Act.put, List.setIfInBounds_toArray, List.set_cons_zero, List.set_cons_succ]
                refine ph_step (i := 28) rfl (by as_aux_lemma => kernel_rfl) (by rfl) (fun KK hK => ?_)
                obtain ⟨u1, u2, hz3⟩ := OO.out.2.1 _ rfl
                have O9 := Lib.hid (And.intro (zr3_new (.int .i64 vf) (.int .i64 vl) (.int .i64 ve) u1 OO.out.1) (zr3_put hz3 vf vl ve))
                obtain ⟨z0, z1, z2, zf⟩ := hz3
                have f0 := zf 0
                have f1 := zf 1
                have f2 := zf 2
                go_simp
                refine hK.out _ _ ?_ (fun hHeld => ?_)
                · (try dsimp only); exact HS.out _ O9.out.1
                clear hK KK
                try simp only [Act.put, List.setIfInBounds_toArray, List.set_cons_zero, List.set_cons_succ]
                refine wpAnyH_done (by as_aux_lemma => kernel_rfl) ?_ _
                go_wp2_with fail
                go_meet
                exact ⟨k8, rfl, rfl, Lib.hid O9.out.1, O9.out.2⟩
            · skip
              go_simp
              have OO : Hid (OS X (some Y1.heap.size) _ (Y1.alloc (.cells #[.int .i64 0, .int .i64 0, .int .i64 0] 59))) := Lib.hid (OO.out.box)
              obtain ⟨k8, hk8⟩ : ∃ z, Y1.heap.size = z := ⟨_, rfl⟩
              obtain ⟨V8, hV8⟩ : ∃ z, Y1.alloc (.cells #[.int .i64 0, .int .i64 0, .int .i64 0] 59) = z := ⟨_, rfl⟩
              rw [hk8] at OO ⊢
              rw [hV8] at OO ⊢
              clear hk8 hV8
              refine hK.out _ _ ?_ (fun hHeld => ?_)
              · (try dsimp only); exact HS.out _ OO.out.1
              clear hK KK
              try simp only [Act.put, List.setIfInBounds_toArray, List.set_cons_zero, List.set_cons_succ]
              refine ph_step (i := 8) rfl (by as_aux_lemma => kernel_rfl) (by rfl) (fun KK hK => ?_)
              (go_simp; go_at_call 34; (with_reducible refine (M2.out X HX.out _ _ _ (by first | with_reducible exact OO.out | with_reducible exact OO.out.drew)).mono ?_); rintro e Y2 ⟨A2, k2, rfl, O2⟩; have OO := O2)
              refine hK.out _ _ ?_ (fun hHeld => ?_)
              · (try dsimp only); exact HS.out _ OO.out.1
              clear hK KK
              try simp only [Act.put, List.setIfInBounds_toArray, List.set_cons_zero, List.set_cons_succ]
              refine ph_step (i := 11) rfl (by as_aux_lemma => kernel_rfl) (by rfl) (fun KK hK => ?_)
              (go_simp; go_at_call 34; (with_reducible refine (M3.out X HX.out _ _ _ (by first | with_reducible exact OO.out | with_reducible exact OO.out.drew)).mono ?_); rintro e Y3 ⟨A3, k3, rfl, O3⟩; have OO := O3)
              refine hK.out _ _ ?_ (fun hHeld => ?_)
              · (try dsimp only); exact HS.out _ OO.out.1
              clear hK KK
              try simp only [Act.put, List.setIfInBounds_toArray, List.set_cons_zero, List.set_cons_succ]
              refine ph_step (i := 14) rfl (by as_aux_lemma => kernel_rfl) (by rfl) (fun KK hK => ?_)
              (go_simp; go_at_call 34; (with_reducible refine (M4.out X HX.out _ _ _ (by first | with_reducible exact OO.out | with_reducible exact OO.out.drew)).mono ?_); rintro e Y4 ⟨A4, k4, rfl, O4⟩; have OO := O4)
              refine hK.out _ _ ?_ (fun hHeld => ?_)
              · (try dsimp only); exact HS.out _ OO.out.1
              clear hK KK
              try simp only [Act.put, List.setIfInBounds_toArray, List.set_cons_zero, List.set_cons_succ]
              refine ph_step (i := 17) rfl (by as_aux_lemma => kernel_rfl) (by rfl) (fun KK hK => ?_)
              (go_simp; go_at_call 34; (with_reducible refine (M5.out X HX.out _ _ _ (by first | with_reducible exact OO.out | with_reducible exact OO.out.drew)).mono ?_); rintro e Y5 ⟨A5, k5, rfl, O5⟩; have OO := O5)
              refine hK.out _ _ ?_ (fun hHeld => ?_)
              · (try dsimp only); exact HS.out _ OO.out.1
              clear hK KK
              try simp only [Act.put, List.setIfInBounds_toArray, List.set_cons_zero, List.set_cons_succ]
              refine ph_step (i := 20) rfl (by as_aux_lemma => kernel_rfl) (by rfl) (fun KK hK => ?_)
              (go_simp; go_at_call 34; (with_reducible refine (M6.out X HX.out _ _ _ (by first | with_reducible exact OO.out | with_reducible exact OO.out.drew)).mono ?_); rintro e Y6 ⟨A6, k6, rfl, O6⟩; have OO := O6)
              refine hK.out _ _ ?_ (fun hHeld => ?_)
              · (try dsimp only); exact HS.out _ OO.out.1
              clear hK KK
              try simp only [Act.put, List.setIfInBounds_toArray, List.set_cons_zero, List.set_cons_succ]
              refine ph_take (i := 21) (v := ?_) NS rfl (by as_aux_lemma => kernel_rfl) (by as_aux_lemma => kernel_rfl) (fun _ _ _ h => h) (by rfl) ?_ (by assumption) ?_
              rotate_left
              · (intro w hSw; (try dsimp only at hSw); go_simp; try with_reducible rfl)
              try simp only [Act.put, List.setIfInBounds_toArray, List.set_cons_zero, List.set_cons_succ]
              refine ph_step (i := 22) rfl (by as_aux_lemma => kernel_rfl) (by rfl) (fun KK hK => ?_)
              (go_simp; go_at_call 29; (with_reducible refine (E29.out X HX.out _ _ _ _ _ _ _ _ _ _ _ _ _ _ _ _ (by first | with_reducible exact OO.out | with_reducible exact OO.out.drew)).mono ?_); rintro e Y7 ⟨rfl, O7⟩; have OO := O7)
              refine hK.out _ _ ?_ (fun hHeld => ?_)
              · (try dsimp only); exact HS.out _ OO.out.1
              clear hK KK
              try simp only [Act.put, List.setIfInBounds_toArray, List.set_cons_zero, List.set_cons_succ]
              refine ph_take (i := 23) (v := ?_) NS rfl (by as_aux_lemma => kernel_rfl) (by as_aux_lemma => kernel_rfl) (fun _ _ _ h => h) (by rfl) ?_ (by assumption) ?_
              rotate_left
              · (intro w hSw; (try dsimp only at hSw); go_simp; try with_reducible rfl)
              try simp only [Act.put, List.setIfInBounds_toArray, List.set_cons_zero, List.set_cons_succ]
              refine ph_take (i := 24) (v := ?_) NS rfl (by as_aux_lemma => kernel_rfl) (by as_aux_lemma => kernel_rfl) (fun _ _ _ h => h) (by rfl) ?_ (by assumption) ?_
              rotate_left
              · (intro w hSw; (try dsimp only at hSw); go_simp; try with_reducible rfl)
              try simp only [Act.put, List.setIfInBounds_toArray, List.set_cons_zero, List.set_cons_succ]
              refine ph_take (i := 25) (v := ?_) NS rfl (by as_aux_lemma => kernel_rfl) (by as_aux_lemma => kernel_rfl) (fun _ _ _ h => h) (by rfl) ?_ (by assumption) ?_
              rotate_left
              · (intro w hSw; (try dsimp only at hSw); go_simp; try with_reducible rfl)
              try simp only [Act.put, List.setIfInBounds_toArray, List.set_cons_zero, List.set_cons_succ]
              refine ph_take (i := 27) (v := ?_) NS rfl (by as_aux_lemma => kernel_rfl) (by as_aux_lemma => kernel_rfl) (fun _ _ _ h => h) (by rfl) ?_ (by assumption) ?_
              rotate_left
              · (intro w hSw; (try dsimp only at hSw); go_simp; try with_reducible rfl)
              try simp only [Act.put, List.setIfInBounds_toArray, List.set_cons_zero, List.set_cons_succ]
              refine ph_step (i := 28) rfl (by as_aux_lemma => kernel_rfl) (by rfl) (fun KK hK => ?_)
              obtain ⟨u1, u2, hz3⟩ := OO.out.2.1 _ rfl
              have O9 := Lib.hid (And.intro (zr3_new (.int .i64 vf) (.int .i64 vl) (.int .i64 ve) u1 OO.out.1) (zr3_put hz3 vf vl ve))
              obtain ⟨z0, z1, z2, zf⟩ := hz3
              have f0 := zf 0
              have f1 := zf 1
              have f2 := zf 2
              go_simp
              refine hK.out _ _ ?_ (fun hHeld => ?_)
              · (try dsimp only); exact HS.out _ O9.out.1
              clear hK KK
              try simp only [Act.put, List.setIfInBounds_toArray, List.set_cons_zero, List.set_cons_succ]
              refine wpAnyH_done (by as_aux_lemma => kernel_rfl) ?_ _
              go_wp2_with fail
              go_meet
              exact ⟨k8, rfl, rfl, Lib.hid O9.out.1, O9.out.2⟩
          · skip
            go_simp
            have OO : Hid (OS X (some Y0.heap.size) _ (Y0.alloc (.cells #[.int .i64 0, .int .i64 0, .int .i64 0] 59))) := Lib.hid (OO.out.box)
            obtain ⟨k8, hk8⟩ : ∃ z, Y0.heap.size = z := ⟨_, rfl⟩
            obtain ⟨V8, hV8⟩ : ∃ z, Y0.alloc (.cells #[.int .i64 0, .int .i64 0, .int .i64 0] 59) = z := ⟨_, rfl⟩
            rw [hk8] at OO ⊢
            rw [hV8] at OO ⊢
            clear hk8 hV8
            refine hK.out _ _ ?_ (fun hHeld => ?_)
            · (try dsimp only); exact HS.out _ OO.out.1
            clear hK KK
            try simp only [Act.put, List.setIfInBounds_toArray, List.set_cons_zero, List.set_cons_succ]
            refine ph_step (i := 5) rfl (by as_aux_lemma => kernel_rfl) (by rfl) (fun KK hK => ?_)
            (go_simp; go_at_call 34; (with_reducible refine (M1.out X HX.out _ _ _ (by first | with_reducible exact OO.out | with_reducible exact OO.out.drew)).mono ?_); rintro e Y1 ⟨A1, k1, rfl, O1⟩; have OO := O1)
            refine hK.out _ _ ?_ (fun hHeld => ?_)
            · (try dsimp only); exact HS.out _ OO.out.1
            clear hK KK
            try simp only [Act.put, List.setIfInBounds_toArray, List.set_cons_zero, List.set_cons_succ]
            refine ph_step (i := 8) rfl (by as_aux_lemma => kernel_rfl) (by rfl) (fun KK hK => ?_)
            (go_simp; go_at_call 34; (with_reducible refine (M2.out X HX.out _ _ _ (by first | with_reducible exact OO.out | with_reducible exact OO.out.drew)).mono ?_); rintro e Y2 ⟨A2, k2, rfl, O2⟩; have OO := O2)
            refine hK.out _ _ ?_ (fun hHeld => ?_)
            · (try dsimp only); exact HS.out _ OO.out.1
            clear hK KK
            try simp only [Act.put, List.setIfInBounds_toArray, List.set_cons_zero, List.set_cons_succ]
            refine ph_step (i := 11) rfl (by as_aux_lemma => kernel_rfl) (by rfl) (fun KK hK => ?_)
            (go_simp; go_at_call 34; (with_reducible refine (M3.out X HX.out _ _ _ (by first | with_reducible exact OO.out | with_reducible exact OO.out.drew)).mono ?_); rintro e Y3 ⟨A3, k3, rfl, O3⟩; have OO := O3)
            refine hK.out _ _ ?_ (fun hHeld => ?_)
            · (try dsimp only); exact HS.out _ OO.out.1
            clear hK KK
            try simp only [Act.put, List.setIfInBounds_toArray, List.set_cons_zero, List.set_cons_succ]
            refine ph_step (i := 14) rfl (by as_aux_lemma => kernel_rfl) (by rfl) (fun KK hK => ?_)
            (go_simp; go_at_call 34; (with_reducible refine (M4.out X HX.out _ _ _ (by first | with_reducible exact OO.out | with_reducible exact OO.out.drew)).mono ?_); rintro e Y4 ⟨A4, k4, rfl, O4⟩; have OO := O4)
            refine hK.out _ _ ?_ (fun hHeld => ?_)
            · (try dsimp only); exact HS.out _ OO.out.1
            clear hK KK
            try simp only [Act.put, List.setIfInBounds_toArray, List.set_cons_zero, List.set_cons_succ]
            refine ph_step (i := 17) rfl (by as_aux_lemma => kernel_rfl) (by rfl) (fun KK hK => ?_)
            (go_simp; go_at_call 34; (with_reducible refine (M5.out X HX.out _ _ _ (by first | with_reducible exact OO.out | with_reducible exact OO.out.drew)).mono ?_); rintro e Y5 ⟨A5, k5, rfl, O5⟩; have OO := O5)
            refine hK.out _ _ ?_ (fun hHeld => ?_)
            · (try dsimp only); exact HS.out _ OO.out.1
            clear hK KK
            try simp only [Act.put, List.setIfInBounds_toArray, List.set_cons_zero, List.set_cons_succ]
            refine ph_step (i := 20) rfl (by as_aux_lemma => kernel_rfl) (by rfl) (fun KK hK => ?_)
            (go_simp; go_at_call 34; (with_reducible refine (M6.out X HX.out _ _ _ (by first | with_reducible exact OO.out | with_reducible exact OO.out.drew)).mono ?_); rintro e Y6 ⟨A6, k6, rfl, O6⟩; have OO := O6)
            refine hK.out _ _ ?_ (fun hHeld => ?_)
            · (try dsimp only); exact HS.out _ OO.out.1
            clear hK KK
            try simp only [Act.put, List.setIfInBounds_toArray, List.set_cons_zero, List.set_cons_succ]
            refine ph_take (i := 21) (v := ?_) NS rfl (by as_aux_lemma => kernel_rfl) (by as_aux_lemma => kernel_rfl) (fun _ _ _ h => h) (by rfl) ?_ (by assumption) ?_
            rotate_left
            · (intro w hSw; (try dsimp only at hSw); go_simp; try with_reducible rfl)
            try simp only [Act.put, List.setIfInBounds_toArray, List.set_cons_zero, List.set_cons_succ]
            refine ph_step (i := 22) rfl (by as_aux_lemma => kernel_rfl) (by rfl) (fun KK hK => ?_)
            (go_simp; go_at_call 29; (with_reducible refine (E29.out X HX.out _ _ _ _ _ _ _ _ _ _ _ _ _ _ _ _ (by first | with_reducible exact OO.out | with_reducible exact OO.out.drew)).mono ?_); rintro e Y7 ⟨rfl, O7⟩; have OO := O7)
            refine hK.out _ _ ?_ (fun hHeld => ?_)
            · (try dsimp only); exact HS.out _ OO.out.1
            clear hK KK
            try simp only [Act.put, List.setIfInBounds_toArray, List.set_cons_zero, List.set_cons_succ]
            refine ph_take (i := 23) (v := ?_) NS rfl (by as_aux_lemma => kernel_rfl) (by as_aux_lemma => kernel_rfl) (fun _ _ _ h => h) (by rfl) ?_ (by assumption) ?_
            rotate_left
            · (intro w hSw; (try dsimp only at hSw); go_simp; try with_reducible rfl)
            try simp only [Act.put, List.setIfInBounds_toArray, List.set_cons_zero, List.set_cons_succ]
            refine ph_take (i := 24) (v := ?_) NS rfl (by as_aux_lemma => kernel_rfl) (by as_aux_lemma => kernel_rfl) (fun _ _ _ h => h) (by rfl) ?_ (by assumption) ?_
            rotate_left
            · (intro w hSw; (try dsimp only at hSw); go_simp; try with_reducible rfl)
            try simp only [Act.put, List.setIfInBounds_toArray, List.set_cons_zero, List.set_cons_succ]
            refine ph_take (i := 25) (v := ?_) NS rfl (by as_aux_lemma => kernel_rfl) (by as_aux_lemma => kernel_rfl) (fun _ _ _ h => h) (by rfl) ?_ (by assumption) ?_
            rotate_left
            · (intro w hSw; (try dsimp only at hSw); go_simp; try with_reducible rfl)
            try simp only [Act.put, List.setIfInBounds_toArray, List.set_cons_zero, List.set_cons_succ]
            refine ph_take (i := 27) (v := ?_) NS rfl (by as_aux_lemma => kernel_rfl) (by as_aux_lemma => kernel_rfl) (fun _ _ _ h => h) (by rfl) ?_ (by assumption) ?_
            rotate_left
            · (intro w hSw; (try dsimp only at hSw); go_simp; try with_reducible rfl)
            try simp only [Act.put, List.setIfInBounds_toArray, List.set_cons_zero, List.set_cons_succ]
            refine ph_step (i := 28) rfl (by as_aux_lemma => kernel_rfl) (by rfl) (fun KK hK => ?_)
            obtain ⟨u1, u2, hz3⟩ := OO.out.2.1 _ rfl
            have O9 := Lib.hid (And.intro (zr3_new (.int .i64 vf) (.int .i64 vl) (.int .i64 ve) u1 OO.out.1) (zr3_put hz3 vf vl ve))
            obtain ⟨z0, z1, z2, zf⟩ := hz3
            have f0 := zf 0
            have f1 := zf 1
            have f2 := zf 2
            go_simp
            refine hK.out _ _ ?_ (fun hHeld => ?_)
            · (try dsimp only); exact HS.out _ O9.out.1
            clear hK KK
            try simp only [Act.put, List.setIfInBounds_toArray, List.set_cons_zero, List.set_cons_succ]
            refine wpAnyH_done (by as_aux_lemma => kernel_rfl) ?_ _
            go_wp2_with fail
            go_meet
            exact ⟨k8, rfl, rfl, Lib.hid O9.out.1, O9.out.2⟩
        · skip
          go_simp
          have OO : Hid (OS X (some X.heap.size) _ ((X.alloc (.cells #[.int .i64 0, .int .i64 0, .int .i64 0] 59)).drew)) := Lib.hid (OO.out.box.drew)
          obtain ⟨k8, hk8⟩ : ∃ z, X.heap.size = z := ⟨_, rfl⟩
          obtain ⟨V8, hV8⟩ : ∃ z, (X.alloc (.cells #[.int .i64 0, .int .i64 0, .int .i64 0] 59)).drew = z := ⟨_, rfl⟩
          rw [hk8] at OO ⊢
          rw [hV8] at OO ⊢
          clear hk8 hV8
          refine hK.out _ _ ?_ (fun hHeld => ?_)
          · (try dsimp only); exact HS.out _ OO.out.1
          clear hK KK
          try simp only [Act.put, List.setIfInBounds_toArray, List.set_cons_zero, List.set_cons_succ]
          refine ph_step (i := 2) rfl (by as_aux_lemma => kernel_rfl) (by rfl) (fun KK hK => ?_)
          (go_simp; go_at_call 34; (with_reducible refine (M0.out X HX.out _ _ _ (by first | with_reducible exact OO.out | with_reducible exact OO.out.drew)).mono ?_); rintro e Y0 ⟨A0, k0, rfl, O0⟩; have OO := O0)
          refine hK.out _ _ ?_ (fun hHeld => ?_)
          · (try dsimp only); exact HS.out _ OO.out.1
          clear hK KK
          try simp only [Act.put, List.setIfInBounds_toArray, List.set_cons_zero, List.set_cons_succ]
          refine ph_step (i := 5) rfl (by as_aux_lemma => kernel_rfl) (by rfl) (fun KK hK => ?_)
          (go_simp; go_at_call 34; (with_reducible refine (M1.out X HX.out _ _ _ (by first | with_reducible exact OO.out | with_reducible exact OO.out.drew)).mono ?_); rintro e Y1 ⟨A1, k1, rfl, O1⟩; have OO := O1)
          refine hK.out _ _ ?_ (fun hHeld => ?_)
          · (try dsimp only); exact HS.out _ OO.out.1
          clear hK KK
          try simp only [Act.put, List.setIfInBounds_toArray, List.set_cons_zero, List.set_cons_succ]
          refine ph_step (i := 8) rfl (by as_aux_lemma => kernel_rfl) (by rfl) (fun KK hK => ?_)
          (go_simp; go_at_call 34; (with_reducible refine (M2.out X HX.out _ _ _ (by first | with_reducible exact OO.out | with_reducible exact OO.out.drew)).mono ?_); rintro e Y2 ⟨A2, k2, rfl, O2⟩; have OO := O2)
          refine hK.out _ _ ?_ (fun hHeld => ?_)
          · (try dsimp only); exact HS.out _ OO.out.1
          clear hK KK
          try simp only [Act.put, List.setIfInBounds_toArray, List.set_cons_zero, List.set_cons_succ]
          refine ph_step (i := 11) rfl (by as_aux_lemma => kernel_rfl) (by rfl) (fun KK hK => ?_)
          (go_simp; go_at_call 34; (with_reducible refine (M3.out X HX.out _ _ _ (by first | with_reducible exact OO.out | with_reducible exact OO.out.drew)).mono ?_); rintro e Y3 ⟨A3, k3, rfl, O3⟩; have OO := O3)
          refine hK.out _ _ ?_ (fun hHeld => ?_)
          · (try dsimp only); exact HS.out _ OO.out.1
          clear hK KK
          try simp only [Act.put, List.setIfInBounds_toArray, List.set_cons_zero, List.set_cons_succ]
          refine ph_step (i := 14) rfl (by as_aux_lemma => kernel_rfl) (by rfl) (fun KK hK => ?_)
          (go_simp; go_at_call 34; (with_reducible refine (M4.out X HX.out _ _ _ (by first | with_reducible exact OO.out | with_reducible exact OO.out.drew)).mono ?_); rintro e Y4 ⟨A4, k4, rfl, O4⟩; have OO := O4)
          refine hK.out _ _ ?_ (fun hHeld => ?_)
          · (try dsimp only); exact HS.out _ OO.out.1
          clear hK KK
          try simp only [Act.put, List.setIfInBounds_toArray, List.set_cons_zero, List.set_cons_succ]
          refine ph_step (i := 17) rfl (by as_aux_lemma => kernel_rfl) (by rfl) (fun KK hK => ?_)
          (go_simp; go_at_call 34; (with_reducible refine (M5.out X HX.out _ _ _ (by first | with_reducible exact OO.out | with_reducible exact OO.out.drew)).mono ?_); rintro e Y5 ⟨A5, k5, rfl, O5⟩; have OO := O5)
          refine hK.out _ _ ?_ (fun hHeld => ?_)
          · (try dsimp only); exact HS.out _ OO.out.1
          clear hK KK
          try simp only [Act.put, List.setIfInBounds_toArray, List.set_cons_zero, List.set_cons_succ]
          refine ph_step (i := 20) rfl (by as_aux_lemma => kernel_rfl) (by rfl) (fun KK hK => ?_)
          (go_simp; go_at_call 34; (with_reducible refine (M6.out X HX.out _ _ _ (by first | with_reducible exact OO.out | with_reducible exact OO.out.drew)).mono ?_); rintro e Y6 ⟨A6, k6, rfl, O6⟩; have OO := O6)
          refine hK.out _ _ ?_ (fun hHeld => ?_)
          · (try dsimp only); exact HS.out _ OO.out.1
          clear hK KK
          try simp only [Act.put, List.setIfInBounds_toArray, List.set_cons_zero, List.set_cons_succ]
          refine ph_take (i := 21) (v := ?_) NS rfl (by as_aux_lemma => kernel_rfl) (by as_aux_lemma => kernel_rfl) (fun _ _ _ h => h) (by rfl) ?_ (by assumption) ?_
          rotate_left
          · (intro w hSw; (try dsimp only at hSw); go_simp; try with_reducible rfl)
          try simp only [Act.put, List.setIfInBounds_toArray, List.set_cons_zero, List.set_cons_succ]
          refine ph_step (i := 22) rfl (by as_aux_lemma => kernel_rfl) (by rfl) (fun KK hK => ?_)
          (go_simp; go_at_call 29; (with_reducible refine (E29.out X HX.out _ _ _ _ _ _ _ _ _ _ _ _ _ _ _ _ (by first | with_reducible exact OO.out | with_reducible exact OO.out.drew)).mono ?_); rintro e Y7 ⟨rfl, O7⟩; have OO := O7)
          refine hK.out _ _ ?_ (fun hHeld => ?_)
          · (try dsimp only); exact HS.out _ OO.out.1
          clear hK KK
          try simp only [Act.put, List.setIfInBounds_toArray, List.set_cons_zero, List.set_cons_succ]
          refine ph_take (i := 23) (v := ?_) NS rfl (by as_aux_lemma => kernel_rfl) (by as_aux_lemma => kernel_rfl) (fun _ _ _ h => h) (by rfl) ?_ (by assumption) ?_
          rotate_left
          · (intro w hSw; (try dsimp only at hSw); go_simp; try with_reducible rfl)
          try simp only [Act.put, List.setIfInBounds_toArray, List.set_cons_zero, List.set_cons_succ]
          refine ph_take (i := 24) (v := ?_) NS rfl (by as_aux_lemma => kernel_rfl) (by as_aux_lemma => kernel_rfl) (fun _ _ _ h => h) (by rfl) ?_ (by assumption) ?_
          rotate_left
          · (intro w hSw; (try dsimp only at hSw); go_simp; try with_reducible rfl)
          try simp only [Act.put, List.setIfInBounds_toArray, List.set_cons_zero, List.set_cons_succ]
          refine ph_take (i := 25) (v := ?_) NS rfl (by as_aux_lemma => kernel_rfl) (by as_aux_lemma => kernel_rfl) (fun _ _ _ h => h) (by rfl) ?_ (by assumption) ?_
          rotate_left
          · (intro w hSw; (try dsimp only at hSw); go_simp; try with_reducible rfl)
          try simp only [Act.put, List.setIfInBounds_toArray, List.set_cons_zero, List.set_cons_succ]
          refine ph_take (i := 27) (v := ?_) NS rfl (by as_aux_lemma => kernel_rfl) (by as_aux_lemma => kernel_rfl) (fun _ _ _ h => h) (by rfl) ?_ (by assumption) ?_
          rotate_left
          · (intro w hSw; (try dsimp only at hSw); go_simp; try with_reducible rfl)
          try simp only [Act.put, List.setIfInBounds_toArray, List.set_cons_zero, List.set_cons_succ]
          refine ph_step (i := 28) rfl (by as_aux_lemma => kernel_rfl) (by rfl) (fun KK hK => ?_)
          obtain ⟨u1, u2, hz3⟩ := OO.out.2.1 _ rfl
          have O9 := Lib.hid (And.intro (zr3_new (.int .i64 vf) (.int .i64 vl) (.int .i64 ve) u1 OO.out.1) (zr3_put hz3 vf vl ve))
          obtain ⟨z0, z1, z2, zf⟩ := hz3
          have f0 := zf 0
          have f1 := zf 1
          have f2 := zf 2
          go_simp
          refine hK.out _ _ ?_ (fun hHeld => ?_)
          · (try dsimp only); exact HS.out _ O9.out.1
          clear hK KK
          try simp only [Act.put, List.setIfInBounds_toArray, List.set_cons_zero, List.set_cons_succ]
          refine wpAnyH_done (by as_aux_lemma => kernel_rfl) ?_ _
          go_wp2_with fail
          go_meet
          exact ⟨k8, rfl, rfl, Lib.hid O9.out.1, O9.out.2⟩
      case rest =>
        obtain ⟨k8, rfl, rfl, hh, z80, z81, z82⟩ := hcut
        obtain ⟨Y, hY⟩ : ∃ z, wc = z := ⟨_, rfl⟩
        rw [hY] at hh z80 z81 z82 ⊢
        clear hY
        have z60 := (hh.out.cell (p := ⟨K6, 0, none⟩) HZ6.out.1).trans HZ6.out.2.1
        have z61 := (hh.out.cell (p := ⟨K6, 1, none⟩) HZ6.out.1).trans HZ6.out.2.2.1
        have z62 := (hh.out.cell (p := ⟨K6, 2, none⟩) HZ6.out.1).trans HZ6.out.2.2.2
        have HWY := Lib.hid (HX.out.trans (hh.out.mono HX.out.size))
        have E59 := fun W => ne59 vf vl ve W
        clear M0 M1 M2 M3 M4 M5 M6 E29 HS OO HZ6 HX hh H10
        go_wp2_with fail
        go_ret
        exact ⟨rfl, HWY.out⟩
    · have HW0 : (⟨vf, vl, ve⟩ : Wh) = ⟨0, 0, 0⟩ := by
        rcases hl' : loadOf f with ⟨x, _ | d'⟩
        · rw [hl] at hl'; injection hl' with _ h; cases h
        · exact load_zero hl
      rw [HW0] at hl
      clear HW0
      have D9 : Hid (∀ W, BnB w W (.slice b0 n0 m0) (.slice b1 n1 m1) (.slice b2 n2 m2) (.slice b3 n3 m3) (.slice b4 n4 m4) (.slice b5 n5 m5) (.slice b6 n6 m6) → Calls Tryz.prog 29 #[.agg #[.slice b0 n0 m0, .slice b1 n1 m1, .slice b2 n2 m2, .slice b3 n3 m3, .slice b4 n4 m4, .slice b5 n5 m5, .slice b6 n6 m6]] W fun e W' => ∃ b, e = .returned (.tuple #[.pointer (some ⟨b, 0, none⟩), .agg #[.int .i64 0, .int .i64 0, .int .i64 0]]) ∧ Hid (BnB w W' (.slice b0 n0 m0) (.slice b1 n1 m1) (.slice b2 n2 m2) (.slice b3 n3 m3) (.slice b4 n4 m4) (.slice b5 n5 m5) (.slice b6 n6 m6) ∧ PF W' b d.ps d.sp d.cf ∧ Szs d.ps d.sp)) := Lib.hid (fun W hW => (C9.out W hW).mono (by
        rintro e W' ⟨hw, -, ⟨d', b, h, rfl, h1, h2, h3⟩ | ⟨x, h, rfl⟩⟩
        · rw [hl] at h
          injection h with _ h
          injection h with h
          subst h
          exact ⟨b, rfl, Lib.hid ⟨hw, h1, h3⟩⟩
        · rw [hl] at h; injection h with _ h; cases h))
      have E29 : Hid (∀ X, Below w.heap.size w X → ∀ (Z : Option Nat) (A0 : Option Addr) (A1 : Option Addr) (A2 : Option Addr) (A3 : Option Addr) (A4 : Option Addr) (A5 : Option Addr) (A6 : Option Addr) (k0 k1 k2 k3 k4 k5 k6 : Nat) W, OS X Z [(A6, n6 + 10, f 6 ++ remO), (A5, n5 + 10, f 5 ++ remO), (A4, n4 + 10, f 4 ++ remO), (A3, n3 + 10, f 3 ++ remO), (A2, n2 + 10, f 2 ++ remO), (A1, n1 + 10, f 1 ++ remO), (A0, n0 + 10, f 0 ++ remO)] W → Calls Tryz.prog 29 #[.agg #[.slice A0 (n0 + 10) k0, .slice A1 (n1 + 10) k1, .slice A2 (n2 + 10) k2, .slice A3 (n3 + 10) k3, .slice A4 (n4 + 10) k4, .slice A5 (n5 + 10) k5, .slice A6 (n6 + 10) k6]] W fun e W' => ∃ b, e = .returned (.tuple #[.pointer (some ⟨b, 0, none⟩), .agg #[.int .i64 0, .int .i64 0, .int .i64 0]]) ∧ Hid (OS X Z [] W' ∧ PF W' b d.ps d.sp d.cf)) := Lib.hid (fun X hX Z A0 A1 A2 A3 A4 A5 A6 k0 k1 k2 k3 k4 k5 k6 W hW => (D29.out X hX Z A0 A1 A2 A3 A4 A5 A6 k0 k1 k2 k3 k4 k5 k6 W hW).mono (by
        rintro e W' ⟨hw, -, ⟨d', b, h, rfl, h1, h2, h3⟩ | ⟨x, h, rfl⟩⟩
        · rw [more_load, hl] at h
          injection h with _ h
          injection h with h
          subst h
          exact ⟨b, rfl, Lib.hid ⟨hw, h1⟩⟩
        · rw [more_load, hl] at h; injection h with _ h; cases h))
      clear C9 D29 hl
      go_enter Tryz.func6, Tryz.ntmps6
      go_upto_region 4 with (first
      | (go_at_call 29; (with_reducible refine (D9.out _ H8.out).mono ?_); rintro e W9 ⟨b, rfl, H9⟩; obtain ⟨⟨r0, r1, r2, r3, r4, r5, r6⟩, -⟩ := H9.out.1)
      | (go_at_call 7; (with_reducible refine (C7.out _ H1.out).mono ?_); rintro e W7 ⟨rfl, H7'⟩; have H7 := Lib.hid H7'; clear H7'; obtain ⟨⟨q0, q1, q2, q3, q4, q5, q6⟩, -⟩ := H7.out)
      | (go_at_call 8; (with_reducible refine (C8.out _ H7.out).mono ?_); rintro e W8 ⟨rfl, H8'⟩; have H8 := Lib.hid H8'; clear H8'; obtain ⟨⟨q0, q1, q2, q3, q4, q5, q6⟩, -⟩ := H8.out))
      clear C7 C8 D9 H1 H7 H8 q0 q1 q2 q3 q4 q5 q6
      have H10 := Lib.hid (H9.out.1.below ((Below.refl _ _).alloc (Nat.le_refl _) (.cells #[.int .i64 0, .int .i64 0, .int .i64 0] 59)))
      have HP := Lib.hid (H9.out.2.1.below ((Below.refl _ _).alloc (Nat.le_refl _) (.cells #[.int .i64 0, .int .i64 0, .int .i64 0] 59)))
      have HSZ := Lib.hid H9.out.2.2
      have HZ6 : Hid (W9.heap.size < (W9.alloc (.cells #[.int .i64 0, .int .i64 0, .int .i64 0] 59)).heap.size ∧ Zr3 W9.heap.size (W9.alloc (.cells #[.int .i64 0, .int .i64 0, .int .i64 0] 59))) := Lib.hid ⟨by simp, by rw [new_at _ _ _ _ _ rfl]; rfl, by rw [new_at _ _ _ _ _ rfl]; rfl, by rw [new_at _ _ _ _ _ rfl]; rfl, fun i => new_fro _ _ _ _ _ rfl⟩
      obtain ⟨X, hX⟩ : ∃ z, W9.alloc (.cells #[.int .i64 0, .int .i64 0, .int .i64 0] 59) = z := ⟨_, rfl⟩
      rw [hX] at H10 HP HZ6 ⊢
      obtain ⟨K6, hK6⟩ : ∃ z, W9.heap.size = z := ⟨_, rfl⟩
      rw [hK6] at HZ6 ⊢
      clear hX hK6 H9 r0 r1 r2 r3 r4 r5 r6
      have HS : Hid (∀ W, Below X.heap.size X W → (W.cell? ⟨w.heap.size, 0, none⟩ = some (.slice b0 n0 m0) ∧ W.cell? ⟨w.heap.size, 1, none⟩ = some (.slice b1 n1 m1) ∧ W.cell? ⟨w.heap.size, 2, none⟩ = some (.slice b2 n2 m2) ∧ W.cell? ⟨w.heap.size, 3, none⟩ = some (.slice b3 n3 m3) ∧ W.cell? ⟨w.heap.size, 4, none⟩ = some (.slice b4 n4 m4) ∧ W.cell? ⟨w.heap.size, 5, none⟩ = some (.slice b5 n5 m5) ∧ W.cell? ⟨w.heap.size, 6, none⟩ = some (.slice b6 n6 m6))) := Lib.hid (fun W hb => (H10.out.below hb).1)
      have OO : Hid (OS X none [] X) := Lib.hid ⟨Below.refl _ _, fun k hk => (by cases hk), fun t ht => (by cases ht)⟩
      have HX := Lib.hid H10.out.2
      go_cut [7, 8] from 22 to 47 (fun v7 v8 W => ∃ p2 k8 : Nat, v7 = .pointer (some ⟨p2, 0, none⟩) ∧ v8 = .pointer (some ⟨k8, 0, none⟩) ∧ Hid (Below X.heap.size X W ∧ PF W p2 d.ps d.sp d.cf ∧ X.heap.size ≤ k8 ∧ k8 < W.heap.size ∧ Zr3 k8 W))
      case first =>
        refine ph_open (fun W => W.cell? ⟨w.heap.size, 0, none⟩ = some (.slice b0 n0 m0) ∧ W.cell? ⟨w.heap.size, 1, none⟩ = some (.slice b1 n1 m1) ∧ W.cell? ⟨w.heap.size, 2, none⟩ = some (.slice b2 n2 m2) ∧ W.cell? ⟨w.heap.size, 3, none⟩ = some (.slice b3 n3 m3) ∧ W.cell? ⟨w.heap.size, 4, none⟩ = some (.slice b4 n4 m4) ∧ W.cell? ⟨w.heap.size, 5, none⟩ = some (.slice b5 n5 m5) ∧ W.cell? ⟨w.heap.size, 6, none⟩ = some (.slice b6 n6 m6)) (by kernel_rfl) ?_ (by as_aux_lemma => kernel_rfl) (fun NS hHeld => ?_)
        · (try dsimp only); exact HS.out _ OO.out.drew.1
        refine ph_take (i := 0) (v := ?_) NS rfl (by as_aux_lemma => kernel_rfl) (by as_aux_lemma => kernel_rfl) (fun _ _ _ h => h) (by rfl) ?_ (by assumption) ?_
        rotate_left
        · (intro w hSw; (try dsimp only at hSw); go_simp; try with_reducible rfl)
        try simp only [Act.put, List.setIfInBounds_toArray, List.set_cons_zero, List.set_cons_succ]
        refine ph_take (i := 1) (v := ?_) NS rfl (by as_aux_lemma => kernel_rfl) (by as_aux_lemma => kernel_rfl) (fun _ _ _ h => h) (by rfl) ?_ (by assumption) ?_
        rotate_left
        · (intro w hSw; (try dsimp only at hSw); go_simp; try with_reducible rfl)
        try simp only [Act.put, List.setIfInBounds_toArray, List.set_cons_zero, List.set_cons_succ]
        refine ph_take (i := 3) (v := ?_) NS rfl (by as_aux_lemma => kernel_rfl) (by as_aux_lemma => kernel_rfl) (fun _ _ _ h => h) (by rfl) ?_ (by assumption) ?_
        rotate_left
        · (intro w hSw; (try dsimp only at hSw); go_simp; try with_reducible rfl)
        try simp only [Act.put, List.setIfInBounds_toArray, List.set_cons_zero, List.set_cons_succ]
        refine ph_take (i := 4) (v := ?_) NS rfl (by as_aux_lemma => kernel_rfl) (by as_aux_lemma => kernel_rfl) (fun _ _ _ h => h) (by rfl) ?_ (by assumption) ?_
        rotate_left
        · (intro w hSw; (try dsimp only at hSw); go_simp; try with_reducible rfl)
        try simp only [Act.put, List.setIfInBounds_toArray, List.set_cons_zero, List.set_cons_succ]
        refine ph_take (i := 6) (v := ?_) NS rfl (by as_aux_lemma => kernel_rfl) (by as_aux_lemma => kernel_rfl) (fun _ _ _ h => h) (by rfl) ?_ (by assumption) ?_
        rotate_left
        · (intro w hSw; (try dsimp only at hSw); go_simp; try with_reducible rfl)
        try simp only [Act.put, List.setIfInBounds_toArray, List.set_cons_zero, List.set_cons_succ]
        refine ph_take (i := 7) (v := ?_) NS rfl (by as_aux_lemma => kernel_rfl) (by as_aux_lemma => kernel_rfl) (fun _ _ _ h => h) (by rfl) ?_ (by assumption) ?_
        rotate_left
        · (intro w hSw; (try dsimp only at hSw); go_simp; try with_reducible rfl)
        try simp only [Act.put, List.setIfInBounds_toArray, List.set_cons_zero, List.set_cons_succ]
        refine ph_take (i := 9) (v := ?_) NS rfl (by as_aux_lemma => kernel_rfl) (by as_aux_lemma => kernel_rfl) (fun _ _ _ h => h) (by rfl) ?_ (by assumption) ?_
        rotate_left
        · (intro w hSw; (try dsimp only at hSw); go_simp; try with_reducible rfl)
        try simp only [Act.put, List.setIfInBounds_toArray, List.set_cons_zero, List.set_cons_succ]
        refine ph_take (i := 10) (v := ?_) NS rfl (by as_aux_lemma => kernel_rfl) (by as_aux_lemma => kernel_rfl) (fun _ _ _ h => h) (by rfl) ?_ (by assumption) ?_
        rotate_left
        · (intro w hSw; (try dsimp only at hSw); go_simp; try with_reducible rfl)
        try simp only [Act.put, List.setIfInBounds_toArray, List.set_cons_zero, List.set_cons_succ]
        refine ph_take (i := 12) (v := ?_) NS rfl (by as_aux_lemma => kernel_rfl) (by as_aux_lemma => kernel_rfl) (fun _ _ _ h => h) (by rfl) ?_ (by assumption) ?_
        rotate_left
        · (intro w hSw; (try dsimp only at hSw); go_simp; try with_reducible rfl)
        try simp only [Act.put, List.setIfInBounds_toArray, List.set_cons_zero, List.set_cons_succ]
        refine ph_take (i := 13) (v := ?_) NS rfl (by as_aux_lemma => kernel_rfl) (by as_aux_lemma => kernel_rfl) (fun _ _ _ h => h) (by rfl) ?_ (by assumption) ?_
        rotate_left
        · (intro w hSw; (try dsimp only at hSw); go_simp; try with_reducible rfl)
        try simp only [Act.put, List.setIfInBounds_toArray, List.set_cons_zero, List.set_cons_succ]
        refine ph_take (i := 15) (v := ?_) NS rfl (by as_aux_lemma => kernel_rfl) (by as_aux_lemma => kernel_rfl) (fun _ _ _ h => h) (by rfl) ?_ (by assumption) ?_
        rotate_left
        · (intro w hSw; (try dsimp only at hSw); go_simp; try with_reducible rfl)
        try simp only [Act.put, List.setIfInBounds_toArray, List.set_cons_zero, List.set_cons_succ]
        refine ph_take (i := 16) (v := ?_) NS rfl (by as_aux_lemma => kernel_rfl) (by as_aux_lemma => kernel_rfl) (fun _ _ _ h => h) (by rfl) ?_ (by assumption) ?_
        rotate_left
        · (intro w hSw; (try dsimp only at hSw); go_simp; try with_reducible rfl)
        try simp only [Act.put, List.setIfInBounds_toArray, List.set_cons_zero, List.set_cons_succ]
        refine ph_take (i := 18) (v := ?_) NS rfl (by as_aux_lemma => kernel_rfl) (by as_aux_lemma => kernel_rfl) (fun _ _ _ h => h) (by rfl) ?_ (by assumption) ?_
        rotate_left
        · (intro w hSw; (try dsimp only at hSw); go_simp; try with_reducible rfl)
        try simp only [Act.put, List.setIfInBounds_toArray, List.set_cons_zero, List.set_cons_succ]
        refine ph_take (i := 19) (v := ?_) NS rfl (by as_aux_lemma => kernel_rfl) (by as_aux_lemma => kernel_rfl) (fun _ _ _ h => h) (by rfl) ?_ (by assumption) ?_
        rotate_left
        · (intro w hSw; (try dsimp only at hSw); go_simp; try with_reducible rfl)
        try simp only [Act.put, List.setIfInBounds_toArray, List.set_cons_zero, List.set_cons_succ]
        refine ph_two (i := 2) (j := 26) rfl rfl (by as_aux_lemma => kernel_rfl) (by rfl) (by rfl) (fun KK hK => ?_) (fun KK hK => ?_)
        · skip
          (go_simp; go_at_call 34; (with_reducible refine (M0.out X HX.out _ _ _ (by first | with_reducible exact OO.out | with_reducible exact OO.out.drew)).mono ?_); rintro e Y0 ⟨A0, k0, rfl, O0⟩; have OO := O0)
          refine hK.out _ _ ?_ (fun hHeld => ?_)
          · (try dsimp only); exact HS.out _ OO.out.1
          clear hK KK
          try simp only [Act.put, List.setIfInBounds_toArray, List.set_cons_zero, List.set_cons_succ]
          refine ph_two (i := 5) (j := 26) rfl rfl (by as_aux_lemma => kernel_rfl) (by rfl) (by rfl) (fun KK hK => ?_) (fun KK hK => ?_)
          · skip
            (go_simp; go_at_call 34; (with_reducible refine (M1.out X HX.out _ _ _ (by first | with_reducible exact OO.out | with_reducible exact OO.out.drew)).mono ?_); rintro e Y1 ⟨A1, k1, rfl, O1⟩; have OO := O1)
            refine hK.out _ _ ?_ (fun hHeld => ?_)
            · (try dsimp only); exact HS.out _ OO.out.1
            clear hK KK
            try simp only [Act.put, List.setIfInBounds_toArray, List.set_cons_zero, List.set_cons_succ]
            refine ph_two (i := 8) (j := 26) rfl rfl (by as_aux_lemma => kernel_rfl) (by rfl) (by rfl) (fun KK hK => ?_) (fun KK hK => ?_)
            · skip
              (go_simp; go_at_call 34; (with_reducible refine (M2.out X HX.out _ _ _ (by first | with_reducible exact OO.out | with_reducible exact OO.out.drew)).mono ?_); rintro e Y2 ⟨A2, k2, rfl, O2⟩; have OO := O2)
              refine hK.out _ _ ?_ (fun hHeld => ?_)
              · (try dsimp only); exact HS.out _ OO.out.1
              clear hK KK
              try simp only [Act.put, List.setIfInBounds_toArray, List.set_cons_zero, List.set_cons_succ]
              refine ph_two (i := 11) (j := 26) rfl rfl (by as_aux_lemma => kernel_rfl) (by rfl) (by rfl) (fun KK hK => ?_) (fun KK hK => ?_)
              · skip
                (go_simp; go_at_call 34; (with_reducible refine (M3.out X HX.out _ _ _ (by first | with_reducible exact OO.out | with_reducible exact OO.out.drew)).mono ?_); rintro e Y3 ⟨A3, k3, rfl, O3⟩; have OO := O3)
                refine hK.out _ _ ?_ (fun hHeld => ?_)
                · (try dsimp only); exact HS.out _ OO.out.1
                clear hK KK
                try simp only [Act.put, List.setIfInBounds_toArray, List.set_cons_zero, List.set_cons_succ]
                refine ph_two (i := 14) (j := 26) rfl rfl (by as_aux_lemma => kernel_rfl) (by rfl) (by rfl) (fun KK hK => ?_) (fun KK hK => ?_)
                · skip
                  (go_simp; go_at_call 34; (with_reducible refine (M4.out X HX.out _ _ _ (by first | with_reducible exact OO.out | with_reducible exact OO.out.drew)).mono ?_); rintro e Y4 ⟨A4, k4, rfl, O4⟩; have OO := O4)
                  refine hK.out _ _ ?_ (fun hHeld => ?_)
                  · (try dsimp only); exact HS.out _ OO.out.1
                  clear hK KK
                  try simp only [Act.put, List.setIfInBounds_toArray, List.set_cons_zero, List.set_cons_succ]
                  refine ph_two (i := 17) (j := 26) rfl rfl (by as_aux_lemma => kernel_rfl) (by rfl) (by rfl) (fun KK hK => ?_) (fun KK hK => ?_)
                  · skip
                    (go_simp; go_at_call 34; (with_reducible refine (M5.out X HX.out _ _ _ (by first | with_reducible exact OO.out | with_reducible exact OO.out.drew)).mono ?_); rintro e Y5 ⟨A5, k5, rfl, O5⟩; have OO := O5)
                    refine hK.out _ _ ?_ (fun hHeld => ?_)
                    · (try dsimp only); exact HS.out _ OO.out.1
                    clear hK KK
                    try simp only [Act.put, List.setIfInBounds_toArray, List.set_cons_zero, List.set_cons_succ]
                    refine ph_two (i := 20) (j := 26) rfl rfl (by as_aux_lemma => kernel_rfl) (by rfl) (by rfl) (fun KK hK => ?_) (fun KK hK => ?_)
                    · skip
                      (go_simp; go_at_call 34; (with_reducible refine (M6.out X HX.out _ _ _ (by first | with_reducible exact OO.out | with_reducible exact OO.out.drew)).mono ?_); rintro e Y6 ⟨A6, k6, rfl, O6⟩; have OO := O6)
                      refine hK.out _ _ ?_ (fun hHeld => ?_)
                      · (try dsimp only); exact HS.out _ OO.out.1
                      clear hK KK
                      try simp only [Act.put, List.setIfInBounds_toArray, List.set_cons_zero, List.set_cons_succ]
                      refine ph_take (i := 21) (v := ?_) NS rfl (by as_aux_lemma => kernel_rfl) (by as_aux_lemma => kernel_rfl) (fun _ _ _ h => h) (by rfl) ?_ (by assumption) ?_
                      rotate_left
                      · (intro w hSw; (try dsimp only at hSw); go_simp; try with_reducible rfl)
                      try simp only [Act.put, List.setIfInBounds_toArray, List.set_cons_zero, List.set_cons_succ]
                      refine ph_two (i := 22) (j := 26) rfl rfl (by as_aux_lemma => kernel_rfl) (by rfl) (by rfl) (fun KK hK => ?_) (fun KK hK => ?_)
                      · skip
                        (go_simp; go_at_call 29; (with_reducible refine (E29.out X HX.out _ _ _ _ _ _ _ _ _ _ _ _ _ _ _ _ (by first | with_reducible exact OO.out | with_reducible exact OO.out.drew)).mono ?_); rintro e Y7 ⟨p2, rfl, O7⟩; have OO := Lib.hid O7.out.1)
                        refine hK.out _ _ ?_ (fun hHeld => ?_)
                        · (try dsimp only); exact HS.out _ OO.out.1
                        clear hK KK
                        try simp only [Act.put, List.setIfInBounds_toArray, List.set_cons_zero, List.set_cons_succ]
                        refine ph_take (i := 23) (v := ?_) NS rfl (by as_aux_lemma => kernel_rfl) (by as_aux_lemma => kernel_rfl) (fun _ _ _ h => h) (by rfl) ?_ (by assumption) ?_
                        rotate_left
                        · (intro w hSw; (try dsimp only at hSw); go_simp; try with_reducible rfl)
                        try simp only [Act.put, List.setIfInBounds_toArray, List.set_cons_zero, List.set_cons_succ]
                        refine ph_take (i := 24) (v := ?_) NS rfl (by as_aux_lemma => kernel_rfl) (by as_aux_lemma => kernel_rfl) (fun _ _ _ h => h) (by rfl) ?_ (by assumption) ?_
                        rotate_left
                        · (intro w hSw; (try dsimp only at hSw); go_simp; try with_reducible rfl)
                        try simp only [Act.put, List.setIfInBounds_toArray, List.set_cons_zero, List.set_cons_succ]
                        refine ph_take (i := 25) (v := ?_) NS rfl (by as_aux_lemma => kernel_rfl) (by as_aux_lemma => kernel_rfl) (fun _ _ _ h => h) (by rfl) ?_ (by assumption) ?_
                        rotate_left
                        · (intro w hSw; (try dsimp only at hSw); go_simp; try with_reducible rfl)
                        try simp only [Act.put, List.setIfInBounds_toArray, List.set_cons_zero, List.set_cons_succ]
                        refine ph_step (i := 26) rfl (by as_aux_lemma => kernel_rfl) (by rfl) (fun KK hK => ?_)
                        have O8 : Hid (OS X (some Y7.heap.size) [] (Y7.alloc (.cells #[.int .i64 0, .int .i64 0, .int .i64 0] 59)) ∧ PF (Y7.alloc (.cells #[.int .i64 0, .int .i64 0, .int .i64 0] 59)) p2 d.ps d.sp d.cf) := Lib.hid ⟨OO.out.box, O7.out.2.below ((Below.refl _ _).alloc (Nat.le_refl _) (.cells #[.int .i64 0, .int .i64 0, .int .i64 0] 59))⟩
                        go_simp
                        obtain ⟨k8, hk8⟩ : ∃ z, Y7.heap.size = z := ⟨_, rfl⟩
                        obtain ⟨V8, hV8⟩ : ∃ z, Y7.alloc (.cells #[.int .i64 0, .int .i64 0, .int .i64 0] 59) = z := ⟨_, rfl⟩
                        rw [hk8] at O8 ⊢
                        rw [hV8] at O8 ⊢
                        clear hk8 hV8
                        have OO := Lib.hid O8.out.1
                        refine hK.out _ _ ?_ (fun hHeld => ?_)
                        · (try dsimp only); exact HS.out _ OO.out.1
                        clear hK KK
                        try simp only [Act.put, List.setIfInBounds_toArray, List.set_cons_zero, List.set_cons_succ]
                        refine ph_take (i := 27) (v := ?_) NS rfl (by as_aux_lemma => kernel_rfl) (by as_aux_lemma => kernel_rfl) (fun _ _ _ h => h) (by rfl) ?_ (by assumption) ?_
                        rotate_left
                        · (intro w hSw; (try dsimp only at hSw); go_simp; try with_reducible rfl)
                        try simp only [Act.put, List.setIfInBounds_toArray, List.set_cons_zero, List.set_cons_succ]
                        refine ph_step (i := 28) rfl (by as_aux_lemma => kernel_rfl) (by rfl) (fun KK hK => ?_)
                        obtain ⟨u1, u2, z0, z1, z2, zf⟩ := OO.out.2.1 _ rfl
                        have f0 := zf 0
                        have f1 := zf 1
                        have f2 := zf 2
                        have O9 := Lib.hid (OO.out.below (zr3_same ⟨z0, z1, z2, zf⟩))
                        have OP := Lib.hid (O8.out.2.below (zr3_same ⟨z0, z1, z2, zf⟩))
                        go_simp
                        have OO := O9
                        refine hK.out _ _ ?_ (fun hHeld => ?_)
                        · (try dsimp only); exact HS.out _ OO.out.1
                        clear hK KK
                        try simp only [Act.put, List.setIfInBounds_toArray, List.set_cons_zero, List.set_cons_succ]
                        refine wpAnyH_done (by as_aux_lemma => kernel_rfl) ?_ _
                        go_wp2_with fail
                        go_meet
                        exact ⟨p2, k8, rfl, rfl, Lib.hid ⟨OO.out.1, OP.out, (OO.out.2.1 _ rfl).1, (OO.out.2.1 _ rfl).2.1, (OO.out.2.1 _ rfl).2.2⟩⟩
                      · skip
                        go_simp
                        have OO : Hid (OS X (some Y6.heap.size) _ (Y6.alloc (.cells #[.int .i64 0, .int .i64 0, .int .i64 0] 59))) := Lib.hid (OO.out.box)
                        obtain ⟨k8, hk8⟩ : ∃ z, Y6.heap.size = z := ⟨_, rfl⟩
                        obtain ⟨V8, hV8⟩ : ∃ z, Y6.alloc (.cells #[.int .i64 0, .int .i64 0, .int .i64 0] 59) = z := ⟨_, rfl⟩
                        rw [hk8] at OO ⊢
                        rw [hV8] at OO ⊢
                        clear hk8 hV8
                        refine hK.out _ _ ?_ (fun hHeld => ?_)
                        · (try dsimp only); exact HS.out _ OO.out.1
                        clear hK KK
                        try simp only [Act.put, List.setIfInBounds_toArray, List.set_cons_zero, List.set_cons_succ]
                        refine ph_step (i := 22) rfl (by as_aux_lemma => kernel_rfl) (by rfl) (fun KK hK => ?_)
                        (go_simp; go_at_call 29; (with_reducible refine (E29.out X HX.out _ _ _ _ _ _ _ _ _ _ _ _ _ _ _ _ (by first | with_reducible exact OO.out | with_reducible exact OO.out.drew)).mono ?_); rintro e Y7 ⟨p2, rfl, O7⟩; have OO := Lib.hid O7.out.1)
                        refine hK.out _ _ ?_ (fun hHeld => ?_)
                        · (try dsimp only); exact HS.out _ OO.out.1
                        clear hK KK
                        try simp only [Act.put, List.setIfInBounds_toArray, List.set_cons_zero, List.set_cons_succ]
                        refine ph_take (i := 23) (v := ?_) NS rfl (by as_aux_lemma => kernel_rfl) (by as_aux_lemma => kernel_rfl) (fun _ _ _ h => h) (by rfl) ?_ (by assumption) ?_
                        rotate_left
                        · (intro w hSw; (try dsimp only at hSw); go_simp; try with_reducible rfl)
                        try simp only [Act.put, List.setIfInBounds_toArray, List.set_cons_zero, List.set_cons_succ]
                        refine ph_take (i := 24) (v := ?_) NS rfl (by as_aux_lemma => kernel_rfl) (by as_aux_lemma => kernel_rfl) (fun _ _ _ h => h) (by rfl) ?_ (by assumption) ?_
                        rotate_left
                        · (intro w hSw; (try dsimp only at hSw); go_simp; try with_reducible rfl)
                        try simp only [Act.put, List.setIfInBounds_toArray, List.set_cons_zero, List.set_cons_succ]
                        refine ph_take (i := 25) (v := ?_) NS rfl (by as_aux_lemma => kernel_rfl) (by as_aux_lemma => kernel_rfl) (fun _ _ _ h => h) (by rfl) ?_ (by assumption) ?_
                        rotate_left
                        · (intro w hSw; (try dsimp only at hSw); go_simp; try with_reducible rfl)
                        try simp only [Act.put, List.setIfInBounds_toArray, List.set_cons_zero, List.set_cons_succ]
                        refine ph_take (i := 27) (v := ?_) NS rfl (by as_aux_lemma => kernel_rfl) (by as_aux_lemma => kernel_rfl) (fun _ _ _ h => h) (by rfl) ?_ (by assumption) ?_
                        rotate_left
                        · (intro w hSw; (try dsimp only at hSw); go_simp; try with_reducible rfl)
                        try simp only [Act.put, List.setIfInBounds_toArray, List.set_cons_zero, List.set_cons_succ]
                        refine ph_step (i := 28) rfl (by as_aux_lemma => kernel_rfl) (by rfl) (fun KK hK => ?_)
                        obtain ⟨u1, u2, z0, z1, z2, zf⟩ := OO.out.2.1 _ rfl
                        have f0 := zf 0
                        have f1 := zf 1
                        have f2 := zf 2
                        have O9 := Lib.hid (OO.out.below (zr3_same ⟨z0, z1, z2, zf⟩))
                        have OP := Lib.hid (O7.out.2.below (zr3_same ⟨z0, z1, z2, zf⟩))
                        go_simp
                        have OO := O9
                        refine hK.out _ _ ?_ (fun hHeld => ?_)
                        · (try dsimp only); exact HS.out _ OO.out.1
                        clear hK KK
                        try simp only [Act.put, List.setIfInBounds_toArray, List.set_cons_zero, List.set_cons_succ]
                        refine wpAnyH_done (by as_aux_lemma => kernel_rfl) ?_ _
                        go_wp2_with fail
                        go_meet
                        exact ⟨p2, k8, rfl, rfl, Lib.hid ⟨OO.out.1, OP.out, (OO.out.2.1 _ rfl).1, (OO.out.2.1 _ rfl).2.1, (OO.out.2.1 _ rfl).2.2⟩⟩
                    · skip
                      go_simp
                      have OO : Hid (OS X (some Y5.heap.size) _ (Y5.alloc (.cells #[.int .i64 0, .int .i64 0, .int .i64 0] 59))) := Lib.hid (OO.out.box)
                      obtain ⟨k8, hk8⟩ : ∃ z, Y5.heap.size = z := ⟨_, rfl⟩
                      obtain ⟨V8, hV8⟩ : ∃ z, Y5.alloc (.cells #[.int .i64 0, .int .i64 0, .int .i64 0] 59) = z := ⟨_, rfl⟩
                      rw [hk8] at OO ⊢
                      rw [hV8] at OO ⊢
                      clear hk8 hV8
                      refine hK.out _ _ ?_ (fun hHeld => ?_)
                      · (try dsimp only); exact HS.out _ OO.out.1
                      clear hK KK
                      try simp only [Act.put, List.setIfInBounds_toArray, List.set_cons_zero, List.set_cons_succ]
                      refine ph_step (i := 20) rfl (by as_aux_lemma => kernel_rfl) (by rfl) (fun KK hK => ?_)
                      (go_simp; go_at_call 34; (with_reducible refine (M6.out X HX.out _ _ _ (by first | with_reducible exact OO.out | with_reducible exact OO.out.drew)).mono ?_); rintro e Y6 ⟨A6, k6, rfl, O6⟩; have OO := O6)
                      refine hK.out _ _ ?_ (fun hHeld => ?_)
                      · (try dsimp only); exact HS.out _ OO.out.1
                      clear hK KK
                      try simp only [Act.put, List.setIfInBounds_toArray, List.set_cons_zero, List.set_cons_succ]
                      refine ph_take (i := 21) (v := ?_) NS rfl (by as_aux_lemma => kernel_rfl) (by as_aux_lemma => kernel_rfl) (fun _ _ _ h => h) (by rfl) ?_ (by assumption) ?_
                      rotate_left
                      · (intro w hSw; (try dsimp only at hSw); go_simp; try with_reducible rfl)
                      try simp only [Act.put, List.setIfInBounds_toArray, List.set_cons_zero, List.set_cons_succ]
                      refine ph_step (i := 22) rfl (by as_aux_lemma => kernel_rfl) (by rfl) (fun KK hK => ?_)
                      (go_simp; go_at_call 29; (with_reducible refine (E29.out X HX.out _ _ _ _ _ _ _ _ _ _ _ _ _ _ _ _ (by first | with_reducible exact OO.out | with_reducible exact OO.out.drew)).mono ?_); rintro e Y7 ⟨p2, rfl, O7⟩; have OO := Lib.hid O7.out.1)
                      refine hK.out _ _ ?_ (fun hHeld => ?_)
                      · (try dsimp only); exact HS.out _ OO.out.1
                      clear hK KK
                      try simp only [Act.put, List.setIfInBounds_toArray, List.set_cons_zero, List.set_cons_succ]
                      refine ph_take (i := 23) (v := ?_) NS rfl (by as_aux_lemma => kernel_rfl) (by as_aux_lemma => kernel_rfl) (fun _ _ _ h => h) (by rfl) ?_ (by assumption) ?_
                      rotate_left
                      · (intro w hSw; (try dsimp only at hSw); go_simp; try with_reducible rfl)
                      try simp only [Act.put, List.setIfInBounds_toArray, List.set_cons_zero, List.set_cons_succ]
                      refine ph_take (i := 24) (v := ?_) NS rfl (by as_aux_lemma => kernel_rfl) (by as_aux_lemma => kernel_rfl) (fun _ _ _ h => h) (by rfl) ?_ (by assumption) ?_
                      rotate_left
                      · (intro w hSw; (try dsimp only at hSw); go_simp; try with_reducible rfl)
                      try simp only [Act.put, List.setIfInBounds_toArray, List.set_cons_zero, List.set_cons_succ]
                      refine ph_take (i := 25) (v := ?_) NS rfl (by as_aux_lemma => kernel_rfl) (by as_aux_lemma => kernel_rfl) (fun _ _ _ h => h) (by rfl) ?_ (by assumption) ?_
                      rotate_left
                      · (intro w hSw; (try dsimp only at hSw); go_simp; try with_reducible rfl)
                      try simp only [Act.put, List.setIfInBounds_toArray, List.set_cons_zero, List.set_cons_succ]
                      refine ph_take (i := 27) (v := ?_) NS rfl (by as_aux_lemma => kernel_rfl) (by as_aux_lemma => kernel_rfl) (fun _ _ _ h => h) (by rfl) ?_ (by assumption) ?_
                      rotate_left
                      · (intro w hSw; (try dsimp only at hSw); go_simp; try with_reducible rfl)
                      try simp only [Act.put, List.setIfInBounds_toArray, List.set_cons_zero, List.set_cons_succ]
                      refine ph_step (i := 28) rfl (by as_aux_lemma => kernel_rfl) (by rfl) (fun KK hK => ?_)
                      obtain ⟨u1, u2, z0, z1, z2, zf⟩ := OO.out.2.1 _ rfl
                      have f0 := zf 0
                      have f1 := zf 1
                      have f2 := zf 2
                      have O9 := Lib.hid (OO.out.below (zr3_same ⟨z0, z1, z2, zf⟩))
                      have OP := Lib.hid (O7.out.2.below (zr3_same ⟨z0, z1, z2, zf⟩))
                      go_simp
                      have OO := O9
                      refine hK.out _ _ ?_ (fun hHeld => ?_)
                      · (try dsimp only); exact HS.out _ OO.out.1
                      clear hK KK
                      try simp only [Act.put, List.setIfInBounds_toArray, List.set_cons_zero, List.set_cons_succ]
                      refine wpAnyH_done (by as_aux_lemma => kernel_rfl) ?_ _
                      go_wp2_with fail
                      go_meet
                      exact ⟨p2, k8, rfl, rfl, Lib.hid ⟨OO.out.1, OP.out, (OO.out.2.1 _ rfl).1, (OO.out.2.1 _ rfl).2.1, (OO.out.2.1 _ rfl).2.2⟩⟩
                  · skip
                    go_simp
                    have OO : Hid (OS X (some Y4.heap.size) _ (Y4.alloc (.cells #[.int .i64 0, .int .i64 0, .int .i64 0] 59))) := Lib.hid (OO.out.box)
                    obtain ⟨k8, hk8⟩ : ∃ z, Y4.heap.size = z := ⟨_, rfl⟩
                    obtain ⟨V8, hV8⟩ : ∃ z, Y4.alloc (.cells #[.int .i64 0, .int .i64 0, .int .i64 0] 59) = z := ⟨_, rfl⟩
                    rw [hk8] at OO ⊢
                    rw [hV8] at OO ⊢
                    clear hk8 hV8
                    refine hK.out _ _ ?_ (fun hHeld => ?_)
                    · (try dsimp only); exact HS.out _ OO.out.1
                    clear hK KK
                    try simp only [Act.put, List.setIfInBounds_toArray, List.set_cons_zero, List.set_cons_succ]
                    refine ph_step (i := 17) rfl (by as_aux_lemma => kernel_rfl) (by rfl) (fun KK hK => ?_)
                    (go_simp; go_at_call 34; (with_reducible refine (M5.out X HX.out _ _ _ (by first | with_reducible exact OO.out | with_reducible exact OO.out.drew)).mono ?_); rintro e Y5 ⟨A5, k5, rfl, O5⟩; have OO := O5)
                    refine hK.out _ _ ?_ (fun hHeld => ?_)
                    · (try dsimp only); exact HS.out _ OO.out.1
                    clear hK KK
                    try simp only [Act.put, List.setIfInBounds_toArray, List.set_cons_zero, List.set_cons_succ]
                    refine ph_step (i := 20) rfl (by as_aux_lemma => kernel_rfl) (by rfl) (fun KK hK => ?_)
                    (go_simp; go_at_call 34; (with_reducible refine (M6.out X HX.out _ _ _ (by first | with_reducible exact OO.out | with_reducible exact OO.out.drew)).mono ?_); rintro e Y6 ⟨A6, k6, rfl, O6⟩; have OO := O6)
                    refine hK.out _ _ ?_ (fun hHeld => ?_)
                    · (try dsimp only); exact HS.out _ OO.out.1
                    clear hK KK
                    try simp only [Act.put, List.setIfInBounds_toArray, List.set_cons_zero, List.set_cons_succ]
                    refine ph_take (i := 21) (v := ?_) NS rfl (by as_aux_lemma => kernel_rfl) (by as_aux_lemma => kernel_rfl) (fun _ _ _ h => h) (by rfl) ?_ (by assumption) ?_
                    rotate_left
                    · (intro w hSw; (try dsimp only at hSw); go_simp; try with_reducible rfl)
                    try simp only [Act.put, List.setIfInBounds_toArray, List.set_cons_zero, List.set_cons_succ]
                    refine ph_step (i := 22) rfl (by as_aux_lemma => kernel_rfl) (by rfl) (fun KK hK => ?_)
                    (go_simp; go_at_call 29; (with_reducible refine (E29.out X HX.out _ _ _ _ _ _ _ _ _ _ _ _ _ _ _ _ (by first | with_reducible exact OO.out | with_reducible exact OO.out.drew)).mono ?_); rintro e Y7 ⟨p2, rfl, O7⟩; have OO := Lib.hid O7.out.1)
                    refine hK.out _ _ ?_ (fun hHeld => ?_)
                    · (try dsimp only); exact HS.out _ OO.out.1
                    clear hK KK
                    try simp only [Act.put, List.setIfInBounds_toArray, List.set_cons_zero, List.set_cons_succ]
                    refine ph_take (i := 23) (v := ?_) NS rfl (by as_aux_lemma => kernel_rfl) (by as_aux_lemma => kernel_rfl) (fun _ _ _ h => h) (by rfl) ?_ (by assumption) ?_
                    rotate_left
                    · (intro w hSw; (try dsimp only at hSw); go_simp; try with_reducible rfl)
                    try simp only [Act.put, List.setIfInBounds_toArray, List.set_cons_zero, List.set_cons_succ]
                    refine ph_take (i := 24) (v := ?_) NS rfl (by as_aux_lemma => kernel_rfl) (by as_aux_lemma => kernel_rfl) (fun _ _ _ h => h) (by rfl) ?_ (by assumption) ?_
                    rotate_left
                    · (intro w hSw; (try dsimp only at hSw); go_simp; try with_reducible rfl)
                    try simp only [Act.put, List.setIfInBounds_toArray, List.set_cons_zero, List.set_cons_succ]
                    refine ph_take (i := 25) (v := ?_) NS rfl (by as_aux_lemma => kernel_rfl) (by as_aux_lemma => kernel_rfl) (fun _ _ _ h => h) (by rfl) ?_ (by assumption) ?_
                    rotate_left
                    · (intro w hSw; (try dsimp only at hSw); go_simp; try with_reducible rfl)
                    try simp only [Act.put, List.setIfInBounds_toArray, List.set_cons_zero, List.set_cons_succ]
                    refine ph_take (i := 27) (v := ?_) NS rfl (by as_aux_lemma => kernel_rfl) (by as_aux_lemma => kernel_rfl) (fun _ _ _ h => h) (by rfl) ?_ (by assumption) ?_
                    rotate_left
                    · (intro w hSw; (try dsimp only at hSw); go_simp; try with_reducible rfl)
                    try simp only [Act.put, List.setIfInBounds_toArray, List.set_cons_zero, List.set_cons_succ]
                    refine ph_step (i := 28) rfl (by as_aux_lemma => kernel_rfl) (by rfl) (fun KK hK => ?_)
                    obtain ⟨u1, u2, z0, z1, z2, zf⟩ := OO.out.2.1 _ rfl
                    have f0 := zf 0
                    have f1 := zf 1
                    have f2 := zf 2
                    have O9 := Lib.hid (OO.out.below (zr3_same ⟨z0, z1, z2, zf⟩))
                    have OP := Lib.hid (O7.out.2.below (zr3_same ⟨z0, z1, z2, zf⟩))
                    go_simp
                    have OO := O9
                    refine hK.out _ _ ?_ (fun hHeld => ?_)
                    · (try dsimp only); exact HS.out _ OO.out.1
                    clear hK KK
                    try simp only [Act.put, List.setIfInBounds_toArray, List.set_cons_zero, List.set_cons_succ]
                    refine wpAnyH_done (by as_aux_lemma => kernel_rfl) ?_ _
                    go_wp2_with fail
                    go_meet
                    exact ⟨p2, k8, rfl, rfl, Lib.hid ⟨OO.out.1, OP.out, (OO.out.2.1 _ rfl).1, (OO.out.2.1 _ rfl).2.1, (OO.out.2.1 _ rfl).2.2⟩⟩
                · skip
                  go_simp
                  have OO : Hid (OS X (some Y3.heap.size) _ (Y3.alloc (.cells #[.int .i64 0, .int .i64 0, .int .i64 0] 59))) := Lib.hid (OO.out.box)
                  obtain ⟨k8, hk8⟩ : ∃ z, Y3.heap.size = z := ⟨_, rfl⟩
                  obtain ⟨V8, hV8⟩ : ∃ z, Y3.alloc (.cells #[.int .i64 0, .int .i64 0, .int .i64 0] 59) = z := ⟨_, rfl⟩
                  rw [hk8] at OO ⊢
                  rw [hV8] at OO ⊢
                  clear hk8 hV8
                  refine hK.out _ _ ?_ (fun hHeld => ?_)
                  · (try dsimp only); exact HS.out _ OO.out.1
                  clear hK KK
                  try simp only [Act.put, List.setIfInBounds_toArray, List.set_cons_zero, List.set_cons_succ]
                  refine ph_step (i := 14) rfl (by as_aux_lemma => kernel_rfl) (by rfl) (fun KK hK => ?_)
                  (go_simp; go_at_call 34; (with_reducible refine (M4.out X HX.out _ _ _ (by first | with_reducible exact OO.out | with_reducible exact OO.out.drew)).mono ?_); rintro e Y4 ⟨A4, k4, rfl, O4⟩; have OO := O4)
                  refine hK.out _ _ ?_ (fun hHeld => ?_)
                  · (try dsimp only); exact HS.out _ OO.out.1
                  clear hK KK
                  try simp only [Act.put, List.setIfInBounds_toArray, List.set_cons_zero, List.set_cons_succ]
                  refine ph_step (i := 17) rfl (by as_aux_lemma => kernel_rfl) (by rfl) (fun KK hK => ?_)
                  (go_simp; go_at_call 34; (with_reducible refine (M5.out X HX.out _ _ _ (by first | with_reducible exact OO.out | with_reducible exact OO.out.drew)).mono ?_); rintro e Y5 ⟨A5, k5, rfl, O5⟩; have OO := O5)
                  refine hK.out _ _ ?_ (fun hHeld => ?_)
                  · (try dsimp only); exact HS.out _ OO.out.1
                  clear hK KK
                  try simp only [Act.put, List.setIfInBounds_toArray, List.set_cons_zero, List.set_cons_succ]
                  refine ph_step (i := 20) rfl (by as_aux_lemma => kernel_rfl) (by rfl) (fun KK hK => ?_)
                  (go_simp; go_at_call 34; (with_reducible refine (M6.out X HX.out _ _ _ (by first | with_reducible exact OO.out | with_reducible exact OO.out.drew)).mono ?_); rintro e Y6 ⟨A6, k6, rfl, O6⟩; have OO := O6)
                  refine hK.out _ _ ?_ (fun hHeld => ?_)
                  · (try dsimp only); exact HS.out _ OO.out.1
                  clear hK KK
                  try simp only [Act.put, List.setIfInBounds_toArray, List.set_cons_zero, List.set_cons_succ]
                  refine ph_take (i := 21) (v := ?_) NS rfl (by as_aux_lemma => kernel_rfl) (by as_aux_lemma => kernel_rfl) (fun _ _ _ h => h) (by rfl) ?_ (by assumption) ?_
                  rotate_left
                  · (intro w hSw; (try dsimp only at hSw); go_simp; try with_reducible rfl)
                  try simp only [Act.put, List.setIfInBounds_toArray, List.set_cons_zero, List.set_cons_succ]
                  refine ph_step (i := 22) rfl (by as_aux_lemma => kernel_rfl) (by rfl) (fun KK hK => ?_)
                  (go_simp; go_at_call 29; (with_reducible refine (E29.out X HX.out _ _ _ _ _ _ _ _ _ _ _ _ _ _ _ _ (by first | with_reducible exact OO.out | with_reducible exact OO.out.drew)).mono ?_); rintro e Y7 ⟨p2, rfl, O7⟩; have OO := Lib.hid O7.out.1)
                  refine hK.out _ _ ?_ (fun hHeld => ?_)
                  · (try dsimp only); exact HS.out _ OO.out.1
                  clear hK KK
                  try simp only [Act.put, List.setIfInBounds_toArray, List.set_cons_zero, List.set_cons_succ]
                  refine ph_take (i := 23) (v := ?_) NS rfl (by as_aux_lemma => kernel_rfl) (by as_aux_lemma => kernel_rfl) (fun _ _ _ h => h) (by rfl) ?_ (by assumption) ?_
                  rotate_left
                  · (intro w hSw; (try dsimp only at hSw); go_simp; try with_reducible rfl)
                  try simp only [Act.put, List.setIfInBounds_toArray, List.set_cons_zero, List.set_cons_succ]
                  refine ph_take (i := 24) (v := ?_) NS rfl (by as_aux_lemma => kernel_rfl) (by as_aux_lemma => kernel_rfl) (fun _ _ _ h => h) (by rfl) ?_ (by assumption) ?_
                  rotate_left
                  · (intro w hSw; (try dsimp only at hSw); go_simp; try with_reducible rfl)
                  try simp only [Act.put, List.setIfInBounds_toArray, List.set_cons_zero, List.set_cons_succ]
                  refine ph_take (i := 25) (v := ?_) NS rfl (by as_aux_lemma => kernel_rfl) (by as_aux_lemma => kernel_rfl) (fun _ _ _ h => h) (by rfl) ?_ (by assumption) ?_
                  rotate_left
                  · (intro w hSw; (try dsimp only at hSw); go_simp; try with_reducible rfl)
                  try simp only [Act.put, List.setIfInBounds_toArray, List.set_cons_zero, List.set_cons_succ]
                  refine ph_take (i := 27) (v := ?_) NS rfl (by as_aux_lemma => kernel_rfl) (by as_aux_lemma => kernel_rfl) (fun _ _ _ h => h) (by rfl) ?_ (by assumption) ?_
                  rotate_left
                  · (intro w hSw; (try dsimp only at hSw); go_simp; try with_reducible rfl)
                  try simp only [Act.put, List.setIfInBounds_toArray, List.set_cons_zero, List.set_cons_succ]
                  refine ph_step (i := 28) rfl (by as_aux_lemma => kernel_rfl) (by rfl) (fun KK hK => ?_)
                  obtain ⟨u1, u2, z0, z1, z2, zf⟩ := OO.out.2.1 _ rfl
                  have f0 := zf 0
                  have f1 := zf 1
                  have f2 := zf 2
                  have O9 := Lib.hid (OO.out.below (zr3_same ⟨z0, z1, z2, zf⟩))
                  have OP := Lib.hid (O7.out.2.below (zr3_same ⟨z0, z1, z2, zf⟩))
                  go_simp
                  have OO := O9
                  refine hK.out _ _ ?_ (fun hHeld => ?_)
                  · (try dsimp only); exact HS.out _ OO.out.1
                  clear hK KK
                  try simp only [Act.put, List.setIfInBounds_toArray, List.set_cons_zero, List.set_cons_succ]
                  refine wpAnyH_done (by as_aux_lemma => kernel_rfl) ?_ _
                  go_wp2_with fail
                  go_meet
                  exact ⟨p2, k8, rfl, rfl, Lib.hid ⟨OO.out.1, OP.out, (OO.out.2.1 _ rfl).1, (OO.out.2.1 _ rfl).2.1, (OO.out.2.1 _ rfl).2.2⟩⟩
              · skip
                go_simp
                have OO : Hid (OS X (some Y2.heap.size) _ (Y2.alloc (.cells #[.int .i64 0, .int .i64 0, .int .i64 0] 59))) := Lib.hid (OO.out.box)
                obtain ⟨k8, hk8⟩ : ∃ z, Y2.heap.size = z := ⟨_, rfl⟩
                obtain ⟨V8, hV8⟩ : ∃ z, Y2.alloc (.cells #[.int .i64 0, .int .i64 0, .int .i64 0] 59) = z := ⟨_, rfl⟩
                rw [hk8] at OO ⊢
                rw [hV8] at OO ⊢
                clear hk8 hV8
                refine hK.out _ _ ?_ (fun hHeld => ?_)
                · (try dsimp only); exact HS.out _ OO.out.1
                clear hK KK
                try simp only [Act.put, List.setIfInBounds_toArray, List.set_cons_zero, List.set_cons_succ]
                refine ph_step (i := 11) rfl (by as_aux_lemma => kernel_rfl) (by rfl) (fun KK hK => ?_)
                (go_simp; go_at_call 34; (with_reducible refine (M3.out X HX.out _ _ _ (by first | with_reducible exact OO.out | with_reducible exact OO.out.drew)).mono ?_); rintro e Y3 ⟨A3, k3, rfl, O3⟩; have OO := O3)
                refine hK.out _ _ ?_ (fun hHeld => ?_)
                · (try dsimp only); exact HS.out _ OO.out.1
                clear hK KK
                try simp only [Act.put, List.setIfInBounds_toArray, List.set_cons_zero, List.set_cons_succ]
                refine ph_step (i := 14) rfl (by as_aux_lemma => kernel_rfl) (by rfl) (fun KK hK => ?_)
                (go_simp; go_at_call 34; (with_reducible refine (M4.out X HX.out _ _ _ (by first | with_reducible exact OO.out | with_reducible exact OO.out.drew)).mono ?_); rintro e Y4 ⟨A4, k4, rfl, O4⟩; have OO := O4)
                refine hK.out _ _ ?_ (fun hHeld => ?_)
                · (try dsimp only); exact HS.out _ OO.out.1
                clear hK KK
                try simp only [Act.put, List.setIfInBounds_toArray, List.set_cons_zero, List.set_cons_succ]
                refine ph_step (i := 17) rfl (by as_aux_lemma => kernel_rfl) (by rfl) (fun KK hK => ?_)
                (go_simp; go_at_call 34; (with_reducible refine (M5.out X HX.out _ _ _ (by first | with_reducible exact OO.out | with_reducible exact OO.out.drew)).mono ?_); rintro e Y5 ⟨A5, k5, rfl, O5⟩; have OO := O5)
                refine hK.out _ _ ?_ (fun hHeld => ?_)
                · (try dsimp only); exact HS.out _ OO.out.1
                clear hK KK
                try simp only [Act.put, List.setIfInBounds_toArray, List.set_cons_zero, List.set_cons_succ]
                refine ph_step (i := 20) rfl (by as_aux_lemma => kernel_rfl) (by rfl) (fun KK hK => ?_)
                (go_simp; go_at_call 34; (with_reducible refine (M6.out X HX.out _ _ _ (by first | with_reducible exact OO.out | with_reducible exact OO.out.drew)).mono ?_); rintro e Y6 ⟨A6, k6, rfl, O6⟩; have OO := O6)
                refine hK.out _ _ ?_ (fun hHeld => ?_)
                · (try dsimp only); exact HS.out _ OO.out.1
                clear hK KK
                try simp only [Act.put, List.setIfInBounds_toArray, List.set_cons_zero, List.set_cons_succ]
                refine ph_take (i := 21) (v := ?_) NS rfl (by as_aux_lemma => kernel_rfl) (by as_aux_lemma => kernel_rfl) (fun _ _ _ h => h) (by rfl) ?_ (by assumption) ?_
                rotate_left
                · (intro w hSw; (try dsimp only at hSw); go_simp; try with_reducible rfl)
                try simp only [Act.put, List.setIfInBounds_toArray, List.set_cons_zero, List.set_cons_succ]
                refine ph_step (i := 22) rfl (by as_aux_lemma => kernel_rfl) (by rfl) (fun KK hK => ?_)
                (go_simp; go_at_call 29; (with_reducible refine (E29.out X HX.out _ _ _ _ _ _ _ _ _ _ _ _ _ _ _ _ (by first | with_reducible exact OO.out | with_reducible exact OO.out.drew)).mono ?_); rintro e Y7 ⟨p2, rfl, O7⟩; have OO := Lib.hid O7.out.1)
                refine hK.out _ _ ?_ (fun hHeld => ?_)
                · (try dsimp only); exact HS.out _ OO.out.1
                clear hK KK
                try simp only [Act.put, List.setIfInBounds_toArray, List.set_cons_zero, List.set_cons_succ]
                refine ph_take (i := 23) (v := ?_) NS rfl (by as_aux_lemma => kernel_rfl) (by as_aux_lemma => kernel_rfl) (fun _ _ _ h => h) (by rfl) ?_ (by assumption) ?_
                rotate_left
                · (intro w hSw; (try dsimp only at hSw); go_simp; try with_reducible rfl)
                try simp only [Act.put, List.setIfInBounds_toArray, List.set_cons_zero, List.set_cons_succ]
                refine ph_take (i := 24) (v := ?_) NS rfl (by as_aux_lemma => kernel_rfl) (by as_aux_lemma => kernel_rfl) (fun _ _ _ h => h) (by rfl) ?_ (by assumption) ?_
                rotate_left
                · (intro w hSw; (try dsimp only at hSw); go_simp; try with_reducible rfl)
                try simp only [Act.put, List.setIfInBounds_toArray, List.set_cons_zero, List.set_cons_succ]
                refine ph_take (i := 25) (v := ?_) NS rfl (by as_aux_lemma => kernel_rfl) (by as_aux_lemma => kernel_rfl) (fun _ _ _ h => h) (by rfl) ?_ (by assumption) ?_
                rotate_left
                · (intro w hSw; (try dsimp only at hSw); go_simp; try with_reducible rfl)
                try simp only [Act.put, List.setIfInBounds_toArray, List.set_cons_zero, List.set_cons_succ]
                refine ph_take (i := 27) (v := ?_) NS rfl (by as_aux_lemma => kernel_rfl) (by as_aux_lemma => kernel_rfl) (fun _ _ _ h => h) (by rfl) ?_ (by assumption) ?_
                rotate_left
                · (intro w hSw; (try dsimp only at hSw); go_simp; try with_reducible rfl)
                try simp only [Act.put, List.setIfInBounds_toArray, List.set_cons_zero, List.set_cons_succ]
                refine ph_step (i := 28) rfl (by as_aux_lemma => kernel_rfl) (by rfl) (fun KK hK => ?_)
                obtain ⟨u1, u2, z0, z1, z2, zf⟩ := OO.out.2.1 _ rfl
                have f0 := zf 0
                have f1 := zf 1
                have f2 := zf 2
                have O9 := Lib.hid (OO.out.below (zr3_same ⟨z0, z1, z2, zf⟩))
                have OP := Lib.hid (O7.out.2.below (zr3_same ⟨z0, z1, z2, zf⟩))
                go_simp
                have OO := O9
                refine hK.out _ _ ?_ (fun hHeld => ?_)
                · (try dsimp only); exact HS.out _ OO.out.1
                clear hK KK
                try simp only [Act.put, List.setIfInBounds_toArray, List.set_cons_zero, List.set_cons_succ]
                refine wpAnyH_done (by as_aux_lemma => kernel_rfl) ?_ _
                go_wp2_with fail
                go_meet
                exact ⟨p2, k8, rfl, rfl, Lib.hid ⟨OO.out.1, OP.out, (OO.out.2.1 _ rfl).1, (OO.out.2.1 _ rfl).2.1, (OO.out.2.1 _ rfl).2.2⟩⟩
            · skip
              go_simp
              have OO : Hid (OS X (some Y1.heap.size) _ (Y1.alloc (.cells #[.int .i64 0, .int .i64 0, .int .i64 0] 59))) := Lib.hid (OO.out.box)
              obtain ⟨k8, hk8⟩ : ∃ z, Y1.heap.size = z := ⟨_, rfl⟩
              obtain ⟨V8, hV8⟩ : ∃ z, Y1.alloc (.cells #[.int .i64 0, .int .i64 0, .int .i64 0] 59) = z := ⟨_, rfl⟩
              rw [hk8] at OO ⊢
              rw [hV8] at OO ⊢
              clear hk8 hV8
              refine hK.out _ _ ?_ (fun hHeld => ?_)
              · (try dsimp only); exact HS.out _ OO.out.1
              clear hK KK
              try simp only [Act.put, List.setIfInBounds_toArray, List.set_cons_zero, List.set_cons_succ]
              refine ph_step (i := 8) rfl (by as_aux_lemma => kernel_rfl) (by rfl) (fun KK hK => ?_)
              (go_simp; go_at_call 34; (with_reducible refine (M2.out X HX.out _ _ _ (by first | with_reducible exact OO.out | with_reducible exact OO.out.drew)).mono ?_); rintro e Y2 ⟨A2, k2, rfl, O2⟩; have OO := O2)
              refine hK.out _ _ ?_ (fun hHeld => ?_)
              · (try dsimp only); exact HS.out _ OO.out.1
              clear hK KK
              try simp only [Act.put, List.setIfInBounds_toArray, List.set_cons_zero, List.set_cons_succ]
              refine ph_step (i := 11) rfl (by as_aux_lemma => kernel_rfl) (by rfl) (fun KK hK => ?_)
              (go_simp; go_at_call 34; (with_reducible refine (M3.out X HX.out _ _ _ (by first | with_reducible exact OO.out | with_reducible exact OO.out.drew)).mono ?_); rintro e Y3 ⟨A3, k3, rfl, O3⟩; have OO := O3)
              refine hK.out _ _ ?_ (fun hHeld => ?_)
              · (try dsimp only); exact HS.out _ OO.out.1
              clear hK KK
              try simp only [Act.put, List.setIfInBounds_toArray, List.set_cons_zero, List.set_cons_succ]
              refine ph_step (i := 14) rfl (by as_aux_lemma => kernel_rfl) (by rfl) (fun KK hK => ?_)
              (go_simp; go_at_call 34; (with_reducible refine (M4.out X HX.out _ _ _ (by first | with_reducible exact OO.out | with_reducible exact OO.out.drew)).mono ?_); rintro e Y4 ⟨A4, k4, rfl, O4⟩; have OO := O4)
              refine hK.out _ _ ?_ (fun hHeld => ?_)
              · (try dsimp only); exact HS.out _ OO.out.1
              clear hK KK
              try simp only [Act.put, List.setIfInBounds_toArray, List.set_cons_zero, List.set_cons_succ]
              refine ph_step (i := 17) rfl (by as_aux_lemma => kernel_rfl) (by rfl) (fun KK hK => ?_)
              (go_simp; go_at_call 34; (with_reducible refine (M5.out X HX.out _ _ _ (by first | with_reducible exact OO.out | with_reducible exact OO.out.drew)).mono ?_); rintro e Y5 ⟨A5, k5, rfl, O5⟩; have OO := O5)
              refine hK.out _ _ ?_ (fun hHeld => ?_)
              · (try dsimp only); exact HS.out _ OO.out.1
              clear hK KK
              try simp only [Act.put, List.setIfInBounds_toArray, List.set_cons_zero, List.set_cons_succ]
              refine ph_step (i := 20) rfl (by as_aux_lemma => kernel_rfl) (by rfl) (fun KK hK => ?_)
              (go_simp; go_at_call 34; (with_reducible refine (M6.out X HX.out _ _ _ (by first | with_reducible exact OO.out | with_reducible exact OO.out.drew)).mono ?_); rintro e Y6 ⟨A6, k6, rfl, O6⟩; have OO := O6)
              refine hK.out _ _ ?_ (fun hHeld => ?_)
              · (try dsimp only); exact HS.out _ OO.out.1
              clear hK KK
              try simp only [Act.put, List.setIfInBounds_toArray, List.set_cons_zero, List.set_cons_succ]
              refine ph_take (i := 21) (v := ?_) NS rfl (by as_aux_lemma => kernel_rfl) (by as_aux_lemma => kernel_rfl) (fun _ _ _ h => h) (by rfl) ?_ (by assumption) ?_
              rotate_left
              · (intro w hSw; (try dsimp only at hSw); go_simp; try with_reducible rfl)
              try simp only [Act.put, List.setIfInBounds_toArray, List.set_cons_zero, List.set_cons_succ]
              refine ph_step (i := 22) rfl (by as_aux_lemma => kernel_rfl) (by rfl) (fun KK hK => ?_)
              (go_simp; go_at_call 29; (with_reducible refine (E29.out X HX.out _ _ _ _ _ _ _ _ _ _ _ _ _ _ _ _ (by first | with_reducible exact OO.out | with_reducible exact OO.out.drew)).mono ?_); rintro e Y7 ⟨p2, rfl, O7⟩; have OO := Lib.hid O7.out.1)
              refine hK.out _ _ ?_ (fun hHeld => ?_)
              · (try dsimp only); exact HS.out _ OO.out.1
              clear hK KK
              try simp only [Act.put, List.setIfInBounds_toArray, List.set_cons_zero, List.set_cons_succ]
              refine ph_take (i := 23) (v := ?_) NS rfl (by as_aux_lemma => kernel_rfl) (by as_aux_lemma => kernel_rfl) (fun _ _ _ h => h) (by rfl) ?_ (by assumption) ?_
              rotate_left
              · (intro w hSw; (try dsimp only at hSw); go_simp; try with_reducible rfl)
              try simp only [Act.put, List.setIfInBounds_toArray, List.set_cons_zero, List.set_cons_succ]
              refine ph_take (i := 24) (v := ?_) NS rfl (by as_aux_lemma => kernel_rfl) (by as_aux_lemma => kernel_rfl) (fun _ _ _ h => h) (by rfl) ?_ (by assumption) ?_
              rotate_left
              · (intro w hSw; (try dsimp only at hSw); go_simp; try with_reducible rfl)
              try simp only [Act.put, List.setIfInBounds_toArray, List.set_cons_zero, List.set_cons_succ]
              refine ph_take (i := 25) (v := ?_) NS rfl (by as_aux_lemma => kernel_rfl) (by as_aux_lemma => kernel_rfl) (fun _ _ _ h => h) (by rfl) ?_ (by assumption) ?_
              rotate_left
              · (intro w hSw; (try dsimp only at hSw); go_simp; try with_reducible rfl)
              try simp only [Act.put, List.setIfInBounds_toArray, List.set_cons_zero, List.set_cons_succ]
              refine ph_take (i := 27) (v := ?_) NS rfl (by as_aux_lemma => kernel_rfl) (by as_aux_lemma => kernel_rfl) (fun _ _ _ h => h) (by rfl) ?_ (by assumption) ?_
              rotate_left
              · (intro w hSw; (try dsimp only at hSw); go_simp; try with_reducible rfl)
              try simp only [Act.put, List.setIfInBounds_toArray, List.set_cons_zero, List.set_cons_succ]
              refine ph_step (i := 28) rfl (by as_aux_lemma => kernel_rfl) (by rfl) (fun KK hK => ?_)
              obtain ⟨u1, u2, z0, z1, z2, zf⟩ := OO.out.2.1 _ rfl
              have f0 := zf 0
              have f1 := zf 1
              have f2 := zf 2
              have O9 := Lib.hid (OO.out.below (zr3_same ⟨z0, z1, z2, zf⟩))
              have OP := Lib.hid (O7.out.2.below (zr3_same ⟨z0, z1, z2, zf⟩))
              go_simp
              have OO := O9
              refine hK.out _ _ ?_ (fun hHeld => ?_)
              · (try dsimp only); exact HS.out _ OO.out.1
              clear hK KK
              try simp only [Act.put, List.setIfInBounds_toArray, List.set_cons_zero, List.set_cons_succ]
              refine wpAnyH_done (by as_aux_lemma => kernel_rfl) ?_ _
              go_wp2_with fail
              go_meet
              exact ⟨p2, k8, rfl, rfl, Lib.hid ⟨OO.out.1, OP.out, (OO.out.2.1 _ rfl).1, (OO.out.2.1 _ rfl).2.1, (OO.out.2.1 _ rfl).2.2⟩⟩
          · skip
            go_simp
            have OO : Hid (OS X (some Y0.heap.size) _ (Y0.alloc (.cells #[.int .i64 0, .int .i64 0, .int .i64 0] 59))) := Lib.hid (OO.out.box)
            obtain ⟨k8, hk8⟩ : ∃ z, Y0.heap.size = z := ⟨_, rfl⟩
            obtain ⟨V8, hV8⟩ : ∃ z, Y0.alloc (.cells #[.int .i64 0, .int .i64 0, .int .i64 0] 59) = z := ⟨_, rfl⟩
            rw [hk8] at OO ⊢
            rw [hV8] at OO ⊢
            clear hk8 hV8
            refine hK.out _ _ ?_ (fun hHeld => ?_)
            · (try dsimp only); exact HS.out _ OO.out.1
            clear hK KK
            try simp only [Act.put, List.setIfInBounds_toArray, List.set_cons_zero, List.set_cons_succ]
            refine ph_step (i := 5) rfl (by as_aux_lemma => kernel_rfl) (by rfl) (fun KK hK => ?_)
            (go_simp; go_at_call 34; (with_reducible refine (M1.out X HX.out _ _ _ (by first | with_reducible exact OO.out | with_reducible exact OO.out.drew)).mono ?_); rintro e Y1 ⟨A1, k1, rfl, O1⟩; have OO := O1)
            refine hK.out _ _ ?_ (fun hHeld => ?_)
            · (try dsimp only); exact HS.out _ OO.out.1
            clear hK KK
            try simp only [Act.put, List.setIfInBounds_toArray, List.set_cons_zero, List.set_cons_succ]
            refine ph_step (i := 8) rfl (by as_aux_lemma => kernel_rfl) (by rfl) (fun KK hK => ?_)
            (go_simp; go_at_call 34; (with_reducible refine (M2.out X HX.out _ _ _ (by first | with_reducible exact OO.out | with_reducible exact OO.out.drew)).mono ?_); rintro e Y2 ⟨A2, k2, rfl, O2⟩; have OO := O2)
            refine hK.out _ _ ?_ (fun hHeld => ?_)
            · (try dsimp only); exact HS.out _ OO.out.1
            clear hK KK
            try simp only [Act.put, List.setIfInBounds_toArray, List.set_cons_zero, List.set_cons_succ]
            refine ph_step (i := 11) rfl (by as_aux_lemma => kernel_rfl) (by rfl) (fun KK hK => ?_)
            (go_simp; go_at_call 34; (with_reducible refine (M3.out X HX.out _ _ _ (by first | with_reducible exact OO.out | with_reducible exact OO.out.drew)).mono ?_); rintro e Y3 ⟨A3, k3, rfl, O3⟩; have OO := O3)
            refine hK.out _ _ ?_ (fun hHeld => ?_)
            · (try dsimp only); exact HS.out _ OO.out.1
            clear hK KK
            try simp only [Act.put, List.setIfInBounds_toArray, List.set_cons_zero, List.set_cons_succ]
            refine ph_step (i := 14) rfl (by as_aux_lemma => kernel_rfl) (by rfl) (fun KK hK => ?_)
            (go_simp; go_at_call 34; (with_reducible refine (M4.out X HX.out _ _ _ (by first | with_reducible exact OO.out | with_reducible exact OO.out.drew)).mono ?_); rintro e Y4 ⟨A4, k4, rfl, O4⟩; have OO := O4)
            refine hK.out _ _ ?_ (fun hHeld => ?_)
            · (try dsimp only); exact HS.out _ OO.out.1
            clear hK KK
            try simp only [Act.put, List.setIfInBounds_toArray, List.set_cons_zero, List.set_cons_succ]
            refine ph_step (i := 17) rfl (by as_aux_lemma => kernel_rfl) (by rfl) (fun KK hK => ?_)
            (go_simp; go_at_call 34; (with_reducible refine (M5.out X HX.out _ _ _ (by first | with_reducible exact OO.out | with_reducible exact OO.out.drew)).mono ?_); rintro e Y5 ⟨A5, k5, rfl, O5⟩; have OO := O5)
            refine hK.out _ _ ?_ (fun hHeld => ?_)
            · (try dsimp only); exact HS.out _ OO.out.1
            clear hK KK
            try simp only [Act.put, List.setIfInBounds_toArray, List.set_cons_zero, List.set_cons_succ]
            refine ph_step (i := 20) rfl (by as_aux_lemma => kernel_rfl) (by rfl) (fun KK hK => ?_)
            (go_simp; go_at_call 34; (with_reducible refine (M6.out X HX.out _ _ _ (by first | with_reducible exact OO.out | with_reducible exact OO.out.drew)).mono ?_); rintro e Y6 ⟨A6, k6, rfl, O6⟩; have OO := O6)
            refine hK.out _ _ ?_ (fun hHeld => ?_)
            · (try dsimp only); exact HS.out _ OO.out.1
            clear hK KK
            try simp only [Act.put, List.setIfInBounds_toArray, List.set_cons_zero, List.set_cons_succ]
            refine ph_take (i := 21) (v := ?_) NS rfl (by as_aux_lemma => kernel_rfl) (by as_aux_lemma => kernel_rfl) (fun _ _ _ h => h) (by rfl) ?_ (by assumption) ?_
            rotate_left
            · (intro w hSw; (try dsimp only at hSw); go_simp; try with_reducible rfl)
            try simp only [Act.put, List.setIfInBounds_toArray, List.set_cons_zero, List.set_cons_succ]
            refine ph_step (i := 22) rfl (by as_aux_lemma => kernel_rfl) (by rfl) (fun KK hK => ?_)
            (go_simp; go_at_call 29; (with_reducible refine (E29.out X HX.out _ _ _ _ _ _ _ _ _ _ _ _ _ _ _ _ (by first | with_reducible exact OO.out | with_reducible exact OO.out.drew)).mono ?_); rintro e Y7 ⟨p2, rfl, O7⟩; have OO := Lib.hid O7.out.1)
            refine hK.out _ _ ?_ (fun hHeld => ?_)
            · (try dsimp only); exact HS.out _ OO.out.1
            clear hK KK
            try simp only [Act.put, List.setIfInBounds_toArray, List.set_cons_zero, List.set_cons_succ]
            refine ph_take (i := 23) (v := ?_) NS rfl (by as_aux_lemma => kernel_rfl) (by as_aux_lemma => kernel_rfl) (fun _ _ _ h => h) (by rfl) ?_ (by assumption) ?_
            rotate_left
            · (intro w hSw; (try dsimp only at hSw); go_simp; try with_reducible rfl)
            try simp only [Act.put, List.setIfInBounds_toArray, List.set_cons_zero, List.set_cons_succ]
            refine ph_take (i := 24) (v := ?_) NS rfl (by as_aux_lemma => kernel_rfl) (by as_aux_lemma => kernel_rfl) (fun _ _ _ h => h) (by rfl) ?_ (by assumption) ?_
            rotate_left
            · (intro w hSw; (try dsimp only at hSw); go_simp; try with_reducible rfl)
            try simp only [Act.put, List.setIfInBounds_toArray, List.set_cons_zero, List.set_cons_succ]
            refine ph_take (i := 25) (v := ?_) NS rfl (by as_aux_lemma => kernel_rfl) (by as_aux_lemma => kernel_rfl) (fun _ _ _ h => h) (by rfl) ?_ (by assumption) ?_
            rotate_left
            · (intro w hSw; (try dsimp only at hSw); go_simp; try with_reducible rfl)
            try simp only [Act.put, List.setIfInBounds_toArray, List.set_cons_zero, List.set_cons_succ]
            refine ph_take (i := 27) (v := ?_) NS rfl (by as_aux_lemma => kernel_rfl) (by as_aux_lemma => kernel_rfl) (fun _ _ _ h => h) (by rfl) ?_ (by assumption) ?_
            rotate_left
            · (intro w hSw; (try dsimp only at hSw); go_simp; try with_reducible rfl)
            try simp only [Act.put, List.setIfInBounds_toArray, List.set_cons_zero, List.set_cons_succ]
            refine ph_step (i := 28) rfl (by as_aux_lemma => kernel_rfl) (by rfl) (fun KK hK => ?_)
            obtain ⟨u1, u2, z0, z1, z2, zf⟩ := OO.out.2.1 _ rfl
            have f0 := zf 0
            have f1 := zf 1
            have f2 := zf 2
            have O9 := Lib.hid (OO.out.below (zr3_same ⟨z0, z1, z2, zf⟩))
            have OP := Lib.hid (O7.out.2.below (zr3_same ⟨z0, z1, z2, zf⟩))
            go_simp
            have OO := O9
            refine hK.out _ _ ?_ (fun hHeld => ?_)
            · (try dsimp only); exact HS.out _ OO.out.1
            clear hK KK
            try simp only [Act.put, List.setIfInBounds_toArray, List.set_cons_zero, List.set_cons_succ]
            refine wpAnyH_done (by as_aux_lemma => kernel_rfl) ?_ _
            go_wp2_with fail
            go_meet
            exact ⟨p2, k8, rfl, rfl, Lib.hid ⟨OO.out.1, OP.out, (OO.out.2.1 _ rfl).1, (OO.out.2.1 _ rfl).2.1, (OO.out.2.1 _ rfl).2.2⟩⟩
        · skip
          go_simp
          have OO : Hid (OS X (some X.heap.size) _ ((X.alloc (.cells #[.int .i64 0, .int .i64 0, .int .i64 0] 59)).drew)) := Lib.hid (OO.out.box.drew)
          obtain ⟨k8, hk8⟩ : ∃ z, X.heap.size = z := ⟨_, rfl⟩
          obtain ⟨V8, hV8⟩ : ∃ z, (X.alloc (.cells #[.int .i64 0, .int .i64 0, .int .i64 0] 59)).drew = z := ⟨_, rfl⟩
          rw [hk8] at OO ⊢
          rw [hV8] at OO ⊢
          clear hk8 hV8
          refine hK.out _ _ ?_ (fun hHeld => ?_)
          · (try dsimp only); exact HS.out _ OO.out.1
          clear hK KK
          try simp only [Act.put, List.setIfInBounds_toArray, List.set_cons_zero, List.set_cons_succ]
          refine ph_step (i := 2) rfl (by as_aux_lemma => kernel_rfl) (by rfl) (fun KK hK => ?_)
          (go_simp; go_at_call 34; (with_reducible refine (M0.out X HX.out _ _ _ (by first | with_reducible exact OO.out | with_reducible exact OO.out.drew)).mono ?_); rintro e Y0 ⟨A0, k0, rfl, O0⟩; have OO := O0)
          refine hK.out _ _ ?_ (fun hHeld => ?_)
          · (try dsimp only); exact HS.out _ OO.out.1
          clear hK KK
          try simp only [Act.put, List.setIfInBounds_toArray, List.set_cons_zero, List.set_cons_succ]
          refine ph_step (i := 5) rfl (by as_aux_lemma => kernel_rfl) (by rfl) (fun KK hK => ?_)
          (go_simp; go_at_call 34; (with_reducible refine (M1.out X HX.out _ _ _ (by first | with_reducible exact OO.out | with_reducible exact OO.out.drew)).mono ?_); rintro e Y1 ⟨A1, k1, rfl, O1⟩; have OO := O1)
          refine hK.out _ _ ?_ (fun hHeld => ?_)
          · (try dsimp only); exact HS.out _ OO.out.1
          clear hK KK
          try simp only [Act.put, List.setIfInBounds_toArray, List.set_cons_zero, List.set_cons_succ]
          refine ph_step (i := 8) rfl (by as_aux_lemma => kernel_rfl) (by rfl) (fun KK hK => ?_)
          (go_simp; go_at_call 34; (with_reducible refine (M2.out X HX.out _ _ _ (by first | with_reducible exact OO.out | with_reducible exact OO.out.drew)).mono ?_); rintro e Y2 ⟨A2, k2, rfl, O2⟩; have OO := O2)
          refine hK.out _ _ ?_ (fun hHeld => ?_)
          · (try dsimp only); exact HS.out _ OO.out.1
          clear hK KK
          try simp only [Act.put, List.setIfInBounds_toArray, List.set_cons_zero, List.set_cons_succ]
          refine ph_step (i := 11) rfl (by as_aux_lemma => kernel_rfl) (by rfl) (fun KK hK => ?_)
          (go_simp; go_at_call 34; (with_reducible refine (M3.out X HX.out _ _ _ (by first | with_reducible exact OO.out | with_reducible exact OO.out.drew)).mono ?_); rintro e Y3 ⟨A3, k3, rfl, O3⟩; have OO := O3)
          refine hK.out _ _ ?_ (fun hHeld => ?_)
          · (try dsimp only); exact HS.out _ OO.out.1
          clear hK KK
          try simp only [Act.put, List.setIfInBounds_toArray, List.set_cons_zero, List.set_cons_succ]
          refine ph_step (i := 14) rfl (by as_aux_lemma => kernel_rfl) (by rfl) (fun KK hK => ?_)
          (go_simp; go_at_call 34; (with_reducible refine (M4.out X HX.out _ _ _ (by first | with_reducible exact OO.out | with_reducible exact OO.out.drew)).mono ?_); rintro e Y4 ⟨A4, k4, rfl, O4⟩; have OO := O4)
          refine hK.out _ _ ?_ (fun hHeld => ?_)
          · (try dsimp only); exact HS.out _ OO.out.1
          clear hK KK
          try simp only [Act.put, List.setIfInBounds_toArray, List.set_cons_zero, List.set_cons_succ]
          refine ph_step (i := 17) rfl (by as_aux_lemma => kernel_rfl) (by rfl) (fun KK hK => ?_)
          (go_simp; go_at_call 34; (with_reducible refine (M5.out X HX.out _ _ _ (by first | with_reducible exact OO.out | with_reducible exact OO.out.drew)).mono ?_); rintro e Y5 ⟨A5, k5, rfl, O5⟩; have OO := O5)
          refine hK.out _ _ ?_ (fun hHeld => ?_)
          · (try dsimp only); exact HS.out _ OO.out.1
          clear hK KK
          try simp only [Act.put, List.setIfInBounds_toArray, List.set_cons_zero, List.set_cons_succ]
          refine ph_step (i := 20) rfl (by as_aux_lemma => kernel_rfl) (by rfl) (fun KK hK => ?_)
          (go_simp; go_at_call 34; (with_reducible refine (M6.out X HX.out _ _ _ (by first | with_reducible exact OO.out | with_reducible exact OO.out.drew)).mono ?_); rintro e Y6 ⟨A6, k6, rfl, O6⟩; have OO := O6)
          refine hK.out _ _ ?_ (fun hHeld => ?_)
          · (try dsimp only); exact HS.out _ OO.out.1
          clear hK KK
          try simp only [Act.put, List.setIfInBounds_toArray, List.set_cons_zero, List.set_cons_succ]
          refine ph_take (i := 21) (v := ?_) NS rfl (by as_aux_lemma => kernel_rfl) (by as_aux_lemma => kernel_rfl) (fun _ _ _ h => h) (by rfl) ?_ (by assumption) ?_
          rotate_left
          · (intro w hSw; (try dsimp only at hSw); go_simp; try with_reducible rfl)
          try simp only [Act.put, List.setIfInBounds_toArray, List.set_cons_zero, List.set_cons_succ]
          refine ph_step (i := 22) rfl (by as_aux_lemma => kernel_rfl) (by rfl) (fun KK hK => ?_)
          (go_simp; go_at_call 29; (with_reducible refine (E29.out X HX.out _ _ _ _ _ _ _ _ _ _ _ _ _ _ _ _ (by first | with_reducible exact OO.out | with_reducible exact OO.out.drew)).mono ?_); rintro e Y7 ⟨p2, rfl, O7⟩; have OO := Lib.hid O7.out.1)
          refine hK.out _ _ ?_ (fun hHeld => ?_)
          · (try dsimp only); exact HS.out _ OO.out.1
          clear hK KK
          try simp only [Act.put, List.setIfInBounds_toArray, List.set_cons_zero, List.set_cons_succ]
          refine ph_take (i := 23) (v := ?_) NS rfl (by as_aux_lemma => kernel_rfl) (by as_aux_lemma => kernel_rfl) (fun _ _ _ h => h) (by rfl) ?_ (by assumption) ?_
          rotate_left
          · (intro w hSw; (try dsimp only at hSw); go_simp; try with_reducible rfl)
          try simp only [Act.put, List.setIfInBounds_toArray, List.set_cons_zero, List.set_cons_succ]
          refine ph_take (i := 24) (v := ?_) NS rfl (by as_aux_lemma => kernel_rfl) (by as_aux_lemma => kernel_rfl) (fun _ _ _ h => h) (by rfl) ?_ (by assumption) ?_
          rotate_left
          · (intro w hSw; (try dsimp only at hSw); go_simp; try with_reducible rfl)
          try simp only [Act.put, List.setIfInBounds_toArray, List.set_cons_zero, List.set_cons_succ]
          refine ph_take (i := 25) (v := ?_) NS rfl (by as_aux_lemma => kernel_rfl) (by as_aux_lemma => kernel_rfl) (fun _ _ _ h => h) (by rfl) ?_ (by assumption) ?_
          rotate_left
          · (intro w hSw; (try dsimp only at hSw); go_simp; try with_reducible rfl)
          try simp only [Act.put, List.setIfInBounds_toArray, List.set_cons_zero, List.set_cons_succ]
          refine ph_take (i := 27) (v := ?_) NS rfl (by as_aux_lemma => kernel_rfl) (by as_aux_lemma => kernel_rfl) (fun _ _ _ h => h) (by rfl) ?_ (by assumption) ?_
          rotate_left
          · (intro w hSw; (try dsimp only at hSw); go_simp; try with_reducible rfl)
          try simp only [Act.put, List.setIfInBounds_toArray, List.set_cons_zero, List.set_cons_succ]
          refine ph_step (i := 28) rfl (by as_aux_lemma => kernel_rfl) (by rfl) (fun KK hK => ?_)
          obtain ⟨u1, u2, z0, z1, z2, zf⟩ := OO.out.2.1 _ rfl
          have f0 := zf 0
          have f1 := zf 1
          have f2 := zf 2
          have O9 := Lib.hid (OO.out.below (zr3_same ⟨z0, z1, z2, zf⟩))
          have OP := Lib.hid (O7.out.2.below (zr3_same ⟨z0, z1, z2, zf⟩))
          go_simp
          have OO := O9
          refine hK.out _ _ ?_ (fun hHeld => ?_)
          · (try dsimp only); exact HS.out _ OO.out.1
          clear hK KK
          try simp only [Act.put, List.setIfInBounds_toArray, List.set_cons_zero, List.set_cons_succ]
          refine wpAnyH_done (by as_aux_lemma => kernel_rfl) ?_ _
          go_wp2_with fail
          go_meet
          exact ⟨p2, k8, rfl, rfl, Lib.hid ⟨OO.out.1, OP.out, (OO.out.2.1 _ rfl).1, (OO.out.2.1 _ rfl).2.1, (OO.out.2.1 _ rfl).2.2⟩⟩
      case rest =>
        obtain ⟨p2, k8, rfl, rfl, hh⟩ := hcut
        obtain ⟨Y, hY⟩ : ∃ z, wc = z := ⟨_, rfl⟩
        rw [hY] at hh ⊢
        clear hY
        have HB := Lib.hid (HP.out.below hh.out.1)
        have HB2 := Lib.hid hh.out.2.1
        obtain ⟨z60, z61, z62, -⟩ := HZ6.out.2.below HZ6.out.1 hh.out.1
        obtain ⟨z80, z81, z82, -⟩ := hh.out.2.2.2.2
        have HWY := Lib.hid (HX.out.trans (hh.out.1.mono HX.out.size))
        have E59 := fun W => ne59 0 0 0 W
        clear M0 M1 M2 M3 M4 M5 M6 E29 HS OO HP HZ6 HX hh H10
        have HWF := Lib.hid hc
        clear hc
        obtain ⟨B0, hB0⟩ : ∃ x, decide (¬ Pq.valueOf (d.sp 0) c = []) = x := ⟨_, rfl⟩
        have HQ0 := Lib.hid hB0
        clear hB0
        have G17 : Hid (∀ q, PF Y q d.ps d.sp d.cf → ∀ W, Below Y.heap.size Y W → Calls Tryz.prog 17 #[.pointer (some ⟨q, 0, none⟩), .int .i64 c] W fun e W' => e = .returned (.bool B0) ∧ Hid (Below Y.heap.size Y W')) := Lib.hid (fun q hq W hb => by
          obtain ⟨p', A', c', k1, k2⟩ := (hq.below hb).prs 0 (by omega)
          have hg := HSZ.out.spg 0
          have := exc17_at q p' A' c' (d.sp 0) c W k1 k2 (by have := HSZ.out.spf 0; omega) hg.1 (fun t ht => (hg.2 t ht).2.2.1)
          rw [has_is (by decide) HSZ.out.ex, HQ0.out] at this
          exact this.mono (fun e W' h => ⟨h.1, Lib.hid (hb.trans (h.2.mono hb.size))⟩))
        obtain ⟨B1, hB1⟩ : ∃ x, decide (¬ Pq.valueOf (d.sp 1) c = []) = x := ⟨_, rfl⟩
        have HQ1 := Lib.hid hB1
        clear hB1
        have G19 : Hid (∀ q, PF Y q d.ps d.sp d.cf → ∀ W, Below Y.heap.size Y W → Calls Tryz.prog 19 #[.pointer (some ⟨q, 0, none⟩), .int .i64 c] W fun e W' => e = .returned (.bool B1) ∧ Hid (Below Y.heap.size Y W')) := Lib.hid (fun q hq W hb => by
          obtain ⟨p', A', c', k1, k2⟩ := (hq.below hb).prs 1 (by omega)
          have hg := HSZ.out.spg 1
          have := ign19_at q p' A' c' (d.sp 1) c W k1 k2 (by have := HSZ.out.spf 1; omega) hg.1 (fun t ht => (hg.2 t ht).2.2.1)
          rw [has_is (by decide) HSZ.out.ign, HQ1.out] at this
          exact this.mono (fun e W' h => ⟨h.1, Lib.hid (hb.trans (h.2.mono hb.size))⟩))
        obtain ⟨S2, hS2⟩ : ∃ x, bs (statOf (d.sp 2) c) = x := ⟨_, rfl⟩
        have HQ2 := Lib.hid hS2
        clear hS2
        have G20 : Hid (∀ q, PF Y q d.ps d.sp d.cf → ∀ W, Below Y.heap.size Y W → Calls Tryz.prog 20 #[.pointer (some ⟨q, 0, none⟩), .int .i64 c] W fun e W' => e = .returned (.string S2) ∧ Hid (Below Y.heap.size Y W')) := Lib.hid (fun q hq W hb => by
          obtain ⟨p', A', c', k1, k2⟩ := (hq.below hb).prs 2 (by omega)
          have hg := HSZ.out.spg 2
          have := sta20_at q p' A' c' (d.sp 2) c W k1 k2 (by have := HSZ.out.spf 2; omega) hg.1 (fun t ht => (hg.2 t ht).2.2.1)
          rw [HQ2.out] at this
          exact this.mono (fun e W' h => ⟨h.1, Lib.hid (hb.trans (h.2.mono hb.size))⟩))
        obtain ⟨S3, hS3⟩ : ∃ x, bs (Pq.valueOf (d.sp 3) c) = x := ⟨_, rfl⟩
        have HQ3 := Lib.hid hS3
        clear hS3
        have G22 : Hid (∀ q, PF Y q d.ps d.sp d.cf → ∀ W, Below Y.heap.size Y W → Calls Tryz.prog 22 #[.pointer (some ⟨q, 0, none⟩), .int .i64 c] W fun e W' => e = .returned (.string S3) ∧ Hid (Below Y.heap.size Y W')) := Lib.hid (fun q hq W hb => by
          obtain ⟨p', A', c', k1, k2⟩ := (hq.below hb).prs 3 (by omega)
          have hg := HSZ.out.spg 3
          have := scr22_at q p' A' c' (d.sp 3) c W k1 k2 (by have := HSZ.out.spf 3; omega) hg.1 (fun t ht => (hg.2 t ht).2.2.1)
          rw [HQ3.out] at this
          exact this.mono (fun e W' h => ⟨h.1, Lib.hid (hb.trans (h.2.mono hb.size))⟩))
        obtain ⟨S4, hS4⟩ : ∃ x, bs (Pq.valueOf (d.sp 4) c) = x := ⟨_, rfl⟩
        have HQ4 := Lib.hid hS4
        clear hS4
        have G23 : Hid (∀ q, PF Y q d.ps d.sp d.cf → ∀ W, Below Y.heap.size Y W → Calls Tryz.prog 23 #[.pointer (some ⟨q, 0, none⟩), .int .i64 c] W fun e W' => e = .returned (.string S4) ∧ Hid (Below Y.heap.size Y W')) := Lib.hid (fun q hq W hb => by
          obtain ⟨p', A', c', k1, k2⟩ := (hq.below hb).prs 4 (by omega)
          have hg := HSZ.out.spg 4
          have := joi23_at q p' A' c' (d.sp 4) c W k1 k2 (by have := HSZ.out.spf 4; omega) hg.1 (fun t ht => (hg.2 t ht).2.2.1)
          rw [HQ4.out] at this
          exact this.mono (fun e W' h => ⟨h.1, Lib.hid (hb.trans (h.2.mono hb.size))⟩))
        obtain ⟨G, hG⟩ : ∃ x, bs (Uc.patOf d.ps c).gc = x := ⟨_, rfl⟩
        have HG := Lib.hid hG
        clear hG
        have HU1 : Hid (∃ p A ca ls, Y.cell? ⟨b, 0, none⟩ = some (.pointer p) ∧ Uc.TIn Y p A ca ls ∧ Uc.Ist Y ls d.ps) := Lib.hid HB.out.uni
        obtain ⟨u1p, Au1, cu1, ls1, hu⟩ := HU1.out
        have HU1 := Lib.hid hu
        clear hu
        have U1 : Hid (∀ W, Below Y.heap.size Y W → Calls Tryz.prog 15 #[.pointer (some ⟨b, 0, none⟩)] W fun e W' => e = .returned (.pointer u1p) ∧ Hid (Below Y.heap.size Y W')) := Lib.hid (fun W hb => by
          have hu := HU1.out.1
          have := uni15 b u1p W ((hb.cell (p := ⟨b, 0, none⟩) (World.block_lt_of_cell? Y _ hu)).trans hu)
          exact this.mono (fun e W' h => ⟨h.1, Lib.hid (h.2 ▸ hb)⟩))
        have V1 : Hid (∀ W, Below Y.heap.size Y W → Calls Tryz.prog 16 #[.pointer u1p, .int .i64 c] W fun e W' => e = .returned (.string G) ∧ Hid (Below Y.heap.size Y W')) := Lib.hid (fun W hb => by
          have hu := HU1.out
          have hI := hu.2.2
          have := Uc.gc14 u1p Au1 cu1 ls1 c W (hu.2.1.below hb) (by rw [hI.len]; have := HSZ.out.few; omega) (Uc.ist_rises hI HSZ.out.good)
          rw [(Uc.ist_at c hI).2.2.1, HG.out] at this
          exact this.mono (fun e W' h => ⟨h.1, Lib.hid (hb.trans (h.2.mono hb.size))⟩))
        have HU2 : Hid (∃ p A ca ls, Y.cell? ⟨p2, 0, none⟩ = some (.pointer p) ∧ Uc.TIn Y p A ca ls ∧ Uc.Ist Y ls d.ps) := Lib.hid HB2.out.uni
        obtain ⟨u2p, Au2, cu2, ls2, hu⟩ := HU2.out
        have HU2 := Lib.hid hu
        clear hu
        have U2 : Hid (∀ W, Below Y.heap.size Y W → Calls Tryz.prog 15 #[.pointer (some ⟨p2, 0, none⟩)] W fun e W' => e = .returned (.pointer u2p) ∧ Hid (Below Y.heap.size Y W')) := Lib.hid (fun W hb => by
          have hu := HU2.out.1
          have := uni15 p2 u2p W ((hb.cell (p := ⟨p2, 0, none⟩) (World.block_lt_of_cell? Y _ hu)).trans hu)
          exact this.mono (fun e W' h => ⟨h.1, Lib.hid (h.2 ▸ hb)⟩))
        have V2 : Hid (∀ W, Below Y.heap.size Y W → Calls Tryz.prog 16 #[.pointer u2p, .int .i64 c] W fun e W' => e = .returned (.string G) ∧ Hid (Below Y.heap.size Y W')) := Lib.hid (fun W hb => by
          have hu := HU2.out
          have hI := hu.2.2
          have := Uc.gc14 u2p Au2 cu2 ls2 c W (hu.2.1.below hb) (by rw [hI.len]; have := HSZ.out.few; omega) (Uc.ist_rises hI HSZ.out.good)
          rw [(Uc.ist_at c hI).2.2.1, HG.out] at this
          exact this.mono (fun e W' h => ⟨h.1, Lib.hid (hb.trans (h.2.mono hb.size))⟩))
        obtain ⟨pn, hpn⟩ : ∃ x, (ptsOf (d.sp 2)).length = x := ⟨_, rfl⟩
        have HPN := Lib.hid hpn
        clear hpn
        have P27 : Hid (∀ q, PF Y q d.ps d.sp d.cf → ∀ W, Below Y.heap.size Y W → Calls Tryz.prog 27 #[.pointer (some ⟨q, 0, none⟩)] W fun e W' => ∃ A1 c1, e = .returned (.slice A1 pn c1) ∧ Hid (Below Y.heap.size Y W' ∧ Below W.heap.size W W' ∧ Vals W' A1 pn (nums .i64 (ptsOf (d.sp 2))))) := Lib.hid (fun q hq W hb => by
          obtain ⟨p', A', c', k1, k2⟩ := (hq.below hb).prs 2 (by omega)
          refine (points27 q p' A' c' (d.sp 2) W k1 k2 (by have := HSZ.out.spf 2; omega) (fun t ht => by obtain ⟨f1, f2, f3, -⟩ := (HSZ.out.spg 2).2 t ht; exact ⟨f1, by omega, f2⟩)).mono ?_
          rintro e W' ⟨A1, c1, rfl, h2⟩
          rw [HPN.out] at h2 ⊢
          exact ⟨A1, c1, rfl, Lib.hid ⟨hb.trans (h2.out.1.mono hb.size), h2.out.1, h2.out.2⟩⟩)
        have P24 : Hid (∀ W A1 A2 c1 c2, Below Y.heap.size Y W → Vals W A1 pn (nums .i64 (ptsOf (d.sp 2))) → Vals W A2 pn (nums .i64 (ptsOf (d.sp 2))) → Calls Tryz.prog 24 #[.slice A1 pn c1, .slice A2 pn c2] W fun e W' => e = .returned (.bool true) ∧ Hid (Below Y.heap.size Y W')) := Lib.hid (fun W A1 A2 c1 c2 hb h1 h2 => by
          refine (same17 A1 A2 pn c1 c2 _ W h1 h2 (by rw [← HPN.out]; have := ptsOf_len (d.sp 2); omega)).mono ?_
          rintro e W' ⟨rfl, q, rfl⟩
          exact ⟨rfl, Lib.hid (below_drewN hb q)⟩)
        have BX : Hid (Below Y.heap.size Y Y) := Lib.hid (Below.refl _ _)
        clear HU1 HU2 HSZ HG HPN HWF HQ0 HQ1 HQ2 HQ3 HQ4
        go_upto_region 9 with fail
        try simp only [List.append_eq, List.cons_append, List.nil_append]
        go_wp2_with (first
          | (go_at_call 20; (with_reducible refine (G20.out _ HB.out _ BX.out).mono ?_); rintro e w5 ⟨rfl, hb5⟩; have BX := hb5; clear hb5)
          | (go_at_call 20; (with_reducible refine (G20.out _ HB2.out _ BX.out).mono ?_); rintro e w5 ⟨rfl, hb5⟩; have BX := hb5; clear hb5)
          | (go_at_call 22; (with_reducible refine (G22.out _ HB.out _ BX.out).mono ?_); rintro e w5 ⟨rfl, hb5⟩; have BX := hb5; clear hb5)
          | (go_at_call 22; (with_reducible refine (G22.out _ HB2.out _ BX.out).mono ?_); rintro e w5 ⟨rfl, hb5⟩; have BX := hb5; clear hb5)
          | (go_at_call 23; (with_reducible refine (G23.out _ HB.out _ BX.out).mono ?_); rintro e w5 ⟨rfl, hb5⟩; have BX := hb5; clear hb5)
          | (go_at_call 23; (with_reducible refine (G23.out _ HB2.out _ BX.out).mono ?_); rintro e w5 ⟨rfl, hb5⟩; have BX := hb5; clear hb5)
          | (go_at_call 19; (with_reducible refine (G19.out _ HB.out _ BX.out).mono ?_); rintro e w5 ⟨rfl, hb5⟩; have BX := hb5; clear hb5)
          | (go_at_call 19; (with_reducible refine (G19.out _ HB2.out _ BX.out).mono ?_); rintro e w5 ⟨rfl, hb5⟩; have BX := hb5; clear hb5)
          | (go_at_call 17; (with_reducible refine (G17.out _ HB.out _ BX.out).mono ?_); rintro e w5 ⟨rfl, hb5⟩; have BX := hb5; clear hb5)
          | (go_at_call 17; (with_reducible refine (G17.out _ HB2.out _ BX.out).mono ?_); rintro e w5 ⟨rfl, hb5⟩; have BX := hb5; clear hb5)
          | (go_at_call 15; (with_reducible refine (U1.out _ BX.out).mono ?_); rintro e w5 ⟨rfl, hb5⟩; have BX := hb5; clear hb5)
          | (go_at_call 16; (with_reducible refine (V1.out _ BX.out).mono ?_); rintro e w5 ⟨rfl, hb5⟩; have BX := hb5; clear hb5)
          | (go_at_call 15; (with_reducible refine (U2.out _ BX.out).mono ?_); rintro e w5 ⟨rfl, hb5⟩; have BX := hb5; clear hb5)
          | (go_at_call 16; (with_reducible refine (V2.out _ BX.out).mono ?_); rintro e w5 ⟨rfl, hb5⟩; have BX := hb5; clear hb5)
          | (go_at_call 24; (with_reducible refine (P24.out _ _ _ _ _ N2.out.1 (N1.out.2.2.below N2.out.2.1) N2.out.2.2).mono ?_); rintro e w5 ⟨rfl, hb5⟩; have BX := hb5; clear hb5)
          | (go_at_call 27; (with_reducible refine (P27.out _ HB.out _ BX.out).mono ?_); rintro e w5 ⟨A1, c1, rfl, N1⟩; have BX := Lib.hid N1.out.1)
          | (go_at_call 27; (with_reducible refine (P27.out _ HB2.out _ BX.out).mono ?_); rintro e w5 ⟨A2, c2, rfl, N2⟩; have BX := Lib.hid N2.out.1))
        go_ret
        exact ⟨rfl, HWY.out.trans (BX.out.mono HWY.out.size)⟩
  · rw [decide_eq_false hs] at C8
    clear h0 h1 h2 h3 h4 h5 h6 l0 l1 l2 l3 l4 l5 l6 hf7 hM hH hs
    go_enter Tryz.func6, Tryz.ntmps6
    go_wp2_with (first
    | (go_at_call 7; (with_reducible refine (C7.out _ H8.out).mono ?_); rintro e W9 ⟨rfl, H9'⟩; have H9 := Lib.hid H9'; clear H9')
    | (go_at_call 7; (with_reducible refine (C7.out _ H1.out).mono ?_); rintro e W7 ⟨rfl, H7'⟩; have H7 := Lib.hid H7'; clear H7'; obtain ⟨⟨q0, q1, q2, q3, q4, q5, q6⟩, -⟩ := H7.out)
    | (go_at_call 8; (with_reducible refine (C8.out _ H7.out).mono ?_); rintro e W8 ⟨rfl, H8'⟩; have H8 := Lib.hid H8'; clear H8'; obtain ⟨⟨q0, q1, q2, q3, q4, q5, q6⟩, -⟩ := H8.out))
    go_ret
    exact ⟨rfl, H9.out.2⟩
end Go.Proofs.YtmellioacefjjaaGreatDoor
