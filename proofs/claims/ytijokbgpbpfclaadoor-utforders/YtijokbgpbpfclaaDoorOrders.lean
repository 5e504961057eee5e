/- For any two lists of numbers and any number the statement UtfOrders answers true: texts are ordered, small letters made, scalars and ASCII told as the document says. Conditions: those of the row itself (the two tables of unicode/utf8 hold what Go's text lays in them; the card ties that to the text). -/
import Derived.Test.YtijokbgpbpfclaaDoorCards
import Derived.Test.YtijokbgpbpfclaaDoorTie
import Derived.Test.YtijokbgpbpfclaaDoorLaid
import Derived.Test.YtijokbgpbpfclaaDoorCmpb
import Derived.Test.YtijokbgpbpfclaaDoorAwake
namespace Go.Proofs.YtijokbgpbpfclaaDoor.utfOrders
open Go.ChangeShapes Go.WideShapes Go.ChangeAt Go.RowKit

theorem walk_long (a0 a1 : Option Addr) (len0 cap0 len1 cap1 : Nat) (c : Int) (w : World) (hT : Lib.Utf8Tabs 0 1 w) (h : 100 < len0 ∨ (len0 ≤ 100 ∧ 100 < len1)) :
    Calls Tryd.prog 6 #[.slice a0 len0 cap0, .slice a1 len1 cap1, .int .i64 c] w fun e w' => e = .returned (.bool true) ∧ Below w.heap.size w w' := by
  rcases h with h | ⟨h, h'⟩
  all_goals
    go_enter Tryd.func6, Tryd.ntmps6
    go_wp2_with (go_at_call 8; (with_reducible refine (awake8 w hT).mono ?_); rintro e w1 ⟨rfl, hb1⟩; have hT1 := tabs_below hT hb1)
    go_wp2_with (go_at_call 8; (with_reducible refine (awake8 w1 hT1).mono ?_); rintro e w2 ⟨rfl, hb2⟩)
    go_ret
    exact ⟨rfl, hb1.trans (hb2.mono hb1.size)⟩

/-- The comparing's numbers, all at once. -/
theorem three (xs ys : List Int) : ∃ r : Int, lexc xs ys = r ∧ lexc ys xs = -r ∧ (r = -1 ∨ r = 0 ∨ r = 1) := ⟨_, rfl, lexc_neg xs ys, lexc_three xs ys⟩

set_option maxHeartbeats 1000000 in
theorem walk_short (a0 a1 : Option Addr) (len0 cap0 len1 cap1 : Nat) (xs ys : List Int) (c : Int) (w : World) (hT : Lib.Utf8Tabs 0 1 w) (n0 : Nums .i64 w a0 len0 xs) (n1 : Nums .i64 w a1 len1 ys)
    (h0 : len0 ≤ 100) (h1 : len1 ≤ 100) (hc0 : -9223372036854775808 ≤ c) (hc1 : c ≤ 9223372036854775807) :
    Calls Tryd.prog 6 #[.slice a0 len0 cap0, .slice a1 len1 cap1, .int .i64 c] w fun e w' => e = .returned (.bool true) ∧ Below w.heap.size w w' := by
  obtain ⟨r, hr, hr', h3⟩ := three xs ys
  have k1 : ∀ w1, Below w.heap.size w w1 → Calls Tryd.prog 16 #[.slice a0 len0 cap0, .slice a1 len1 cap1] w1 fun e w' => e = .returned (.int .i64 r) ∧ w1 = w' := fun w1 hb => by
    have := compare16 a0 a1 len0 len1 cap0 cap1 xs ys w1 (n0.below hb) (n1.below hb) (by omega) (by omega)
    rwa [hr] at this
  have k2 : ∀ w1, Below w.heap.size w w1 → Calls Tryd.prog 16 #[.slice a1 len1 cap1, .slice a0 len0 cap0] w1 fun e w' => e = .returned (.int .i64 (-r)) ∧ w1 = w' := fun w1 hb => by
    have := compare16 a1 a0 len1 len0 cap1 cap0 ys xs w1 (n1.below hb) (n0.below hb) (by omega) (by omega)
    rwa [hr'] at this
  have k3 : ∀ w1, Below w.heap.size w w1 → Calls Tryd.prog 17 #[.slice a0 len0 cap0, .slice a1 len1 cap1] w1 fun e w' => e = .returned (.int .i64 r) ∧ ∃ q, w' = w1.drewN q := fun w1 hb => by
    have := compare17 a0 a1 len0 len1 cap0 cap1 xs ys w1 (n0.below hb) (n1.below hb) (by omega) (by omega)
    rwa [hr] at this
  have k4 : ∀ w1, Below w.heap.size w w1 → Calls Tryd.prog 22 #[.slice a0 len0 cap0] w1 fun e w' => e = .returned (.bool (asc xs)) ∧ w1 = w' := fun w1 hb => ascii22 a0 len0 cap0 xs w1 (n0.below hb) (by omega)
  have k5 : ∀ w1, Below w.heap.size w w1 → Calls Tryd.prog 23 #[.slice a0 len0 cap0] w1 fun e w' => e = .returned (.bool (asc xs)) ∧ w1 = w' := fun w1 hb => ascii23 a0 len0 cap0 xs w1 (n0.below hb) (by omega)
  have K1 := Lib.hid k1
  have K2 := Lib.hid k2
  have K3 := Lib.hid k3
  have K4 := Lib.hid k4
  have K5 := Lib.hid k5
  clear k1 k2 k3 k4 k5 hr hr' n0 n1
  rcases h3 with rfl | rfl | rfl
  all_goals
    go_enter Tryd.func6, Tryd.ntmps6
    go_wp2_with (go_at_call 8; (with_reducible refine (awake8 w hT).mono ?_); rintro e w1 ⟨rfl, hb1⟩)
    go_wp2_with (go_at_call 16; (with_reducible refine (K1.out w1 hb1).mono ?_); rintro e w2 ⟨rfl, rfl⟩)
    go_wp2_with (go_at_call 17; (with_reducible refine (K3.out w1 hb1).mono ?_); rintro e w2 ⟨rfl, q, rfl⟩)
    go_wp2_with (first
      | (go_at_call 16; (with_reducible refine (K2.out _ (below_drewN hb1 q)).mono ?_); rintro e w2 ⟨rfl, rfl⟩)
      | (go_at_call 16; (with_reducible refine (K1.out _ (below_drewN hb1 q)).mono ?_); rintro e w2 ⟨rfl, rfl⟩)
      | (go_at_call 18; (with_reducible refine (lower18 c _ hc0 hc1).mono ?_); rintro e w2 ⟨rfl, rfl⟩)
      | (go_at_call 19; (with_reducible refine (lower19 c _ hc0 hc1).mono ?_); rintro e w2 ⟨rfl, rfl⟩)
      | (go_at_call 20; (with_reducible refine (scalar20 c _).mono ?_); rintro e w2 ⟨rfl, rfl⟩)
      | (go_at_call 21; (with_reducible refine (scalar21 c _).mono ?_); rintro e w2 ⟨rfl, rfl⟩)
      | (go_at_call 22; (with_reducible refine (K4.out _ (below_drewN hb1 q)).mono ?_); rintro e w2 ⟨rfl, rfl⟩)
      | (go_at_call 23; (with_reducible refine (K5.out _ (below_drewN hb1 q)).mono ?_); rintro e w2 ⟨rfl, rfl⟩))
    go_ret
    exact ⟨rfl, below_drewN hb1 q⟩

theorem walk (a0 : Option Addr) (len0 cap0 : Nat) (z0 : List Int) (a1 : Option Addr) (len1 cap1 : Nat) (z1 : List Int) (a2 : Int) (w : World) (hT : Lib.Utf8Tabs 0 1 w) (w0 : IsRow .i64 w a0 len0 cap0 z0) (w1 : IsRow .i64 w a1 len1 cap1 z1) (w2 : (Lit.int .i64 a2).wf = true) :
    Calls Tryd.prog 6 #[.slice a0 len0 cap0, .slice a1 len1 cap1, .int .i64 a2] w fun e w' => e = .returned (.bool true) ∧ Below w.heap.size w w' := by
  by_cases h0 : 100 < len0
  · exact walk_long a0 a1 len0 cap0 len1 cap1 a2 w hT (.inl h0)
  · by_cases h1 : 100 < len1
    · exact walk_long a0 a1 len0 cap0 len1 cap1 a2 w hT (.inr ⟨by omega, h1⟩)
    · have hb := bounds_i64 w2
      exact walk_short a0 a1 len0 cap0 len1 cap1 _ _ a2 w hT w0.nums.1 w1.nums.1 (by omega) (by omega) hb.1 hb.2

theorem contract (H : Type) (enc : TypeId × Value → H) (W : World) (base : Nat) (args : Array Value) (ds gs : List (DataW H)) (before : List MemPlace)
    (hval : ∀ (j : Nat) t v, Tryd.f6.params[j]? = some t → args[j]? = some v → Value.okWide Tryd.prog W .any base t v)
    (hW : DataW.Whole enc Tryd.prog Tryd.f6.params.toList Rows.utfOrdersSpec.vars false W args.toList ds gs before) (hL : laidMetH Tryd.prog Rows.utfOrdersRow.laid W) :
    Calls Tryd.prog 6 args W fun e W' => ∃ v, e = .returned v ∧ Rows.utfOrdersSpec.post enc Tryd.prog Tryd.f6 false true false false W args v W' := by
  have hT := tabs hL
  have hW' := hW
  obtain ⟨p, q, hA0, hV, rfl, hfz, hnd⟩ := hW
  have hA : DataW.TrodAll enc Tryd.prog W 0 (fun _ => true) true Tryd.f6.params.toList args.toList ds p := hA0
  rw [Tryd.params6] at hA hval
  obtain ⟨v0, vs0, d0, ds0, p0, q0, hargs, rfl, rfl, h0, r0⟩ := trodAll_cons hA
  obtain ⟨v1, vs1, d1, ds1, p1, q1, rfl, rfl, rfl, h1, r1⟩ := trodAll_cons r0
  obtain ⟨v2, vs2, d2, ds2, p2, q2, rfl, rfl, rfl, h2, r2⟩ := trodAll_cons r1
  obtain ⟨rfl, rfl, rfl⟩ := trodAll_nil r2
  obtain rfl : args = #[v0, v1, v2] := by cases args; simp_all
  obtain ⟨rfl, rfl⟩ := trodVars_none hV
  obtain ⟨a0, len0, cap0, rfl⟩ := okWide_slice Tryd.underlying22 (hval 0 22 v0 rfl rfl)
  have k0 := h0
  have lt0 : ∀ x ∈ p0, x.block < W.heap.size := by obtain ⟨m, hm⟩ := k0; exact DataW.trod_lt m _ _ _ hm
  obtain ⟨z0, w0⟩ : ∃ zs, IsRow .i64 W a0 len0 cap0 zs := by
    obtain ⟨fuel, hf⟩ := h0
    rcases open_ints Tryd.underlying22 Tryd.underlying3 (by kernel_rfl) hf with ⟨hcs, _⟩ | ⟨x, l, c, zs, hcs, _, hl, hm, hz, _, hcell, hwz⟩
    · simp [Value.cells] at hcs
      obtain ⟨rfl, rfl, rfl⟩ := hcs
      exact ⟨[], .inl ⟨rfl, rfl, rfl, rfl⟩⟩
    · simp [Value.cells] at hcs
      obtain ⟨rfl, rfl, rfl⟩ := hcs
      exact ⟨zs, .inr ⟨_, rfl, hl, hm, by simpa using hz, hcell, hwz⟩⟩
  obtain ⟨a1, len1, cap1, rfl⟩ := okWide_slice Tryd.underlying22 (hval 1 22 v1 rfl rfl)
  have k1 := h1
  have lt1 : ∀ x ∈ p1, x.block < W.heap.size := by obtain ⟨m, hm⟩ := k1; exact DataW.trod_lt m _ _ _ hm
  obtain ⟨z1, w1⟩ : ∃ zs, IsRow .i64 W a1 len1 cap1 zs := by
    obtain ⟨fuel, hf⟩ := h1
    rcases open_ints Tryd.underlying22 Tryd.underlying3 (by kernel_rfl) hf with ⟨hcs, _⟩ | ⟨x, l, c, zs, hcs, _, hl, hm, hz, _, hcell, hwz⟩
    · simp [Value.cells] at hcs
      obtain ⟨rfl, rfl, rfl⟩ := hcs
      exact ⟨[], .inl ⟨rfl, rfl, rfl, rfl⟩⟩
    · simp [Value.cells] at hcs
      obtain ⟨rfl, rfl, rfl⟩ := hcs
      exact ⟨zs, .inr ⟨_, rfl, hl, hm, by simpa using hz, hcell, hwz⟩⟩
  obtain ⟨a2, rfl, rfl, rfl, w2⟩ := open_int Tryd.underlying3 (hval 2 3 v2 rfl rfl) h2
  clear hA0
  refine (walk a0 len0 cap0 z0 a1 len1 cap1 z1 a2 W hT w0 w1 w2).mono fun e W' ⟨he, bel⟩ => ?_
  subst he
  exact ⟨_, rfl, _, _, _, [], _, [], hW', trodAll_mk1 (shut_bool Tryd.underlying4 _), (trodAll_cons_mk (Below.trod laidOut (by kernel_rfl) (of_decide_eq_true (by kernel_rfl)) k0 bel lt0) (trodAll_cons_mk (Below.trod laidOut (by kernel_rfl) (of_decide_eq_true (by kernel_rfl)) k1 bel lt1) (trodAll_cons_mk (shut_int Tryd.underlying3 w2) trodAll_mk0))), rfl, bel.frame _, fun h => by cases h⟩

theorem laid_met (os : Os) : laidMet Tryd.prog Rows.utfOrdersRow.laid ((laidWorld os).forCall (fun _ _ => 0) ⟨#[], #[.slice none 0 0, .slice none 0 0, .int .i64 0], []⟩).memory :=
  laidMet_of_run' 8 (by kernel_rfl) (by kernel_rfl)
theorem reads (os : Os) {H : Type} (enc : TypeId × Value → H) : ∃ places, DataW.whole enc Tryd.prog ((laidWorld os).forCall (fun _ _ => 0) ⟨#[], #[.slice none 0 0, .slice none 0 0, .int .i64 0], []⟩).memory Tryd.f6.params.toList Rows.utfOrdersSpec.vars false #[Value.slice none 0 0, .slice none 0 0, .int .i64 0].toList 8 = some ([.nil, .nil, .lit (.int .i64 0)], [], places) :=
  ⟨[], by kernel_rfl⟩

set_option maxRecDepth 100000 in
theorem lifted (os : Os) (started : os.Started) (H : Type) (enc : TypeId × Value → H) (F : Stop.Interp) :
    ReturnsInHanded {} Tryd.checked os 6 .any ((OpenSpec.ofChange Rows.utfOrdersSpec).preRow enc Tryd.prog Tryd.f6 Rows.utfOrdersRow.domain false Rows.utfOrdersRow.laid) (((OpenSpec.ofChange Rows.utfOrdersSpec).at F).post enc Tryd.prog Tryd.f6 false true false false) := by
  obtain ⟨places, hx⟩ := reads os enc
  refine returnsInHanded_of_row (C := Tryd.checked) (s := OpenSpec.ofChange Rows.utfOrdersSpec) own started (by kernel_rfl) Tryd.func6
    (witness_row_at (enc := enc) (C := Tryd.checked) false (laidWorld os) #[.slice none 0 0, .slice none 0 0, .int .i64 0] rfl (by kernel_rfl) (by kernel_rfl) (by kernel_rfl)
      (OpenSpec.preRow_of_cond 8 hx (by kernel_rfl) (fun k hk => by cases hk) (by kernel_rfl) (laid_met os))) ?_
  intro W base args ds gs before hval hW _ _ _ hL _ _
  exact contract H enc W base args ds gs before hval hW hL

theorem said : Rows.UtfOrdersSaid :=
  OpenClaim.holds_of_cond 6 Tryd.f6 rfl rfl rfl rfl rfl rfl rfl ⟨rfl, rfl, rfl, rfl, rfl⟩ rfl rfl rfl rfl rfl (by kernel_rfl) Tryd.func6 (by kernel_rfl)
    (of_decide_eq_true (by kernel_rfl)) (by unfold Func.isWrapper; first | (rw [if_pos (by decide +kernel)]; kernel_rfl) | (rw [if_neg (by decide +kernel)]; exact ⟨rfl, rfl⟩))
    (fun os started H enc _ F => by rw [OpenClaim.pre_eq_preRow]; exact lifted os started H enc F)

theorem plain (f : FuncId) (fn : Func) (hf : Tryd.pinned.checked.prog.funcNamed Rows.utfOrdersRow.func = some f) (hfn : Tryd.pinned.checked.prog.funcs[f]? = some fn) :
    false = Tryd.pinned.checked.prog.looks [] ∧ ∀ (j : Nat) t, fn.params[j]? = some t → Tryd.pinned.checked.prog.wantsStandIn t = false := by
  obtain rfl : f = 6 := Option.some.inj ((show Tryd.prog.funcNamed Rows.utfOrdersRow.func = some 6 by kernel_rfl).symm.trans hf) |>.symm
  obtain rfl : fn = Tryd.f6 := (Option.some.inj (Tryd.func6.symm.trans hfn)).symm
  refine ⟨by kernel_rfl, fun j t ht => ?_⟩
  rw [Tryd.params6] at ht
  have hm := Array.mem_of_getElem? ht
  simp at hm
  rcases hm with rfl | rfl
  · exact (show Tryd.prog.wantsStandIn 22 = false by kernel_rfl)
  · exact (show Tryd.prog.wantsStandIn 3 = false by kernel_rfl)
end Go.Proofs.YtijokbgpbpfclaaDoor.utfOrders
namespace Go.Proofs.YtijokbgpbpfclaaDoor
theorem utfOrders_card : Rows.UtfOrdersCardSaid :=
  Claim7.holds_tied_plain_at .later [] _ _ _ _ utfOrders.said (fun _ h => by cases h) (by kernel_rfl) (fun _ h => by cases h) utfOrders_row_tie rfl ⟨rfl, rfl⟩ (by kernel_rfl) rfl utfOrders.plain (by kernel_rfl)
#print axioms utfOrders_card
end Go.Proofs.YtijokbgpbpfclaaDoor
