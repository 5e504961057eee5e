/- For any list of numbers the statement UtfEncodes answers true: Encode hands back the octets that the document gives, or that there are none, and Decode reads them as the same. Conditions: those of the row itself (the two tables of unicode/utf8 hold what Go's text lays in them; the card ties that to the text). -/
import Derived.Test.YtijokbgpbpfclaaDoorCards
import Derived.Test.YtijokbgpbpfclaaDoorTie
import Derived.Test.YtijokbgpbpfclaaDoorLaid
import Derived.Test.YtijokbgpbpfclaaDoorPosts
namespace Go.Proofs.YtijokbgpbpfclaaDoor.utfEncodes
open Go.ChangeShapes Go.WideShapes Go.ChangeAt Go.RowKit

theorem walk_long (a0 : Option Addr) (len0 cap0 : Nat) (w : World) (hT : Lib.Utf8Tabs 0 1 w) (h : 300 < len0) :
    Calls Tryd.prog 3 #[.slice a0 len0 cap0] w fun e w' => e = .returned (.bool true) ∧ Below w.heap.size w w' := by
  go_enter Tryd.func3, Tryd.ntmps3
  go_wp2_with (go_at_call 8; (with_reducible refine (awake8 w hT).mono ?_); rintro e w1 ⟨rfl, hb1⟩; have hT1 := tabs_below hT hb1)
  go_wp2_with (go_at_call 8; (with_reducible refine (awake8 w1 hT1).mono ?_); rintro e w2 ⟨rfl, hb2⟩)
  go_ret
  exact ⟨rfl, hb1.trans (hb2.mono hb1.size)⟩

set_option maxHeartbeats 2000000 in
theorem walk_no (a0 : Option Addr) (len0 cap0 : Nat) (xs : List Int) (w : World) (hT : Lib.Utf8Tabs 0 1 w) (n0 : Nums .i64 w a0 len0 xs) (h : len0 ≤ 300) (ha : ¬ ∀ c ∈ xs, scal c = true) :
    Calls Tryd.prog 3 #[.slice a0 len0 cap0] w fun e w' => e = .returned (.bool true) ∧ Below w.heap.size w w' := by
  have N0 := Lib.hid n0
  have HA := Lib.hid ha
  have TT := Lib.hid hT
  clear n0 ha hT
  go_enter Tryd.func3, Tryd.ntmps3
  go_wp2_with (go_at_call 8; (with_reducible refine (awake8 w TT.out).mono ?_); rintro e w1 ⟨rfl, hb1⟩)
  have c9 := encode9 a0 len0 cap0 xs w1 (N0.out.below hb1) (by omega)
  go_wp2_with (go_at_call 9; (with_reducible refine c9.mono ?_); rintro e w2 hE; obtain ⟨rfl, hb2⟩ := enc_no hE HA.out; clear hE)
  have b2 := hb1.trans (hb2.mono hb1.size)
  clear c9
  have c10 := refEncode10 a0 len0 cap0 xs w2 (N0.out.below b2) (by omega)
  go_wp2_with (go_at_call 10; (with_reducible refine c10.mono ?_); rintro e w3 hE; obtain ⟨rfl, hb3⟩ := ref_no hE HA.out; clear hE; have hconv := conv_nums 0 (nums_nil w3 .u8 none))
  go_ret
  exact ⟨rfl, b2.trans (hb3.mono b2.size)⟩

set_option maxHeartbeats 2000000 in
theorem walk_yes (a0 : Option Addr) (len0 cap0 : Nat) (xs : List Int) (w : World) (hT : Lib.Utf8Tabs 0 1 w) (n0 : Nums .i64 w a0 len0 xs) (h : len0 ≤ 300) (ha : ∀ c ∈ xs, scal c = true) :
    Calls Tryd.prog 3 #[.slice a0 len0 cap0] w fun e w' => e = .returned (.bool true) ∧ Below w.heap.size w w' := by
  have N0 := Lib.hid n0
  have HA := Lib.hid ha
  have TT := Lib.hid hT
  have hlen : (encs xs).length ≤ 1200 := by have := (encs_length xs).2; have := n0.1; omega
  obtain ⟨L, hL⟩ : ∃ L, (encs xs).length = L := ⟨_, rfl⟩
  rw [hL] at hlen
  have HL := Lib.hid hL
  clear n0 ha hT hL
  go_enter Tryd.func3, Tryd.ntmps3
  go_wp2_with (go_at_call 8; (with_reducible refine (awake8 w TT.out).mono ?_); rintro e w1 ⟨rfl, hb1⟩)
  have c9 := encode9 a0 len0 cap0 xs w1 (N0.out.below hb1) (by omega)
  go_wp2_with (go_at_call 9; (with_reducible refine c9.mono ?_); rintro e w2 hE; obtain ⟨A, ca, rfl, hca, hN, hb2⟩ := enc_yes hE HA.out; clear hE; rw [HL.out] at hca hN ⊢)
  have b2 := hb1.trans (hb2.mono hb1.size)
  clear c9
  have c10 := refEncode10 a0 len0 cap0 xs w2 (N0.out.below b2) (by omega)
  have NN := Lib.hid hN
  clear hN
  go_wp2_with (go_at_call 10; (with_reducible refine c10.mono ?_); rintro e w3 hE; obtain ⟨rfl, hb3⟩ := ref_yes hE HA.out; clear hE; have hconv := conv_nums ca (NN.out.below hb3))
  have b3 := b2.trans (hb3.mono b2.size)
  clear c10
  have c11 := decode11 A L ca (encs xs) w3 (tabs_below TT.out b3) (octs_encs xs) (NN.out.below hb3) (by omega) hca
  go_wp2_with (go_at_call 11; (with_reducible refine c11.mono ?_); rintro e w4 hE; obtain ⟨B, cb, rfl, hM, hb4⟩ := dec_yes HL.out.symm hE HA.out; clear hE; rw [N0.out.1] at hM ⊢)
  have b4 := b3.trans (hb4.mono b3.size)
  clear c11
  have c12 := same12 B a0 len0 len0 cb cap0 xs xs w4 hM (N0.out.below b4) (by omega) (by omega) rfl
  clear hM
  go_wp2_with (go_at_call 12; (with_reducible refine c12.mono ?_); rintro e w5 ⟨rfl, q, rfl⟩)
  go_ret
  exact ⟨rfl, below_drewN b4 q⟩

theorem walk (a0 : Option Addr) (len0 cap0 : Nat) (z0 : List Int) (w : World) (hT : Lib.Utf8Tabs 0 1 w) (w0 : IsRow .i64 w a0 len0 cap0 z0) :
    Calls Tryd.prog 3 #[.slice a0 len0 cap0] w fun e w' => e = .returned (.bool true) ∧ Below w.heap.size w w' := by
  by_cases h0 : 300 < len0
  · exact walk_long a0 len0 cap0 w hT h0
  · by_cases ha : ∀ c ∈ z0.take len0, scal c = true
    · exact walk_yes a0 len0 cap0 _ w hT w0.nums.1 (by omega) ha
    · exact walk_no a0 len0 cap0 _ w hT w0.nums.1 (by omega) ha

theorem contract (H : Type) (enc : TypeId × Value → H) (W : World) (base : Nat) (args : Array Value) (ds gs : List (DataW H)) (before : List MemPlace)
    (hval : ∀ (j : Nat) t v, Tryd.f3.params[j]? = some t → args[j]? = some v → Value.okWide Tryd.prog W .any base t v)
    (hW : DataW.Whole enc Tryd.prog Tryd.f3.params.toList Rows.utfEncodesSpec.vars false W args.toList ds gs before) (hL : laidMetH Tryd.prog Rows.utfEncodesRow.laid W) :
    Calls Tryd.prog 3 args W fun e W' => ∃ v, e = .returned v ∧ Rows.utfEncodesSpec.post enc Tryd.prog Tryd.f3 false true false false W args v W' := by
  have hT := tabs hL
  have hW' := hW
  obtain ⟨p, q, hA0, hV, rfl, hfz, hnd⟩ := hW
  have hA : DataW.TrodAll enc Tryd.prog W 0 (fun _ => true) true Tryd.f3.params.toList args.toList ds p := hA0
  rw [Tryd.params3] at hA hval
  obtain ⟨v0, vs0, d0, ds0, p0, q0, hargs, rfl, rfl, h0, r0⟩ := trodAll_cons hA
  obtain ⟨rfl, rfl, rfl⟩ := trodAll_nil r0
  obtain rfl : args = #[v0] := by cases args; simp_all
  obtain ⟨rfl, rfl⟩ := trodVars_none hV
  obtain ⟨a0, len0, cap0, rfl⟩ := okWide_slice Tryd.underlying22 (hval 0 22 v0 rfl rfl)
  have k0 := h0
  have lt0 : ∀ x ∈ p0, x.block < W.heap.size := by obtain ⟨m, hm⟩ := k0; exact DataW.trod_lt m _ _ _ hm
  obtain ⟨z0, w0⟩ : ∃ zs, IsRow .i64 W a0 len0 cap0 zs := by
    obtain ⟨fuel, hf⟩ := h0
    rcases open_ints Tryd.underlying22 Tryd.underlying3 (by kernel_rfl) hf with ⟨hcs, _⟩ | ⟨x, l, c, zs, hcs, _, hl, hm, hz, _, hcell, hwz⟩
    · simp [Value.cells] at hcs
      obtain ⟨rfl, rfl, rfl⟩ := hcs
      exact ⟨[], .inl ⟨rfl, rfl, rfl, rfl⟩⟩
    · simp [Value.cells] at hcs
      obtain ⟨rfl, rfl, rfl⟩ := hcs
      exact ⟨zs, .inr ⟨_, rfl, hl, hm, by simpa using hz, hcell, hwz⟩⟩
  clear hA0
  refine (walk a0 len0 cap0 z0 W hT w0).mono fun e W' ⟨he, bel⟩ => ?_
  subst he
  exact ⟨_, rfl, _, _, _, [], _, [], hW', trodAll_mk1 (shut_bool Tryd.underlying4 _), (trodAll_cons_mk (Below.trod laidOut (by kernel_rfl) (of_decide_eq_true (by kernel_rfl)) k0 bel lt0) trodAll_mk0), rfl, bel.frame _, fun h => by cases h⟩

theorem laid_met (os : Os) : laidMet Tryd.prog Rows.utfEncodesRow.laid ((laidWorld os).forCall (fun _ _ => 0) ⟨#[], #[.slice none 0 0], []⟩).memory :=
  laidMet_of_run' 8 (by kernel_rfl) (by kernel_rfl)
theorem reads (os : Os) {H : Type} (enc : TypeId × Value → H) : ∃ places, DataW.whole enc Tryd.prog ((laidWorld os).forCall (fun _ _ => 0) ⟨#[], #[.slice none 0 0], []⟩).memory Tryd.f3.params.toList Rows.utfEncodesSpec.vars false #[Value.slice none 0 0].toList 8 = some ([.nil], [], places) :=
  ⟨[], by kernel_rfl⟩

set_option maxRecDepth 100000 in
theorem lifted (os : Os) (started : os.Started) (H : Type) (enc : TypeId × Value → H) (F : Stop.Interp) :
    ReturnsInHanded {} Tryd.checked os 3 .any ((OpenSpec.ofChange Rows.utfEncodesSpec).preRow enc Tryd.prog Tryd.f3 Rows.utfEncodesRow.domain false Rows.utfEncodesRow.laid) (((OpenSpec.ofChange Rows.utfEncodesSpec).at F).post enc Tryd.prog Tryd.f3 false true false false) := by
  obtain ⟨places, hx⟩ := reads os enc
  refine returnsInHanded_of_row (C := Tryd.checked) (s := OpenSpec.ofChange Rows.utfEncodesSpec) own started (by kernel_rfl) Tryd.func3
    (witness_row_at (enc := enc) (C := Tryd.checked) false (laidWorld os) #[.slice none 0 0] rfl (by kernel_rfl) (by kernel_rfl) (by kernel_rfl)
      (OpenSpec.preRow_of_cond 8 hx (by kernel_rfl) (fun k hk => by cases hk) (by kernel_rfl) (laid_met os))) ?_
  intro W base args ds gs before hval hW _ _ _ hL _ _
  exact contract H enc W base args ds gs before hval hW hL

theorem said : Rows.UtfEncodesSaid :=
  OpenClaim.holds_of_cond 3 Tryd.f3 rfl rfl rfl rfl rfl rfl rfl ⟨rfl, rfl, rfl, rfl, rfl⟩ rfl rfl rfl rfl rfl (by kernel_rfl) Tryd.func3 (by kernel_rfl)
    (of_decide_eq_true (by kernel_rfl)) (by unfold Func.isWrapper; first | (rw [if_pos (by decide +kernel)]; kernel_rfl) | (rw [if_neg (by decide +kernel)]; exact ⟨rfl, rfl⟩))
    (fun os started H enc _ F => by rw [OpenClaim.pre_eq_preRow]; exact lifted os started H enc F)

theorem plain (f : FuncId) (fn : Func) (hf : Tryd.pinned.checked.prog.funcNamed Rows.utfEncodesRow.func = some f) (hfn : Tryd.pinned.checked.prog.funcs[f]? = some fn) :
    false = Tryd.pinned.checked.prog.looks [] ∧ ∀ (j : Nat) t, fn.params[j]? = some t → Tryd.pinned.checked.prog.wantsStandIn t = false := by
  obtain rfl : f = 3 := Option.some.inj ((show Tryd.prog.funcNamed Rows.utfEncodesRow.func = some 3 by kernel_rfl).symm.trans hf) |>.symm
  obtain rfl : fn = Tryd.f3 := (Option.some.inj (Tryd.func3.symm.trans hfn)).symm
  refine ⟨by kernel_rfl, fun j t ht => ?_⟩
  rw [Tryd.params3] at ht
  have hm := Array.mem_of_getElem? ht
  simp at hm
  subst hm
  exact (show Tryd.prog.wantsStandIn 22 = false by kernel_rfl)
end Go.Proofs.YtijokbgpbpfclaaDoor.utfEncodes
namespace Go.Proofs.YtijokbgpbpfclaaDoor
theorem utfEncodes_card : Rows.UtfEncodesCardSaid :=
  Claim7.holds_tied_plain_at .later [] _ _ _ _ utfEncodes.said (fun _ h => by cases h) (by kernel_rfl) (fun _ h => by cases h) utfEncodes_row_tie rfl ⟨rfl, rfl⟩ (by kernel_rfl) rfl utfEncodes.plain (by kernel_rfl)
#print axioms utfEncodes_card
end Go.Proofs.YtijokbgpbpfclaaDoor

