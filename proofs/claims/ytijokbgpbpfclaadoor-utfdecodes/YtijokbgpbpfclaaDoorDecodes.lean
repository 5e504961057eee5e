/- For any octets the statement UtfDecodes answers true: Decode hands back the scalars that the document gives, or where the first wrong octet is, and the octets stay as they are. Conditions: those of the row itself (the two tables of unicode/utf8 hold what Go's text lays in them; the card ties that to the text). -/
import Derived.Test.YtijokbgpbpfclaaDoorCards
import Derived.Test.YtijokbgpbpfclaaDoorTie
import Derived.Test.YtijokbgpbpfclaaDoorLaid
import Derived.Test.YtijokbgpbpfclaaDoorStops
namespace Go.Proofs.YtijokbgpbpfclaaDoor.utfDecodes
open Go.ChangeShapes Go.WideShapes Go.ChangeAt Go.RowKit

theorem walk_long (a0 : Option Addr) (len0 cap0 : Nat) (w : World) (hT : Lib.Utf8Tabs 0 1 w) (h : 600 < len0) :
    Calls Tryd.prog 4 #[.slice a0 len0 cap0] w fun e w' => e = .returned (.bool true) ∧ Below w.heap.size w w' := by
  go_enter Tryd.func4, Tryd.ntmps4
  go_wp2_with (go_at_call 8; (with_reducible refine (awake8 w hT).mono ?_); rintro e w1 ⟨rfl, hb1⟩; have hT1 := tabs_below hT hb1)
  go_wp2_with (go_at_call 8; (with_reducible refine (awake8 w1 hT1).mono ?_); rintro e w2 ⟨rfl, hb2⟩)
  go_ret
  exact ⟨rfl, hb1.trans (hb2.mono hb1.size)⟩

set_option maxHeartbeats 2000000 in
theorem walk_err (a0 : Option Addr) (len0 cap0 : Nat) (bs s : List Int) (k : Nat) (w : World) (hT : Lib.Utf8Tabs 0 1 w) (n0 : Nums .u8 w a0 len0 bs) (hcap : len0 ≤ cap0) (ho : Octs bs) (h : len0 ≤ 600) (hs : Stop bs s k) (hk : k < len0) :
    Calls Tryd.prog 4 #[.slice a0 len0 cap0] w fun e w' => e = .returned (.bool true) ∧ Below w.heap.size w w' := by
  have N0 := Lib.hid n0
  have HS := Lib.hid hs
  have TT := Lib.hid hT
  have HO := Lib.hid ho
  have hsz : (strOfNums bs).size = len0 := by rw [strOfNums_size, n0.1]
  clear n0 hs hT ho
  go_enter Tryd.func4, Tryd.ntmps4
  go_wp2_with (go_at_call 8; (with_reducible refine (awake8 w TT.out).mono ?_); rintro e w1 ⟨rfl, hb1⟩; have hconv := conv_nums cap0 (N0.out.below hb1))
  have c11 := decode11 a0 len0 cap0 bs w1 (tabs_below TT.out hb1) HO.out (N0.out.below hb1) (by omega) hcap
  clear hconv
  go_wp2_with (go_at_call 11; (with_reducible refine c11.mono ?_); rintro e w2 hE; obtain ⟨rfl, hb2⟩ := dec_err N0.out.1 HS.out hk hE; clear hE)
  have b2 := hb1.trans (hb2.mono hb1.size)
  clear c11
  have c13 := refDecode13 bs w2 len0 N0.out.1 HO.out (by omega)
  go_wp2_with (go_at_call 13; (with_reducible refine c13.mono ?_); rintro e w3 hE; obtain ⟨B, cb, rfl, hM, hb3⟩ := rdec_stop HS.out hE; clear hE; clear hM; have b3 := b2.trans (hb3.mono b2.size); have hconv := conv_nums cap0 (N0.out.below b3))
  go_ret
  exact ⟨rfl, b3⟩

set_option maxHeartbeats 2000000 in
theorem walk_whole (a0 : Option Addr) (len0 cap0 : Nat) (bs s : List Int) (k : Nat) (w : World) (hT : Lib.Utf8Tabs 0 1 w) (n0 : Nums .u8 w a0 len0 bs) (hcap : len0 ≤ cap0) (ho : Octs bs) (h : len0 ≤ 600) (hs : Stop bs s k) (hk : k = len0) :
    Calls Tryd.prog 4 #[.slice a0 len0 cap0] w fun e w' => e = .returned (.bool true) ∧ Below w.heap.size w w' := by
  have he : encs s = bs := (Part.all ⟨hs.1, hs.2.1, hs.2.2.1⟩ (by rw [n0.1]; exact hk)).symm
  have hsl : s.length ≤ 600 := by have := hs.few; omega
  have N0 := Lib.hid n0
  have HS := Lib.hid hs
  have TT := Lib.hid hT
  have HO := Lib.hid ho
  have HE := Lib.hid he
  have HK := Lib.hid hk
  have hsz : (strOfNums bs).size = len0 := by rw [strOfNums_size, n0.1]
  clear n0 hs hT ho he hk
  go_enter Tryd.func4, Tryd.ntmps4
  go_wp2_with (go_at_call 8; (with_reducible refine (awake8 w TT.out).mono ?_); rintro e w1 ⟨rfl, hb1⟩; have hconv := conv_nums cap0 (N0.out.below hb1))
  have c11 := decode11 a0 len0 cap0 bs w1 (tabs_below TT.out hb1) HO.out (N0.out.below hb1) (by omega) hcap
  clear hconv
  go_wp2_with (go_at_call 11; (with_reducible refine c11.mono ?_); rintro e w2 hE; obtain ⟨A, ca, rfl, hN, hb2⟩ := dec_whole N0.out.1 HS.out HK.out hE; clear hE; have NN := Lib.hid hN; clear hN)
  have b2 := hb1.trans (hb2.mono hb1.size)
  clear c11
  have c13 := refDecode13 bs w2 len0 N0.out.1 HO.out (by omega)
  go_wp2_with (go_at_call 13; (with_reducible refine c13.mono ?_); rintro e w3 hE; obtain ⟨B, cb, rfl, hM, hb3⟩ := rdec_stop HS.out hE; clear hE; have MM := Lib.hid hM; clear hM; have b3 := b2.trans (hb3.mono b2.size); have hconv := conv_nums cap0 (N0.out.below b3); rw [HK.out])
  clear hconv c13
  have c9 := encode9 A s.length ca s w3 (NN.out.below hb3) (by omega)
  go_wp2_with (go_at_call 9; (with_reducible refine c9.mono ?_); rintro e w4 hE; obtain ⟨D, cd, rfl, _, hP, hb4⟩ := enc_yes hE HS.out.1; clear hE; rw [HE.out] at hP ⊢; rw [N0.out.1] at hP ⊢; have PP := Lib.hid hP; clear hP)
  have b4 := b3.trans (hb4.mono b3.size)
  clear c9
  have c12 := same12 A B s.length s.length ca cb s s w4 ((NN.out.below hb3).below hb4) (MM.out.below hb4) (by omega) (by omega) rfl
  go_wp2_with (go_at_call 12; (with_reducible refine c12.mono ?_); rintro e w5 ⟨rfl, q, rfl⟩; have hconv := conv_nums cd (PP.out.drewN q))
  go_ret
  exact ⟨rfl, below_drewN b4 q⟩

theorem walk (a0 : Option Addr) (len0 cap0 : Nat) (z0 : List Int) (w : World) (hT : Lib.Utf8Tabs 0 1 w) (w0 : IsRow .u8 w a0 len0 cap0 z0) :
    Calls Tryd.prog 4 #[.slice a0 len0 cap0] w fun e w' => e = .returned (.bool true) ∧ Below w.heap.size w w' := by
  by_cases h0 : 600 < len0
  · exact walk_long a0 len0 cap0 w hT h0
  · obtain ⟨n0, hcap, hwf⟩ := w0.nums
    have ho := octs_of_wf hwf
    obtain ⟨s, k, hs⟩ := stop_exists _ _ (Nat.le_refl _) ho
    have hle := hs.le
    rw [n0.1] at hle
    by_cases hk : k = len0
    · exact walk_whole a0 len0 cap0 _ s k w hT n0 hcap ho (by omega) hs hk
    · exact walk_err a0 len0 cap0 _ s k w hT n0 hcap ho (by omega) hs (by omega)

theorem contract (H : Type) (enc : TypeId × Value → H) (W : World) (base : Nat) (args : Array Value) (ds gs : List (DataW H)) (before : List MemPlace)
    (hval : ∀ (j : Nat) t v, Tryd.f4.params[j]? = some t → args[j]? = some v → Value.okWide Tryd.prog W .any base t v)
    (hW : DataW.Whole enc Tryd.prog Tryd.f4.params.toList Rows.utfDecodesSpec.vars false W args.toList ds gs before) (hL : laidMetH Tryd.prog Rows.utfDecodesRow.laid W) :
    Calls Tryd.prog 4 args W fun e W' => ∃ v, e = .returned v ∧ Rows.utfDecodesSpec.post enc Tryd.prog Tryd.f4 false true false false W args v W' := by
  have hT := tabs hL
  have hW' := hW
  obtain ⟨p, q, hA0, hV, rfl, hfz, hnd⟩ := hW
  have hA : DataW.TrodAll enc Tryd.prog W 0 (fun _ => true) true Tryd.f4.params.toList args.toList ds p := hA0
  rw [Tryd.params4] at hA hval
  obtain ⟨v0, vs0, d0, ds0, p0, q0, hargs, rfl, rfl, h0, r0⟩ := trodAll_cons hA
  obtain ⟨rfl, rfl, rfl⟩ := trodAll_nil r0
  obtain rfl : args = #[v0] := by cases args; simp_all
  obtain ⟨rfl, rfl⟩ := trodVars_none hV
  obtain ⟨a0, len0, cap0, rfl⟩ := okWide_slice Tryd.underlying24 (hval 0 24 v0 rfl rfl)
  have k0 := h0
  have lt0 : ∀ x ∈ p0, x.block < W.heap.size := by obtain ⟨m, hm⟩ := k0; exact DataW.trod_lt m _ _ _ hm
  obtain ⟨z0, w0⟩ : ∃ zs, IsRow .u8 W a0 len0 cap0 zs := by
    obtain ⟨fuel, hf⟩ := h0
    rcases open_ints Tryd.underlying24 Tryd.underlying5 (by kernel_rfl) hf with ⟨hcs, _⟩ | ⟨x, l, c, zs, hcs, _, hl, hm, hz, _, hcell, hwz⟩
    · simp [Value.cells] at hcs
      obtain ⟨rfl, rfl, rfl⟩ := hcs
      exact ⟨[], .inl ⟨rfl, rfl, rfl, rfl⟩⟩
    · simp [Value.cells] at hcs
      obtain ⟨rfl, rfl, rfl⟩ := hcs
      exact ⟨zs, .inr ⟨_, rfl, hl, hm, by simpa using hz, hcell, hwz⟩⟩
  clear hA0
  refine (walk a0 len0 cap0 z0 W hT w0).mono fun e W' ⟨he, bel⟩ => ?_
  subst he
  exact ⟨_, rfl, _, _, _, [], _, [], hW', trodAll_mk1 (shut_bool Tryd.underlying4 _), (trodAll_cons_mk (Below.trod laidOut (by kernel_rfl) (of_decide_eq_true (by kernel_rfl)) k0 bel lt0) trodAll_mk0), rfl, bel.frame _, fun h => by cases h⟩

theorem laid_met (os : Os) : laidMet Tryd.prog Rows.utfDecodesRow.laid ((laidWorld os).forCall (fun _ _ => 0) ⟨#[], #[.slice none 0 0], []⟩).memory :=
  laidMet_of_run' 8 (by kernel_rfl) (by kernel_rfl)
theorem reads (os : Os) {H : Type} (enc : TypeId × Value → H) : ∃ places, DataW.whole enc Tryd.prog ((laidWorld os).forCall (fun _ _ => 0) ⟨#[], #[.slice none 0 0], []⟩).memory Tryd.f4.params.toList Rows.utfDecodesSpec.vars false #[Value.slice none 0 0].toList 8 = some ([.nil], [], places) :=
  ⟨[], by kernel_rfl⟩

set_option maxRecDepth 100000 in
theorem lifted (os : Os) (started : os.Started) (H : Type) (enc : TypeId × Value → H) (F : Stop.Interp) :
    ReturnsInHanded {} Tryd.checked os 4 .any ((OpenSpec.ofChange Rows.utfDecodesSpec).preRow enc Tryd.prog Tryd.f4 Rows.utfDecodesRow.domain false Rows.utfDecodesRow.laid) (((OpenSpec.ofChange Rows.utfDecodesSpec).at F).post enc Tryd.prog Tryd.f4 false true false false) := by
  obtain ⟨places, hx⟩ := reads os enc
  refine returnsInHanded_of_row (C := Tryd.checked) (s := OpenSpec.ofChange Rows.utfDecodesSpec) own started (by kernel_rfl) Tryd.func4
    (witness_row_at (enc := enc) (C := Tryd.checked) false (laidWorld os) #[.slice none 0 0] rfl (by kernel_rfl) (by kernel_rfl) (by kernel_rfl)
      (OpenSpec.preRow_of_cond 8 hx (by kernel_rfl) (fun k hk => by cases hk) (by kernel_rfl) (laid_met os))) ?_
  intro W base args ds gs before hval hW _ _ _ hL _ _
  exact contract H enc W base args ds gs before hval hW hL

theorem said : Rows.UtfDecodesSaid :=
  OpenClaim.holds_of_cond 4 Tryd.f4 rfl rfl rfl rfl rfl rfl rfl ⟨rfl, rfl, rfl, rfl, rfl⟩ rfl rfl rfl rfl rfl (by kernel_rfl) Tryd.func4 (by kernel_rfl)
    (of_decide_eq_true (by kernel_rfl)) (by unfold Func.isWrapper; first | (rw [if_pos (by decide +kernel)]; kernel_rfl) | (rw [if_neg (by decide +kernel)]; exact ⟨rfl, rfl⟩))
    (fun os started H enc _ F => by rw [OpenClaim.pre_eq_preRow]; exact lifted os started H enc F)

theorem plain (f : FuncId) (fn : Func) (hf : Tryd.pinned.checked.prog.funcNamed Rows.utfDecodesRow.func = some f) (hfn : Tryd.pinned.checked.prog.funcs[f]? = some fn) :
    false = Tryd.pinned.checked.prog.looks [] ∧ ∀ (j : Nat) t, fn.params[j]? = some t → Tryd.pinned.checked.prog.wantsStandIn t = false := by
  obtain rfl : f = 4 := Option.some.inj ((show Tryd.prog.funcNamed Rows.utfDecodesRow.func = some 4 by kernel_rfl).symm.trans hf) |>.symm
  obtain rfl : fn = Tryd.f4 := (Option.some.inj (Tryd.func4.symm.trans hfn)).symm
  refine ⟨by kernel_rfl, fun j t ht => ?_⟩
  rw [Tryd.params4] at ht
  have hm := Array.mem_of_getElem? ht
  simp at hm
  subst hm
  exact (show Tryd.prog.wantsStandIn 24 = false by kernel_rfl)
end Go.Proofs.YtijokbgpbpfclaaDoor.utfDecodes
namespace Go.Proofs.YtijokbgpbpfclaaDoor
theorem utfDecodes_card : Rows.UtfDecodesCardSaid :=
  Claim7.holds_tied_plain_at .later [] _ _ _ _ utfDecodes.said (fun _ h => by cases h) (by kernel_rfl) (fun _ h => by cases h) utfDecodes_row_tie rfl ⟨rfl, rfl⟩ (by kernel_rfl) rfl utfDecodes.plain (by kernel_rfl)
#print axioms utfDecodes_card
end Go.Proofs.YtijokbgpbpfclaaDoor

