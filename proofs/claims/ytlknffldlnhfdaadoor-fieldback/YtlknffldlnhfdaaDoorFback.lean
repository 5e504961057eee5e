/- For any numbers the statement FieldBack answers true: Text hands back each sequence's text, which Sequence reads as it. Conditions: those of the row itself (the two tables of unicode/utf8 hold what Go's text lays in them; the card ties that to the text). -/
import Derived.Test.YtlknffldlnhfdaaDoorCards
import Derived.Test.YtlknffldlnhfdaaDoorTie
import Derived.Test.YtlknffldlnhfdaaDoorLaid
import Derived.Test.YtlknffldlnhfdaaDoorAw7
import Derived.Test.YtlknffldlnhfdaaDoorText
import Derived.Test.YtlknffldlnhfdaaDoorSeqw
import Derived.Test.YtlknffldlnhfdaaDoorInts
namespace Go.Proofs.YtlknffldlnhfdaaDoor.fieldBack
open Go.ChangeShapes Go.WideShapes Go.ChangeAt Go.RowKit

theorem walk_long (a0 : Option Addr) (len0 cap0 : Nat) (w : World) (hM : ML w) (h : 100 < len0) :
    Calls Tryd.prog 5 #[.slice a0 len0 cap0] w fun e w' => e = .returned (.bool true) ∧ Below w.heap.size w w' := by
  go_enter Tryd.func5, Tryd.ntmps5
  go_wp2_with (go_at_call 7; (with_reducible refine (awake7 w hM).mono ?_); rintro e w1 ⟨rfl, hb1⟩; have hM1 := hM.below hb1)
  go_wp2_with (go_at_call 7; (with_reducible refine (awake7 w1 hM1).mono ?_); rintro e w2 ⟨rfl, hb2⟩)
  go_ret
  exact ⟨rfl, hb1.trans (hb2.mono hb1.size)⟩
theorem back_nums {zs : List Int} (h : okN zs) : i64s (toN zs) = nums .i64 zs := by
  unfold i64s toN nums
  rw [List.map_map, List.map_map]
  apply List.map_congr_left
  intro z hz
  have := (h z hz).1
  simp
  omega
theorem toN_ok {zs : List Int} (h : okN zs) : ∀ c ∈ toN zs, c ≤ 1114111 := by
  intro c hc
  unfold toN at hc
  rw [List.mem_map] at hc
  obtain ⟨z, hz, rfl⟩ := hc
  have := h z hz
  omega
/-- What Sequence hands back of a sequence's text. -/
theorem seq_back {zs : List Int} {n : Nat} {w w' : World} {e : Ending} (hn : zs.length = n) (hne : ¬ textOf zs = []) (h : SeqPost (textOf zs) w e w') : ∃ A ca, e = .returned (.tuple #[.slice A n ca, .int .i64 0]) ∧ Vals w' A n (nums .i64 zs) ∧ Below w.heap.size w w' := by
  have hok : okN zs := by
    apply Classical.byContradiction
    intro h
    exact hne (textOf_no h)
  have hs : seqOf (textOf zs) = some (toN zs) := by
    rw [textOf_yes hok]
    exact seq_join (toN_ok hok)
  obtain ⟨hb, ⟨cs, A, ca, h1, rfl, hV⟩ | ⟨h1, _⟩⟩ := h
  · rw [hs] at h1
    cases h1
    have hl : (toN zs).length = n := by unfold toN; rw [List.length_map, hn]
    rw [hl] at hV ⊢
    rw [back_nums hok] at hV
    exact ⟨A, ca, rfl, hV, hb⟩
  · rw [hs] at h1
    cases h1
theorem seq_none {w w' : World} {e : Ending} (h : SeqPost [] w e w') : ∃ A ca, e = .returned (.tuple #[.slice A 0 ca, .int .i64 0]) ∧ Below w.heap.size w w' := by
  obtain ⟨hb, ⟨cs, A, ca, h1, rfl, hV⟩ | ⟨h1, _⟩⟩ := h
  · cases h1
    exact ⟨A, ca, rfl, hb⟩
  · cases h1

set_option maxRecDepth 100000 in
set_option maxHeartbeats 1000000 in
theorem walk_short (a0 : Option Addr) (len0 cap0 : Nat) (zs : List Int) (w : World) (hM : ML w) (hV : Vals w a0 len0 (nums .i64 zs)) (h : len0 ≤ 100) :
    Calls Tryd.prog 5 #[.slice a0 len0 cap0] w fun e w' => e = .returned (.bool true) ∧ Below w.heap.size w w' := by
  have hl : zs.length = len0 := by have := hV.1; unfold nums at this; rwa [List.length_map] at this
  have htl : (textOf zs).length ≤ 1000 := by
    by_cases hok : okN zs
    · rw [textOf_yes hok]
      have := join_len false (toN zs)
      have h2 : (toN zs).length = zs.length := by unfold toN; rw [List.length_map]
      omega
    · rw [textOf_no hok]
      simp
  have HV := Lib.hid hV
  have HM := Lib.hid hM
  have HL := Lib.hid hl
  clear hV hM hl
  go_enter Tryd.func5, Tryd.ntmps5
  go_wp2_with (go_at_call 7; (with_reducible refine (awake7 w HM.out).mono ?_); rintro e w1 ⟨rfl, hb1⟩)
  have c18 := text18 a0 len0 cap0 zs w1 (HV.out.below hb1) (by omega)
  go_wp2_with (go_at_call 18; (with_reducible refine c18.mono ?_); rintro e w2 ⟨rfl, hb2⟩)
  have b2 := hb1.trans (hb2.mono hb1.size)
  clear c18
  have c19 := text19 a0 len0 cap0 zs w2 (HV.out.below b2) (by omega)
  by_cases hne : textOf zs = []
  · rw [hne] at c19 ⊢
    rw [bs_nil] at c19 ⊢
    go_wp2_with (go_at_call 19; (with_reducible refine c19.mono ?_); rintro e w3 ⟨rfl, hb3⟩)
    have b3 := b2.trans (hb3.mono b2.size)
    have c15 := sequence15 [] w3 (by simp) (HM.out.below b3)
    rw [bs_nil] at c15
    go_wp2_with (go_at_call 15; (with_reducible refine c15.mono ?_); rintro e w4 hE; obtain ⟨A, ca, rfl, hb4⟩ := seq_none hE; clear hE)
    go_ret
    exact ⟨rfl, b3.trans (hb4.mono b3.size)⟩
  · have hemp := bs_some hne
    have c15 := fun w3 hM3 => sequence15 (textOf zs) w3 htl hM3
    have hbk := fun w3 w4 e (hE : SeqPost (textOf zs) w3 e w4) => seq_back HL.out hne hE
    have C15 := Lib.hid c15
    have HBK := Lib.hid hbk
    obtain ⟨T, hT⟩ : ∃ T, bs (textOf zs) = T := ⟨_, rfl⟩
    rw [hT] at c19 hemp C15 ⊢
    clear c15 hbk hT hne
    go_wp2_with (go_at_call 19; (with_reducible refine c19.mono ?_); rintro e w3 ⟨rfl, hb3⟩)
    have b3 := b2.trans (hb3.mono b2.size)
    have c15 := C15.out w3 (HM.out.below b3)
    go_wp2_with (go_at_call 15; (with_reducible refine c15.mono ?_); rintro e w4 hE; obtain ⟨A, ca, rfl, hV4, hb4⟩ := HBK.out _ _ _ hE; clear hE; have b4 := b3.trans (hb4.mono b3.size); have c17 := same17 A a0 len0 ca cap0 zs w4 hV4 (HV.out.below b4) (by omega); clear hV4)
    go_wp2_with (go_at_call 17; (with_reducible refine c17.mono ?_); rintro e w5 ⟨rfl, q, rfl⟩)
    go_ret
    exact ⟨rfl, below_drewN b4 q⟩

theorem walk (a0 : Option Addr) (len0 cap0 : Nat) (z0 : List Int) (w : World) (hM : ML w) (w0 : IsRow .i64 w a0 len0 cap0 z0) :
    Calls Tryd.prog 5 #[.slice a0 len0 cap0] w fun e w' => e = .returned (.bool true) ∧ Below w.heap.size w w' := by
  by_cases h0 : 100 < len0
  · exact walk_long a0 len0 cap0 w hM h0
  · exact walk_short a0 len0 cap0 _ w hM w0.vals.1 (by omega)

set_option maxRecDepth 100000 in
theorem contract (H : Type) (enc : TypeId × Value → H) (W : World) (base : Nat) (args : Array Value) (ds gs : List (DataW H)) (before : List MemPlace)
    (hval : ∀ (j : Nat) t v, Tryd.f5.params[j]? = some t → args[j]? = some v → Value.okWide Tryd.prog W .any base t v)
    (hW : DataW.Whole enc Tryd.prog Tryd.f5.params.toList Rows.fieldBackSpec.vars false W args.toList ds gs before) (hsh : W.ShapedOpen Tryd.prog) :
    Calls Tryd.prog 5 args W fun e W' => ∃ v, e = .returned v ∧ Rows.fieldBackSpec.post enc Tryd.prog Tryd.f5 false true false false W args v W' := by
  have hM : ML W := Tryd.maxLen_cell W hsh
  have hW' := hW
  obtain ⟨p, q, hA0, hV, rfl, hfz, hnd⟩ := hW
  have hA : DataW.TrodAll enc Tryd.prog W 0 (fun _ => true) true Tryd.f5.params.toList args.toList ds p := hA0
  rw [Tryd.params5] at hA hval
  obtain ⟨v0, vs0, d0, ds0, p0, q0, hargs, rfl, rfl, h0, r0⟩ := trodAll_cons hA
  obtain ⟨rfl, rfl, rfl⟩ := trodAll_nil r0
  obtain rfl : args = #[v0] := by cases args; simp_all
  obtain ⟨rfl, rfl⟩ := trodVars_none hV
  obtain ⟨a0, len0, cap0, rfl⟩ := okWide_slice Tryd.underlying43 (hval 0 43 v0 rfl rfl)
  have k0 := h0
  have lt0 : ∀ x ∈ p0, x.block < W.heap.size := by obtain ⟨m, hm⟩ := k0; exact DataW.trod_lt m _ _ _ hm
  obtain ⟨z0, w0⟩ : ∃ zs, IsRow .i64 W a0 len0 cap0 zs := by
    obtain ⟨fuel, hf⟩ := h0
    rcases open_ints Tryd.underlying43 Tryd.underlying3 (by kernel_rfl) hf with ⟨hcs, _⟩ | ⟨x, l, c, zs, hcs, _, hl, hm, hz, _, hcell, hwz⟩
    · simp [Value.cells] at hcs
      obtain ⟨rfl, rfl, rfl⟩ := hcs
      exact ⟨[], .inl ⟨rfl, rfl, rfl, rfl⟩⟩
    · simp [Value.cells] at hcs
      obtain ⟨rfl, rfl, rfl⟩ := hcs
      exact ⟨zs, .inr ⟨_, rfl, hl, hm, by simpa using hz, hcell, hwz⟩⟩
  clear hA0
  refine (walk a0 len0 cap0 z0 W hM w0).mono fun e W' ⟨he, bel⟩ => ?_
  subst he
  exact ⟨_, rfl, _, _, _, [], _, [], hW', trodAll_mk1 (shut_bool Tryd.underlying4 _), (trodAll_cons_mk (Below.trod laidOut (by kernel_rfl) (of_decide_eq_true (by kernel_rfl)) k0 bel lt0) trodAll_mk0), rfl, bel.frame _, fun h => by cases h⟩

theorem laid_met (os : Os) : laidMet Tryd.prog Rows.fieldBackRow.laid ((laidWorld os).forCall (fun _ _ => 0) ⟨#[], #[.slice none 0 0], []⟩).memory :=
  laidMet_of_run' 8 (by kernel_rfl) (by kernel_rfl)
theorem reads (os : Os) {H : Type} (enc : TypeId × Value → H) : ∃ places, DataW.whole enc Tryd.prog ((laidWorld os).forCall (fun _ _ => 0) ⟨#[], #[.slice none 0 0], []⟩).memory Tryd.f5.params.toList Rows.fieldBackSpec.vars false #[Value.slice none 0 0].toList 8 = some ([.nil], [], places) :=
  ⟨[], by kernel_rfl⟩

set_option maxRecDepth 100000 in
theorem lifted (os : Os) (started : os.Started) (H : Type) (enc : TypeId × Value → H) (F : Stop.Interp) :
    ReturnsInHanded {} Tryd.checked os 5 .any ((OpenSpec.ofChange Rows.fieldBackSpec).preRow enc Tryd.prog Tryd.f5 Rows.fieldBackRow.domain false Rows.fieldBackRow.laid) (((OpenSpec.ofChange Rows.fieldBackSpec).at F).post enc Tryd.prog Tryd.f5 false true false false) := by
  obtain ⟨places, hx⟩ := reads os enc
  refine returnsInHanded_of_row (C := Tryd.checked) (s := OpenSpec.ofChange Rows.fieldBackSpec) own started (by kernel_rfl) Tryd.func5
    (witness_row_at (enc := enc) (C := Tryd.checked) false (laidWorld os) #[.slice none 0 0] rfl (by kernel_rfl) (by kernel_rfl) (by kernel_rfl)
      (OpenSpec.preRow_of_cond 8 hx (by kernel_rfl) (fun k hk => by cases hk) (by kernel_rfl) (laid_met os))) ?_
  intro W base args ds gs before hval hW _ _ _ _ hsh _
  exact contract H enc W base args ds gs before hval hW hsh

theorem said : Rows.FieldBackSaid :=
  OpenClaim.holds_of_cond 5 Tryd.f5 rfl rfl rfl rfl rfl rfl rfl ⟨rfl, rfl, rfl, rfl, rfl⟩ rfl rfl rfl rfl rfl (by kernel_rfl) Tryd.func5 (by kernel_rfl)
    (of_decide_eq_true (by kernel_rfl)) (by unfold Func.isWrapper; first | (rw [if_pos (by decide +kernel)]; kernel_rfl) | (rw [if_neg (by decide +kernel)]; exact ⟨rfl, rfl⟩))
    (fun os started H enc _ F => by rw [OpenClaim.pre_eq_preRow]; exact lifted os started H enc F)

theorem plain (f : FuncId) (fn : Func) (hf : Tryd.pinned.checked.prog.funcNamed Rows.fieldBackRow.func = some f) (hfn : Tryd.pinned.checked.prog.funcs[f]? = some fn) :
    false = Tryd.pinned.checked.prog.looks [] ∧ ∀ (j : Nat) t, fn.params[j]? = some t → Tryd.pinned.checked.prog.wantsStandIn t = false := by
  obtain rfl : f = 5 := Option.some.inj ((show Tryd.prog.funcNamed Rows.fieldBackRow.func = some 5 by kernel_rfl).symm.trans hf) |>.symm
  obtain rfl : fn = Tryd.f5 := (Option.some.inj (Tryd.func5.symm.trans hfn)).symm
  refine ⟨by kernel_rfl, fun j t ht => ?_⟩
  rw [Tryd.params5] at ht
  have hm := Array.mem_of_getElem? ht
  simp at hm
  subst hm
  exact (show Tryd.prog.wantsStandIn 43 = false by kernel_rfl)
end Go.Proofs.YtlknffldlnhfdaaDoor.fieldBack
namespace Go.Proofs.YtlknffldlnhfdaaDoor
theorem fieldBack_card : Rows.FieldBackCardSaid :=
  Claim7.holds_tied_plain_at .later [] _ _ _ _ fieldBack.said (fun _ h => by cases h) (by kernel_rfl) (fun _ h => by cases h) fieldBack_row_tie rfl ⟨rfl, rfl⟩ (by kernel_rfl) rfl fieldBack.plain (by kernel_rfl)
#print axioms fieldBack_card
end Go.Proofs.YtlknffldlnhfdaaDoor

