/- For any text the statement FieldPoints answers true: Point, Range and Sequence hand back what the document's own do. Conditions: those of the row itself (the two tables of unicode/utf8 hold what Go's text lays in them; the card ties that to the text). -/
import Derived.Test.YtlknffldlnhfdaaDoorCards
import Derived.Test.YtlknffldlnhfdaaDoorTie
import Derived.Test.YtlknffldlnhfdaaDoorLaid
import Derived.Test.YtlknffldlnhfdaaDoorAw7
import Derived.Test.YtlknffldlnhfdaaDoorRrange
import Derived.Test.YtlknffldlnhfdaaDoorRsequ
import Derived.Test.YtlknffldlnhfdaaDoorInts
namespace Go.Proofs.YtlknffldlnhfdaaDoor.fieldPoints
open Go.ChangeShapes Go.WideShapes Go.ChangeAt Go.RowKit

theorem walk_long (l : List UInt8) (w : World) (hM : ML w) (hm : l.length ≤ maxLen) (h : 300 < l.length) :
    Calls Tryd.prog 4 #[.string (bs l)] w fun e w' => e = .returned (.bool true) ∧ Below w.heap.size w w' := by
  have hsz := bs_size l
  obtain ⟨n, hn⟩ : ∃ n, l.length = n := ⟨_, rfl⟩
  rw [hn] at h hsz hm
  clear hn
  unfold maxLen at hm
  go_enter Tryd.func4, Tryd.ntmps4
  go_wp2_with (go_at_call 7; (with_reducible refine (awake7 w hM).mono ?_); rintro e w1 ⟨rfl, hb1⟩; have hM1 := hM.below hb1)
  go_wp2_with (go_at_call 7; (with_reducible refine (awake7 w1 hM1).mono ?_); rintro e w2 ⟨rfl, hb2⟩)
  go_ret
  exact ⟨rfl, hb1.trans (hb2.mono hb1.size)⟩
theorem mapM_len : ∀ (L : List (List UInt8)) (cs : List Nat), L.mapM point = some cs → cs.length = L.length
  | [], cs, h => by simp at h; subst h; rfl
  | x :: L, cs, h => by
    rw [List.mapM_cons] at h
    cases hx : point x with
    | none => rw [hx] at h; cases h
    | some c =>
      rw [hx] at h
      cases hL : L.mapM point with
      | none => rw [hL] at h; cases h
      | some ds =>
        rw [hL] at h
        cases h
        rw [List.length_cons, mapM_len L ds hL, List.length_cons]
/-- What Sequence hands back: its length, its numbers, its error's number. -/
def sqN (l : List UInt8) : Nat := ((seqOf l).getD []).length
def sqZ (l : List UInt8) : List Int := ((seqOf l).getD []).map fun c : Nat => (c : Int)
def sqE (l : List UInt8) : Int := if (seqOf l).isSome then 0 else 13
theorem sqN_le (l : List UInt8) : sqN l ≤ l.length + 1 := by
  unfold sqN seqOf
  split
  · simp
  · cases h : (cutAll 32 l).mapM point with
    | none => simp
    | some cs =>
      have := mapM_len _ _ h
      have := cutAll_length 32 l
      simp
      omega
theorem seq_any {l : List UInt8} {w w' : World} {e : Ending} (h : SeqPost l w e w') : ∃ A ca, e = .returned (.tuple #[.slice A (sqN l) ca, .int .i64 (sqE l)]) ∧ Vals w' A (sqN l) (nums .i64 (sqZ l)) ∧ Below w.heap.size w w' := by
  obtain ⟨hb, ⟨cs, A, ca, h1, rfl, hV⟩ | ⟨h1, rfl⟩⟩ := h
  · have e1 : sqN l = cs.length := by unfold sqN; rw [h1]; rfl
    have e2 : sqE l = 0 := by unfold sqE; rw [h1]; rfl
    have e3 : nums .i64 (sqZ l) = i64s cs := by unfold sqZ i64s; rw [h1]; rfl
    rw [e1, e2, e3]
    exact ⟨A, ca, rfl, hV, hb⟩
  · have e1 : sqN l = 0 := by unfold sqN; rw [h1]; rfl
    have e2 : sqE l = 13 := by unfold sqE; rw [h1]; rfl
    have e3 : nums .i64 (sqZ l) = [] := by unfold sqZ; rw [h1]; rfl
    rw [e1, e2, e3]
    exact ⟨none, 0, rfl, Vals.nil _ _, hb⟩

set_option maxRecDepth 100000 in
set_option maxHeartbeats 2000000 in
theorem walk_short (l : List UInt8) (w : World) (hM : ML w) (h : l.length ≤ 300) :
    Calls Tryd.prog 4 #[.string (bs l)] w fun e w' => e = .returned (.bool true) ∧ Below w.heap.size w w' := by
  have hsz := bs_size l
  have hnl := sqN_le l
  have c11 := fun w => point11 l w (by omega)
  have c12 := fun w => point12 l w (by omega)
  have c13 : ∀ w, ML w → Calls Tryd.prog 13 #[.string (bs l)] w fun e w' => e = .returned (rgVal (rangeOf l)) ∧ Below w.heap.size w w' := fun w hM => by
    obtain ⟨m, hm⟩ := hM
    refine (range13 l m w (by omega) hm).mono ?_
    rintro e w' ⟨rfl, q, rfl⟩
    exact ⟨rfl, below_drewN (Below.refl _ _) q⟩
  have c14 := fun w => range14 l w (by omega)
  have c15 : ∀ w, ML w → Calls Tryd.prog 15 #[.string (bs l)] w fun e w' => ∃ A ca, e = .returned (.tuple #[.slice A (sqN l) ca, .int .i64 (sqE l)]) ∧ Vals w' A (sqN l) (nums .i64 (sqZ l)) ∧ Below w.heap.size w w' :=
    fun w hM => (sequence15 l w (by omega) hM).mono fun e w' h => seq_any h
  have c16 : ∀ w, Calls Tryd.prog 16 #[.string (bs l)] w fun e w' => ∃ A ca, e = .returned (.tuple #[.slice A (sqN l) ca, .int .i64 (sqE l)]) ∧ Vals w' A (sqN l) (nums .i64 (sqZ l)) ∧ Below w.heap.size w w' :=
    fun w => (sequence16 l w (by omega)).mono fun e w' h => seq_any h
  have hpt : (∃ c : Nat, point l = some c ∧ ptVal (point l) = .tuple #[.int .i64 c, .int .i64 0] ∧ ptI (point l) = c) ∨ (ptVal (point l) = .tuple #[.int .i64 0, .int .i64 13] ∧ ptI (point l) = -1) := by
    cases hp : point l with
    | none => exact .inr ⟨rfl, rfl⟩
    | some c => exact .inl ⟨c, rfl, rfl, rfl⟩
  simp only [rgVal] at c13 c14
  obtain ⟨r1, hr1⟩ : ∃ r, (rangeOf l).1 = r := ⟨_, rfl⟩
  obtain ⟨r2, hr2⟩ : ∃ r, (rangeOf l).2.1 = r := ⟨_, rfl⟩
  obtain ⟨r3, hr3⟩ : ∃ r, (rangeOf l).2.2 = r := ⟨_, rfl⟩
  obtain ⟨N, hN⟩ : ∃ r, sqN l = r := ⟨_, rfl⟩
  obtain ⟨E, hE⟩ : ∃ r, sqE l = r := ⟨_, rfl⟩
  obtain ⟨Z, hZ⟩ : ∃ r, sqZ l = r := ⟨_, rfl⟩
  obtain ⟨S, hS⟩ : ∃ r, bs l = r := ⟨_, rfl⟩
  obtain ⟨n, hn⟩ : ∃ r, l.length = r := ⟨_, rfl⟩
  obtain ⟨pv, hpv⟩ : ∃ r, ptVal (point l) = r := ⟨_, rfl⟩
  obtain ⟨pi, hpi⟩ : ∃ r, ptI (point l) = r := ⟨_, rfl⟩
  simp only [hr1, hr2, hr3, hS] at c13 c14
  simp only [hN, hE, hZ, hS] at c15 c16
  simp only [hpv, hS] at c11
  simp only [hpi, hS] at c12
  rw [hpv, hpi] at hpt
  rw [hN, hn] at hnl
  rw [hS, hn] at hsz
  rw [hS]
  rw [hn] at h
  have HM := Lib.hid hM
  have C13 := Lib.hid c13
  have C14 := Lib.hid c14
  have C15 := Lib.hid c15
  have C16 := Lib.hid c16
  clear hr1 hr2 hr3 hN hE hZ hS hn hpv hpi hM c13 c14 c15 c16
  rcases hpt with ⟨c, -, rfl, rfl⟩ | ⟨rfl, rfl⟩
  all_goals
    go_enter Tryd.func4, Tryd.ntmps4
    go_wp2_with (go_at_call 7; (with_reducible refine (awake7 w HM.out).mono ?_); rintro e w1 ⟨rfl, hb1⟩)
    go_wp2_with (go_at_call 11; (with_reducible refine (c11 w1).mono ?_); rintro e w' ⟨rfl, rfl⟩)
    go_wp2_with (go_at_call 12; (with_reducible refine (c12 w1).mono ?_); rintro e w2 ⟨rfl, hb2⟩; replace hb2 := hb1.trans (hb2.mono hb1.size))
    have k13 := C13.out w2 (HM.out.below hb2)
    go_wp2_with (go_at_call 13; (with_reducible refine k13.mono ?_); rintro e w3 ⟨rfl, hb3⟩; replace hb3 := hb2.trans (hb3.mono hb2.size))
    have k14 := C14.out w3
    go_wp2_with (go_at_call 14; (with_reducible refine k14.mono ?_); rintro e w4 ⟨rfl, hb4⟩; replace hb4 := hb3.trans (hb4.mono hb3.size))
    have k15 := C15.out w4 (HM.out.below hb4)
    go_wp2_with (go_at_call 15; (with_reducible refine k15.mono ?_); rintro e w5 ⟨A, ca, rfl, hV5, hb5⟩; replace hb5 := hb4.trans (hb5.mono hb4.size))
    have k16 := C16.out w5
    go_wp2_with (go_at_call 16; (with_reducible refine k16.mono ?_); rintro e w6 ⟨B, cb, rfl, hV6, hb6⟩; have k17 := same17 A B N ca cb Z w6 (hV5.below hb6) hV6 (by omega); replace hb6 := hb5.trans (hb6.mono hb5.size); clear hV5 hV6)
    go_wp2_with (go_at_call 17; (with_reducible refine k17.mono ?_); rintro e w7 ⟨rfl, q, rfl⟩)
    go_ret
    exact ⟨rfl, below_drewN hb6 q⟩

theorem walk (a0 : ByteArray) (w : World) (hM : ML w) (w0 : a0.size ≤ maxLen) :
    Calls Tryd.prog 4 #[.string a0] w fun e w' => e = .returned (.bool true) ∧ Below w.heap.size w w' := by
  obtain ⟨R, rfl⟩ : ∃ R, a0 = bs R := ⟨_, (bs_of a0).symm⟩
  rw [bs_size] at w0
  by_cases h : 300 < R.length
  · exact walk_long R w hM w0 h
  · exact walk_short R w hM (by omega)

set_option maxRecDepth 100000 in
theorem contract (H : Type) (enc : TypeId × Value → H) (W : World) (base : Nat) (args : Array Value) (ds gs : List (DataW H)) (before : List MemPlace)
    (hval : ∀ (j : Nat) t v, Tryd.f4.params[j]? = some t → args[j]? = some v → Value.okWide Tryd.prog W .any base t v)
    (hW : DataW.Whole enc Tryd.prog Tryd.f4.params.toList Rows.fieldPointsSpec.vars false W args.toList ds gs before) (hsh : W.ShapedOpen Tryd.prog) :
    Calls Tryd.prog 4 args W fun e W' => ∃ v, e = .returned v ∧ Rows.fieldPointsSpec.post enc Tryd.prog Tryd.f4 false true false false W args v W' := by
  have hM : ML W := Tryd.maxLen_cell W hsh
  have hW' := hW
  obtain ⟨p, q, hA0, hV, rfl, hfz, hnd⟩ := hW
  have hA : DataW.TrodAll enc Tryd.prog W 0 (fun _ => true) true Tryd.f4.params.toList args.toList ds p := hA0
  rw [Tryd.params4] at hA hval
  obtain ⟨v0, vs0, d0, ds0, p0, q0, hargs, rfl, rfl, h0, r0⟩ := trodAll_cons hA
  obtain ⟨rfl, rfl, rfl⟩ := trodAll_nil r0
  obtain rfl : args = #[v0] := by cases args; simp_all
  obtain ⟨rfl, rfl⟩ := trodVars_none hV
  obtain ⟨a0, rfl, rfl, rfl, w0⟩ := Go.ChangeMaps.open_string Tryd.underlying9 (hval 0 9 v0 rfl rfl) h0
  clear hA0
  refine (walk a0 W hM w0).mono fun e W' ⟨he, bel⟩ => ?_
  subst he
  exact ⟨_, rfl, _, _, _, [], _, [], hW', trodAll_mk1 (shut_bool Tryd.underlying4 _), (trodAll_cons_mk (Go.ChangeMaps.shut_string Tryd.underlying9 w0) trodAll_mk0), rfl, bel.frame _, fun h => by cases h⟩

theorem laid_met (os : Os) : laidMet Tryd.prog Rows.fieldPointsRow.laid ((laidWorld os).forCall (fun _ _ => 0) ⟨#[], #[.string ⟨#[]⟩], []⟩).memory :=
  laidMet_of_run' 8 (by kernel_rfl) (by kernel_rfl)
theorem reads (os : Os) {H : Type} (enc : TypeId × Value → H) : ∃ places, DataW.whole enc Tryd.prog ((laidWorld os).forCall (fun _ _ => 0) ⟨#[], #[.string ⟨#[]⟩], []⟩).memory Tryd.f4.params.toList Rows.fieldPointsSpec.vars false #[Value.string ⟨#[]⟩].toList 8 = some ([.lit (.string [])], [], places) :=
  ⟨[], by kernel_rfl⟩

set_option maxRecDepth 100000 in
theorem lifted (os : Os) (started : os.Started) (H : Type) (enc : TypeId × Value → H) (F : Stop.Interp) :
    ReturnsInHanded {} Tryd.checked os 4 .any ((OpenSpec.ofChange Rows.fieldPointsSpec).preRow enc Tryd.prog Tryd.f4 Rows.fieldPointsRow.domain false Rows.fieldPointsRow.laid) (((OpenSpec.ofChange Rows.fieldPointsSpec).at F).post enc Tryd.prog Tryd.f4 false true false false) := by
  obtain ⟨places, hx⟩ := reads os enc
  refine returnsInHanded_of_row (C := Tryd.checked) (s := OpenSpec.ofChange Rows.fieldPointsSpec) own started (by kernel_rfl) Tryd.func4
    (witness_row_at (enc := enc) (C := Tryd.checked) false (laidWorld os) #[.string ⟨#[]⟩] rfl (by kernel_rfl) (by kernel_rfl) (by kernel_rfl)
      (OpenSpec.preRow_of_cond 8 hx (by kernel_rfl) (fun k hk => by cases hk) (by kernel_rfl) (laid_met os))) ?_
  intro W base args ds gs before hval hW _ _ _ _ hsh _
  exact contract H enc W base args ds gs before hval hW hsh

theorem said : Rows.FieldPointsSaid :=
  OpenClaim.holds_of_cond 4 Tryd.f4 rfl rfl rfl rfl rfl rfl rfl ⟨rfl, rfl, rfl, rfl, rfl⟩ rfl rfl rfl rfl rfl (by kernel_rfl) Tryd.func4 (by kernel_rfl)
    (of_decide_eq_true (by kernel_rfl)) (by unfold Func.isWrapper; first | (rw [if_pos (by decide +kernel)]; kernel_rfl) | (rw [if_neg (by decide +kernel)]; exact ⟨rfl, rfl⟩))
    (fun os started H enc _ F => by rw [OpenClaim.pre_eq_preRow]; exact lifted os started H enc F)

theorem plain (f : FuncId) (fn : Func) (hf : Tryd.pinned.checked.prog.funcNamed Rows.fieldPointsRow.func = some f) (hfn : Tryd.pinned.checked.prog.funcs[f]? = some fn) :
    false = Tryd.pinned.checked.prog.looks [] ∧ ∀ (j : Nat) t, fn.params[j]? = some t → Tryd.pinned.checked.prog.wantsStandIn t = false := by
  obtain rfl : f = 4 := Option.some.inj ((show Tryd.prog.funcNamed Rows.fieldPointsRow.func = some 4 by kernel_rfl).symm.trans hf) |>.symm
  obtain rfl : fn = Tryd.f4 := (Option.some.inj (Tryd.func4.symm.trans hfn)).symm
  refine ⟨by kernel_rfl, fun j t ht => ?_⟩
  rw [Tryd.params4] at ht
  have hm := Array.mem_of_getElem? ht
  simp at hm
  subst hm
  exact (show Tryd.prog.wantsStandIn 9 = false by kernel_rfl)
end Go.Proofs.YtlknffldlnhfdaaDoor.fieldPoints
namespace Go.Proofs.YtlknffldlnhfdaaDoor
theorem fieldPoints_card : Rows.FieldPointsCardSaid :=
  Claim7.holds_tied_plain_at .later [] _ _ _ _ fieldPoints.said (fun _ h => by cases h) (by kernel_rfl) (fun _ h => by cases h) fieldPoints_row_tie rfl ⟨rfl, rfl⟩ (by kernel_rfl) rfl fieldPoints.plain (by kernel_rfl)
#print axioms fieldPoints_card
end Go.Proofs.YtlknffldlnhfdaaDoor

