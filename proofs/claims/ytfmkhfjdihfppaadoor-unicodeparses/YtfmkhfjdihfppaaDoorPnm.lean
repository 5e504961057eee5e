/- What the program's named and readDecomp hand back; strings.Clone. -/
import Derived.Test.YtfmkhfjdihfppaaDoorBx
import Derived.Test.YtfmkhfjdihfppaaDoorSeqw
import Derived.Test.YtfmkhfjdihfppaaDoorPccc
namespace Go.Proofs.YtfmkhfjdihfppaaDoor
open Go.RowKit

theorem pre_tag (l : List UInt8) : Lib.hasPrefix l [60] = tagB l := by
  unfold tagB oct
  rw [Bool.eq_iff_iff, decide_eq_true_eq]
  cases l with
  | nil => simp [Lib.hasPrefix]
  | cons x t =>
    simp [Lib.hasPrefix]
    constructor
    · intro h; rw [← h]; rfl
    · intro h; exact UInt8.toNat_inj.1 (by show 60 = x.toNat; omega)
theorem suf_iff (s e : List UInt8) : Lib.hasSuffix s e = true ↔ e <:+ s := by
  unfold Lib.hasSuffix
  simp
theorem named_eq (s e : List UInt8) : (Lib.hasPrefix s [60] && Lib.hasSuffix s e) = namedB s e := by
  rw [pre_tag, Bool.eq_iff_iff, named_iff, Bool.and_eq_true, suf_iff]
  unfold tagB
  rw [decide_eq_true_eq, and_assoc]
set_option maxRecDepth 100000 in
set_option maxHeartbeats 1000000 in
theorem named36 (s e : List UInt8) (w : World) (hl : s.length ≤ 1000000) : Calls Tryd.prog 36 #[.string (bs s), .string (bs e)] w fun r w' => r = .returned (.bool (namedB s e)) ∧ w = w' := by
  have c63 := Tryd.strings_HasPrefix (bs s) ⟨#[60]⟩ w
  have c64 := Tryd.strings_HasSuffix (bs s) (bs e) w (by rw [bs_size]; omega)
  rw [bs_data] at c63 c64
  rw [bs_data] at c64
  rw [← named_eq]
  have e60 : (⟨#[60]⟩ : ByteArray).data.toList = [60] := rfl
  rw [e60] at c63
  obtain ⟨P, hP⟩ : ∃ P, Lib.hasPrefix s [60] = P := ⟨_, rfl⟩
  obtain ⟨Q, hQ⟩ : ∃ Q, Lib.hasSuffix s e = Q := ⟨_, rfl⟩
  rw [hP] at c63 ⊢
  rw [hQ] at c64 ⊢
  obtain ⟨S, hS⟩ : ∃ S, bs s = S := ⟨_, rfl⟩
  obtain ⟨E, hE⟩ : ∃ E, bs e = E := ⟨_, rfl⟩
  rw [hS] at c63 c64 ⊢
  rw [hE] at c64 ⊢
  clear hP hQ hS hE e60 hl
  cases P with
  | true =>
    go_enter Tryd.func36, Tryd.ntmps36
    go_wp2_with (first
      | (go_at_call 63; (with_reducible refine c63.mono ?_); rintro e w' ⟨rfl, rfl⟩)
      | (go_at_call 64; (with_reducible refine c64.mono ?_); rintro e w' ⟨rfl, rfl⟩))
    go_ret
    exact ⟨rfl, rfl⟩
  | false =>
    clear c64
    go_enter Tryd.func36, Tryd.ntmps36
    go_wp2_with (go_at_call 63; (with_reducible refine c63.mono ?_); rintro e w' ⟨rfl, rfl⟩)
    go_ret
    exact ⟨rfl, rfl⟩
set_option maxRecDepth 100000 in
set_option maxHeartbeats 1000000 in
theorem clone61 (S : ByteArray) (w : World) (hl : S.size ≤ 1000000) : Calls Tryd.prog 61 #[.string S] w fun e w' => e = .returned (.string S) ∧ Below w.heap.size w w' := by
  have c77 := Tryd.stringslite_Clone S w (by omega)
  go_enter Tryd.func61, Tryd.ntmps61
  go_wp2_with (go_at_call 77; (with_reducible refine c77.mono ?_); rintro e w' ⟨rfl, hb⟩)
  go_ret
  exact ⟨rfl, hb⟩

def DecPost (l : List UInt8) (w : World) (e : Ending) (w' : World) : Prop :=
  Below w.heap.size w w' ∧ ∃ A n ca, e = .returned (.tuple #[.slice A n ca, .int .i64 (decErr l)]) ∧ Hid (decErr l = 0 → n = (decVal l).length ∧ Vals w' A n (i64s (decVal l)) ∧ ∀ a, A = some a → w.heap.size ≤ a.block)
set_option maxRecDepth 100000 in
set_option maxHeartbeats 2000000 in
theorem dec60 (l : List UInt8) (w : World) (hl : l.length ≤ 2000) (hM : ML w) : Calls Tryd.prog 60 #[.string (bs l)] w (DecPost l w) := by
  have c63 := Tryd.strings_HasPrefix (bs l) ⟨#[60]⟩ w
  have e60 : (⟨#[60]⟩ : ByteArray).data.toList = [60] := rfl
  rw [e60, bs_data, pre_tag] at c63
  have c76 := sequence15 l w hl hM
  obtain ⟨S, hS⟩ : ∃ S, bs l = S := ⟨_, rfl⟩
  rw [hS] at c63 c76 ⊢
  clear hS e60 hM
  cases ht : tagB l with
  | true =>
    rw [ht] at c63
    have HD : Hid (decErr l = 0) := Lib.hid (by unfold decErr; rw [if_pos ht])
    have HV : Hid (decVal l = []) := Lib.hid (by unfold decVal; rw [if_pos ht])
    clear ht c76
    go_enter Tryd.func60, Tryd.ntmps60
    go_wp2_with (go_at_call 63; (with_reducible refine c63.mono ?_); rintro e w' ⟨rfl, rfl⟩)
    go_ret2
    exact ⟨Below.refl _ _, none, 0, 0, by rw [HD.out]; rfl, Lib.hid fun _ => ⟨by rw [HV.out]; rfl, by rw [HV.out]; exact Vals.nil _ _, fun a h => by cases h⟩⟩
  | false =>
    rw [ht] at c63
    have hde := dec_err ht
    cases hs : seqOf l with
    | none =>
      replace c76 := c76.mono (fun e w' h => seq_none hs h)
      rw [hs] at hde
      have HD := Lib.hid hde
      clear ht hs hde
      go_enter Tryd.func60, Tryd.ntmps60
      go_wp2_with (first
        | (go_at_call 63; (with_reducible refine c63.mono ?_); rintro e w' ⟨rfl, rfl⟩)
        | (go_at_call 76; (with_reducible refine c76.mono ?_); rintro e w3 ⟨rfl, hb3⟩))
      go_ret2
      exact ⟨hb3, none, 0, 0, by rw [HD.out]; rfl, Lib.hid fun h => by rw [HD.out] at h; cases h⟩
    | some cs =>
      replace c76 := c76.mono (fun e w' h => seq_some hs h)
      rw [hs] at hde
      have HV : Hid (decVal l = cs) := Lib.hid (by unfold decVal; rw [if_neg (by rw [ht]; decide), hs]; rfl)
      by_cases hlong : 2 < cs.length
      · have HD : Hid (decErr l = 16) := Lib.hid (by rw [hde]; simp only [if_pos hlong])
        have hlI : 2 < (cs.length : Int) := by omega
        clear ht hs hde
        go_enter Tryd.func60, Tryd.ntmps60
        go_wp2_with (first
          | (go_at_call 63; (with_reducible refine c63.mono ?_); rintro e w' ⟨rfl, rfl⟩)
          | (go_at_call 76; (with_reducible refine c76.mono ?_); rintro e w3 ⟨hb3, A3, ca3, rfl, hV3⟩))
        go_ret2
        exact ⟨hb3, none, 0, 0, by rw [HD.out]; rfl, Lib.hid fun h => by rw [HD.out] at h; cases h⟩
      · have HD : Hid (decErr l = 0) := Lib.hid (by rw [hde]; simp only [if_neg hlong])
        have hlI : ¬ 2 < (cs.length : Int) := by omega
        clear ht hs hde
        go_enter Tryd.func60, Tryd.ntmps60
        go_wp2_with (first
          | (go_at_call 63; (with_reducible refine c63.mono ?_); rintro e w' ⟨rfl, rfl⟩)
          | (go_at_call 76; (with_reducible refine c76.mono ?_); rintro e w3 ⟨hb3, A3, ca3, rfl, hV3⟩))
        go_ret2
        exact ⟨hb3, A3, cs.length, ca3, by rw [HD.out]; rfl, Lib.hid fun _ => ⟨by rw [HV.out], by rw [HV.out]; exact hV3.out.1, hV3.out.2⟩⟩
end Go.Proofs.YtfmkhfjdihfppaaDoor
