/- The document's examples hold: Encode of 20AC is E2 82 AC; Decode of C0 80 tells ErrUTF and 0. -/
import Derived.Test.YtijokbgpbpfclaaDoorEnc
import Derived.Test.YtijokbgpbpfclaaDoorDec
namespace Go.Proofs.YtijokbgpbpfclaaDoor
open Go.RowKit

theorem conv_nums {A : Option Addr} {n : Nat} (c : Nat) {bs : List Int} {w : World} (h : Nums .u8 w A n bs) : (convert 24 9 (.slice A n c)).run Tryd.prog w = .ok (.string (strOfNums bs)) w := by
  rcases Nat.eq_zero_or_pos n with h0 | h0
  · subst h0
    obtain rfl : bs = [] := List.eq_nil_of_length_eq_zero h.1
    cases A with
    | none => exact run_convert_bytes_nil w 24 5 Tryd.underlying24 Tryd.underlying5 0 c 9 Tryd.underlying9
    | some a =>
      rw [run_convert_bytes_string w 24 9 5 _ 0 c Tryd.underlying24 Tryd.underlying5 Tryd.underlying9]
      rw [run_bytesToString w a 0 c [] (by simp [loadCells, loadCellsFrom])]
      rfl
  · obtain ⟨b, off, rfl, _, hc⟩ := h.2 h0
    exact run_convert_bytes_arg w 24 5 Tryd.underlying24 Tryd.underlying5 b off n c bs h.1 hc 9 Tryd.underlying9

theorem encs_euro : encs [8364] = [226, 130, 172] := by decide
theorem enc_euro {w : World} {e : Ending} {w' : World} (h : EncPost [8364] w e w') : ∃ A c, e = .returned (.tuple #[.slice A 3 c, .bool true]) ∧ Nums .u8 w' A 3 [226, 130, 172] ∧ Below w.heap.size w w' := by
  obtain ⟨hb, ⟨_, v, rfl, hown⟩ | ⟨hn, _⟩⟩ := h
  · rw [encs_euro] at hown
    obtain ⟨A, c, rfl, _, hN⟩ := ownF_nums hown
    exact ⟨A, c, rfl, hN, hb⟩
  · exact absurd (by intro c hc; simp at hc; subst hc; decide) hn
theorem dec_bad {w : World} {e : Ending} {w' : World} (h : DecPost [192, 128] 2 w e w') : e = .returned (.tuple #[.slice none 0 0, .int .i64 10, .int .i64 0]) ∧ Below w.heap.size w w' := by
  obtain ⟨hb, s, k, hp, h⟩ := h
  have h0 : fst [192, 128] = none := by decide
  have hs : s = [] := by
    cases s with
    | nil => rfl
    | cons c s =>
      have e := hp.2.2
      rw [encs_cons, List.append_assoc] at e
      rw [e, fst_oct (hp.1 c (by simp))] at h0
      cases h0
  subst hs
  have hk : k = 0 := by have := hp.2.1; simpa [encs] using this
  subst hk
  rcases h with ⟨h, _⟩ | ⟨_, _, rfl⟩
  · cases h
  · exact ⟨rfl, hb⟩

theorem nums_one (w : World) (k : IntKind) (x : Int) (t : TypeId) : Nums k (w.alloc (.cells #[.int k x] t)) (some ⟨w.heap.size, 0, none⟩) 1 [x] := by
  refine ⟨rfl, fun _ => ⟨_, _, rfl, by simp, fun j hj => ?_⟩⟩
  obtain rfl : j = 0 := by omega
  simp
theorem nums_two (w : World) (k : IntKind) (x y : Int) (t : TypeId) : Nums k (w.alloc (.cells #[.int k x, .int k y] t)) (some ⟨w.heap.size, 0, none⟩) 2 [x, y] := by
  refine ⟨rfl, fun _ => ⟨_, _, rfl, by simp, fun j hj => ?_⟩⟩
  rcases (show j = 0 ∨ j = 1 by omega) with rfl | rfl <;> simp

theorem str_euro : (strOfNums [226, 130, 172]) = ⟨#[226, 130, 172]⟩ := by decide

set_option maxHeartbeats 1000000 in
theorem awake8 (w : World) (hT : Lib.Utf8Tabs 0 1 w) : Calls Tryd.prog 8 #[] w fun e w' => e = .returned (.bool true) ∧ Below w.heap.size w w' := by
  have c1 := encode9 (some ⟨w.heap.size, 0, none⟩) 1 1 [8364] _ (nums_one w .i64 8364 3) (by omega)
  have b1 : Below w.heap.size w (w.alloc (.cells #[.int .i64 8364] 3)) := (Below.refl _ _).alloc (Nat.le_refl _) _
  go_enter Tryd.func8, Tryd.ntmps8
  go_wp2_with (go_at_call 9; refine c1.mono ?_; rintro e w1 hE; obtain ⟨A, c, rfl, hN, hb1⟩ := enc_euro hE; clear hE)
  have b2 : Below w.heap.size w w1 := b1.trans (hb1.mono (by simp))
  have b3 : Below w1.heap.size w1 (w1.alloc (.cells #[.int .u8 192, .int .u8 128] 5)) := (Below.refl _ _).alloc (Nat.le_refl _) _
  have c2 := decode11 (some ⟨w1.heap.size, 0, none⟩) 2 2 [192, 128] (w1.alloc (.cells #[.int .u8 192, .int .u8 128] 5)) (tabs_below (tabs_below hT b2) b3) (by intro x hx; simp at hx; omega) (nums_two w1 .u8 192 128 5) (by omega) (by omega)
  go_wp2_with (go_at_call 11; refine c2.mono ?_; rintro e w2 hD; obtain ⟨rfl, hb2⟩ := dec_bad hD; clear hD; have b4 : Below w1.heap.size w1 w2 := b3.trans (hb2.mono (by simp)); have hconv := conv_nums c (hN.below b4); rw [str_euro] at hconv)
  go_ret
  exact ⟨rfl, b2.trans (b4.mono b2.size)⟩
end Go.Proofs.YtijokbgpbpfclaaDoor
