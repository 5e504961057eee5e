/- What the document's own decoding hands back for any octets. -/
import Derived.Test.YtijokbgpbpfclaaDoorNext
namespace Go.Proofs.YtijokbgpbpfclaaDoor
open Go.RowKit

theorem str_drop {bs : List Int} (k n : Nat) (hn : bs.length = n) : (strOfNums bs).extract k n = strOfNums (bs.drop k) := by
  simp only [strOfNums]
  rw [ByteArray.extract_mk, List.take_of_length_le (by simp; omega), List.map_drop]

theorem next_some {bs : List Int} {c : Int} {w w' : World} {e : Ending} (h : NextPost bs w e w') (hf : fst bs = some c) : e = .returned (.tuple #[.int .i64 c, .int .i64 (oct c).length]) ∧ Below w.heap.size w w' := by
  obtain ⟨hb, ⟨d, hd, rfl⟩ | ⟨hn, _⟩⟩ := h
  · rw [hf] at hd
    cases hd
    exact ⟨rfl, hb⟩
  · rw [hf] at hn
    cases hn
theorem next_none {bs : List Int} {w w' : World} {e : Ending} (h : NextPost bs w e w') (hf : fst bs = none) : e = .returned (.tuple #[.int .i64 0, .int .i64 0]) ∧ Below w.heap.size w w' := by
  obtain ⟨hb, ⟨d, hd, _⟩ | ⟨_, rfl⟩⟩ := h
  · rw [hf] at hd
    cases hd
  · exact ⟨rfl, hb⟩

def RDecPost (bs : List Int) (w : World) (e : Ending) (w' : World) : Prop :=
  Below w.heap.size w w' ∧ ∃ s k, Stop bs s k ∧ ∃ v, e = .returned (.tuple #[v, .int .i64 (k : Nat)]) ∧ w'.ownsRow w.heap.size 3 1 v s.length (s.map (Value.int .i64))

set_option maxHeartbeats 1000000 in
theorem refDecode13 (bs : List Int) (w : World) (n : Nat) (hl : bs.length = n) (ho : Octs bs) (hn : n ≤ 1000000) :
    Calls Tryd.prog 13 #[.string (strOfNums bs)] w (RDecPost bs w) := by
  have HL := Lib.hid hl
  have hsz : (strOfNums bs).size = n := by rw [strOfNums_size, hl]
  clear hl
  obtain ⟨i0, hi, hz0, hz1, hz2⟩ := info_parts info3
  go_enter Tryd.func13, Tryd.ntmps13
  go_wp2
  go_loopw [4, 5] (fun v i wr => DecRel bs w v i wr) (fun _ i _ => n - (intOf i).toNat)
  case atStart => exact ⟨[], 0, rfl, Part.zero bs, World.ownsRow_nil _ _ _ _, Below.refl _ _⟩
  case round =>
    obtain ⟨s, k, rfl, hp, hown, hbel⟩ := hrel
    have hkn : k ≤ n := by have := hp.le; have := HL.out; omega
    have hfew := hp.few
    by_cases hlt : k < n
    · have c26 := next26 (bs.drop k) wr (octs_drop ho k) (by have := HL.out; simp; omega) (by have := HL.out; simp; omega)
      rw [← str_drop k n HL.out] at c26
      cases hf : fst (bs.drop k) with
      | some c =>
        have hpos := (oct_length c).1
        have hle := (hp.step ho hf).le
        have hlen4 := (oct_length c).2
        rw [HL.out] at hle
        have hst := fun w1 w2 v v' o => @dec_step bs s k c w wr w1 w2 v v' o hp ho hf
        have hcall : Calls Tryd.prog 26 #[.string ((strOfNums bs).extract k n)] wr fun e w' => e = .returned (.tuple #[.int .i64 c, .int .i64 (oct c).length]) ∧ Below wr.heap.size wr w' := c26.mono fun _ _ h => next_some h hf
        obtain ⟨L, hL⟩ : ∃ L, (oct c).length = L := ⟨_, rfl⟩
        rw [hL] at hcall hpos hle hlen4 hst
        have HSt := Lib.hid hst
        clear hf ho hst hp hL c26
        have hz : ((L : Int) == 0) = false := beq_false_of_ne (by omega)
        have hc63 : s.length + 1 ≤ maxLen := by unfold maxLen; omega
        have hc47 : (s.length + 1) * 8 ≤ 140737488355328 := by omega
        go_wp2_with (first
          | (go_at_call 26; (with_reducible refine hcall.mono ?_); rintro e w1 ⟨rfl, hb1⟩; have hown1 := own_below hown hb1 (Nat.le_refl _); have hsz1 : w.heap.size ≤ w1.heap.size := Nat.le_trans hbel.size hb1.size)
          | (at_builtin; refine wpList_append_own _ rfl _ _ 22 rfl w.heap.size 3 i0 (.int .i64 0) 1 8 Tryd.underlying22 hi hz0 hz1 hz2 rfl (by decide) _ _ _ rfl (hown1.alloc _) ⟨w1.heap.size, 0, none⟩ 1 1 [.int .i64 c] rfl rfl ?c1 ?c2 hc63 hc47 ?c5 ?_))
        case c1 =>
          intro j u hj
          match j, hj with
          | 0, hj => simp at hj; subst hj; simp [Addr.add]
        case c2 => intro u hu; simp at hu; subst hu; rfl
        case c5 => simp; omega
        intro v' w2 hown' hgrow _
        have R := HSt.out w1 w2 _ v' _ hown hbel hb1 hown' hgrow
        clear hown' hgrow hown hown1
        go_wp2
        go_roundw
        case rel => exact R
        case measure => simp [intOf]; omega
      | none =>
        have hcall : Calls Tryd.prog 26 #[.string ((strOfNums bs).extract k n)] wr fun e w' => e = .returned (.tuple #[.int .i64 0, .int .i64 0]) ∧ Below wr.heap.size wr w' := c26.mono fun _ _ h => next_none h hf
        have HF := Lib.hid hf
        clear hf ho c26
        go_wp2_with (go_at_call 26; (with_reducible refine hcall.mono ?_); rintro e w1 ⟨rfl, hb1⟩)
        go_ret2
        exact ⟨hbel.trans (hb1.mono hbel.size), s, k, hp.stop HF.out, _, rfl, own_below hown hb1 (Nat.le_refl _)⟩
    · have hk : k = n := by omega
      subst hk
      go_wp2
      go_ret2
      exact ⟨hbel, s, k, hp.whole HL.out.symm, _, rfl, hown⟩
end Go.Proofs.YtijokbgpbpfclaaDoor
