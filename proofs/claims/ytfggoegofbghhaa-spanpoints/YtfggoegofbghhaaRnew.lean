/- What the document's own New hands back. -/
import Derived.Test.YtfggoegofbghhaaRval
import Derived.Test.YtfggoegofbghhaaRsort
namespace Go.Proofs.Ytfggoegofbghhaa
open Go.RowKit

def NewPost (ls : List Sp) (w : World) (e : Ending) (w' : World) : Prop :=
  Below w.heap.size w w' ∧ ((came [] ls = .ok ls ∧ ∃ A ca, e = .returned (.tuple #[.slice A ls.length ca, .int .i64 0]) ∧ (A = none → ca = 0) ∧ SAt w' A ls.length (sorted ls)) ∨
    (∃ x, came [] ls = .error x ∧ x ≠ 0 ∧ e = .returned (.tuple #[.slice none 0 0, .int .i64 x])))
def NewRel (ls : List Sp) (w : World) (v i : Value) (wr : World) : Prop :=
  Below w.heap.size w wr ∧ ∃ k : Nat, i = .int .i64 k ∧ k ≤ ls.length ∧ came [] ls = came (ls.take k) (ls.drop k) ∧ wr.ownsRow w.heap.size 44 3 v k (spvs (ls.take k))
theorem came_yes {ls : List Sp} {k : Nat} {s : Sp} (hs : ls[k]? = some s) (h : came [] ls = came (ls.take k) (ls.drop k)) (hc : check (ls.take k) s = 0) : came [] ls = came (ls.take (k + 1)) (ls.drop (k + 1)) := by
  have hlt := (List.getElem?_eq_some_iff.1 hs).1
  have e : ls[k] = s := (List.getElem?_eq_some_iff.1 hs).2
  rw [h, List.drop_eq_getElem_cons hlt, e, came, if_pos hc, List.take_succ_eq_append_getElem hlt, e]
theorem came_no {ls : List Sp} {k : Nat} {s : Sp} (hs : ls[k]? = some s) (h : came [] ls = came (ls.take k) (ls.drop k)) (hc : ¬ check (ls.take k) s = 0) : came [] ls = .error (check (ls.take k) s) := by
  have hlt := (List.getElem?_eq_some_iff.1 hs).1
  have e : ls[k] = s := (List.getElem?_eq_some_iff.1 hs).2
  rw [h, List.drop_eq_getElem_cons hlt, e, came, if_neg hc]
theorem take_snoc {ls : List Sp} {k : Nat} {s : Sp} (hs : ls[k]? = some s) : spvs (ls.take k) ++ [.int .i64 s.a, .int .i64 s.b, .string (bs s.v)] = spvs (ls.take (k + 1)) := by
  have hlt := (List.getElem?_eq_some_iff.1 hs).1
  have e : ls[k] = s := (List.getElem?_eq_some_iff.1 hs).2
  rw [spvs_snoc, List.take_succ_eq_append_getElem hlt, e]

set_option maxRecDepth 100000 in
set_option maxHeartbeats 2000000 in
theorem new10 (A : Option Addr) (n ca : Nat) (ls : List Sp) (w : World) (hV : SAt w A n ls) (hn : n ≤ 100000) :
    Calls Try.prog 10 #[.slice A n ca] w (NewPost ls w) := by
  obtain ⟨i0, hi, hz0, hz1, hz2⟩ := info_parts info44
  have HV := Lib.hid hV
  have HL := Lib.hid hV.1
  clear hV
  go_enter Try.func10, Try.ntmps10
  go_wp2
  go_loopw [4, 5] (fun v i wr => NewRel ls w v i wr) (fun _ i _ => n - (intOf i).toNat)
  case atStart => exact ⟨Below.refl _ _, 0, rfl, Nat.zero_le _, by simp, World.ownsRow_nil _ _ _ _⟩
  case round =>
    obtain ⟨hbel, k, rfl, hkn, hcame, hown⟩ := hrel
    rw [HL.out] at hkn
    have hol : (ls.take k).length = k := by rw [List.length_take, HL.out]; omega
    have hown' := hown
    rw [← hol] at hown'
    obtain ⟨Ao, co, hvo, -, hSo, hAo⟩ := own_sat (by rw [hol] at hown' ⊢; exact hown')
    rw [hol] at hvo hSo
    subst hvo
    by_cases hlt : k < n
    · obtain ⟨b, off, rfl, hblt, hc⟩ := (HV.out.below hbel).2 (by omega)
      obtain ⟨s, hs⟩ := getSp (ls := ls) (k := k) (by rw [HL.out]; exact hlt)
      obtain ⟨h1, h2, h3⟩ := hc k s hs
      have c19 := check19 Ao k co (ls.take k) s wr hSo (by omega)
      have hsn := take_snoc hs
      unfold spV at c19
      obtain ⟨T, hT⟩ : ∃ T, bs s.v = T := ⟨_, rfl⟩
      rw [hT] at h3 c19 hsn
      have n2 : k + 1 ≤ 200000 := by omega
      have m3 := mx n2
      have m4 := my n2
      by_cases hck : check (ls.take k) s = 0
      · have HC := Lib.hid (came_yes hs hcame hck)
        have k19 := c19
        unfold ChkPost at k19
        rw [hck] at k19
        have HSN := Lib.hid hsn
        have HOW := Lib.hid hown
        clear hc hs hcame hT hsn hck c19 hown hown' hol hSo hAo
        go_wp2_with (first
          | (go_at_call 19; (with_reducible refine k19.mono ?_); rintro e w1 ⟨rfl, hb1⟩; have ho1 := own_below HOW.out hb1 (Nat.le_refl _); have hb1' := hbel.trans (hb1.mono hbel.size); have d1 := (hb1.cell (p := ⟨b, off + k * 3, none⟩) hblt).trans h1; have d2 := (hb1.cell (p := ⟨b, off + k * 3 + 1, none⟩) hblt).trans h2; have d3 := (hb1.cell (p := ⟨b, off + k * 3 + 2, none⟩) hblt).trans h3; have hs1 := hb1'.size)
          | (at_builtin; refine append_lit rfl _ _ 29 rfl w.heap.size 44 i0 (.agg #[.int .i64 0, .int .i64 0, .string ⟨#[]⟩]) 3 32 Try.underlying29 hi hz0 hz1 hz2 rfl (by decide) _ _ _ rfl ho1 [.int .i64 s.a, .int .i64 s.b, .string T] rfl (by simp [Value.oneCell']) rfl m3 m4 hs1 ?_; intro v2 w2 ho2 hg2; have hb2 := hg2 _ _ hb1' (Nat.le_refl _)))
        go_roundw
        case rel => exact ⟨hb2, k + 1, by go_num, by rw [HL.out]; omega, HC.out, by rw [HSN.out] at ho2; exact ho2⟩
        case measure => simp [intOf]; omega
      · have HC := Lib.hid (came_no hs hcame hck)
        obtain ⟨X, hX⟩ : ∃ X, check (ls.take k) s = X := ⟨_, rfl⟩
        have k19 := c19
        unfold ChkPost at k19
        rw [hX] at k19
        rw [hX] at HC hck
        have hb0 : (X == 0) = false := beq_false_of_ne hck
        have HX := Lib.hid hck
        clear hc hs hcame hT hsn c19 hown hown' hol hSo hAo hX
        go_wp2_with (go_at_call 19; (with_reducible refine k19.mono ?_); rintro e w1 ⟨rfl, hb1⟩)
        go_ret2
        exact ⟨hbel.trans (hb1.mono hbel.size), .inr ⟨X, HC.out, HX.out, rfl⟩⟩
    · have hke : k = n := by omega
      subst hke
      rw [List.take_of_length_le (by rw [HL.out]; exact Nat.le_refl _), List.drop_of_length_le (by rw [HL.out]; exact Nat.le_refl _)] at hcame
      rw [List.take_of_length_le (by rw [HL.out]; exact Nat.le_refl _)] at hSo
      have HC : Hid (came [] ls = .ok ls) := Lib.hid (by rw [hcame]; rfl)
      have c24 := sorted24 Ao k co ls wr hSo (by omega)
      clear hown hown' hol hSo hAo hcame
      go_wp2_with (go_at_call 30; (with_reducible refine c24.mono ?_); rintro e w1 ⟨hb1, A2, ca2, rfl, hA2, hS2⟩; have HS2 := Lib.hid hS2; clear hS2)
      go_ret2
      exact ⟨hbel.trans (hb1.mono hbel.size), .inl ⟨HC.out, A2, ca2, rfl, hA2, HS2.out⟩⟩
end Go.Proofs.Ytfggoegofbghhaa
