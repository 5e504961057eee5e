/- Small words on spans and where slices may lie. -/
import Derived.Test.YtdbnegllncjhkaaGreatDoorTab
import Derived.Test.YtdbnegllncjhkaaGreatDoorBox
import Derived.Test.YtdbnegllncjhkaaGreatDoorRsort
namespace Go.Proofs.YtdbnegllncjhkaaGreatDoor
open Go.RowKit

theorem info41 : (Tryz.prog.info? 59).map (fun i => (i.zero, i.size, i.bytes)) = some (some (.agg #[.int .i64 0, .int .i64 0, .string ⟨#[]⟩]), 3, 32) := by kernel_rfl
/-- Where a slice may lie. -/
def Flat (A : Option Addr) : Prop := A = none ∨ ∃ b off, A = some ⟨b, off, none⟩
theorem good_fit {ls : List Sp} (h : Good ls) : ∀ s ∈ ls, s.a ≤ s.b := fun s hs => (h.2 s hs).2.2.1
theorem take_tw (p : Sp → Bool) : ∀ l : List Sp, l.take (l.takeWhile p).length = l.takeWhile p
  | [] => rfl
  | x :: l => by
    rw [List.takeWhile_cons]
    split
    · rw [List.length_cons, List.take_succ_cons, take_tw p l]
    · rfl
theorem tw_mem (p : Sp → Bool) : ∀ (l : List Sp) (t : Sp), t ∈ l.takeWhile p → p t = true ∧ t ∈ l
  | [], t, h => by cases h
  | x :: l, t, h => by
    rw [List.takeWhile_cons] at h
    split at h
    · rename_i hx
      rcases List.mem_cons.1 h with rfl | h
      · exact ⟨hx, List.mem_cons_self ..⟩
      · have := tw_mem p l t h
        exact ⟨this.1, List.mem_cons_of_mem _ this.2⟩
    · cases h
/-- Where the table has no code point of it, it stands at its place. -/
theorem place_ins {r : List Sp} {x : Sp} (hf : ∀ s ∈ r, s.a ≤ s.b) (hx : x.a ≤ x.b) (hn : foundAt r x = false) : ins x r = r.take (placeOf r x) ++ x :: r.drop (placeOf r x) := by
  have htk : r.take (placeOf r x) = r.takeWhile (fun t => decide (t.b < x.a)) := take_tw _ r
  refine ins_at (place_le r x) (fun t ht => ?_) (fun t ht => ?_)
  · rw [htk] at ht
    obtain ⟨h0, hm⟩ := tw_mem _ r t ht
    have h1 : t.b < x.a := by simpa using h0
    have h2 := hf t hm
    omega
  · rw [List.head?_drop] at ht
    unfold foundAt at hn
    rw [ht] at hn
    simp only [decide_eq_false_iff_not] at hn
    have hnb : ¬ t.b < x.a := by
      intro hlt
      have hk : placeOf r x < r.length := (List.getElem?_eq_some_iff.1 ht).1
      have e := List.takeWhile_append_dropWhile (p := fun t : Sp => decide (t.b < x.a)) (l := r)
      have hd : (r.dropWhile fun t => decide (t.b < x.a)).head? = some t := by
        have h3 : r[placeOf r x]? = ((r.takeWhile fun t => decide (t.b < x.a)) ++ (r.dropWhile fun t => decide (t.b < x.a)))[placeOf r x]? := by rw [e]
        rw [h3] at ht
        unfold placeOf at ht
        rw [List.getElem?_append_right (Nat.le_refl _), Nat.sub_self] at ht
        rw [← ht]
        cases (r.dropWhile fun t => decide (t.b < x.a)) <;> rfl
      have := List.head?_dropWhile_not (fun t : Sp => decide (t.b < x.a)) r
      rw [hd] at this
      simp at this
      omega
    unfold sideOf at hn
    rw [if_neg hnb] at hn
    split at hn
    · omega
    · exact absurd rfl hn
end Go.Proofs.YtdbnegllncjhkaaGreatDoor
