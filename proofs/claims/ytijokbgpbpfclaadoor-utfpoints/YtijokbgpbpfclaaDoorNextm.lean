/- Plain facts on the document's own way to find the scalar at the head of octets: the number that n octets would be, and whether they are its own. -/
import Derived.Test.YtijokbgpbpfclaaDoorSteps
namespace Go.Proofs.YtijokbgpbpfclaaDoor
open Go.RowKit

def cand (bs : List Int) (n : Nat) : Int :=
  if n = 1 then bs.getD 0 0
  else if n = 2 then bs.getD 0 0 % 32 * 64 + bs.getD 1 0 % 64
  else if n = 3 then (bs.getD 0 0 % 16 * 64 + bs.getD 1 0 % 64) * 64 + bs.getD 2 0 % 64
  else ((bs.getD 0 0 % 8 * 64 + bs.getD 1 0 % 64) * 64 + bs.getD 2 0 % 64) * 64 + bs.getD 3 0 % 64
def okAt (bs : List Int) (n : Nat) : Prop := scal (cand bs n) = true ∧ oct (cand bs n) = bs.take n

theorem ok_fst {bs : List Int} {n : Nat} (h : okAt bs n) : fst bs = some (cand bs n) := by
  have e : bs = oct (cand bs n) ++ bs.drop n := by rw [h.2, List.take_append_drop]
  have := fst_oct h.1 (bs.drop n)
  rwa [← e] at this
theorem ok_len {bs : List Int} {n : Nat} (h : okAt bs n) (hn : n ≤ bs.length) : (oct (cand bs n)).length = n := by
  rw [h.2, List.length_take]
  omega
theorem fst_ok {bs : List Int} {c : Int} (hb : Octs bs) (h : fst bs = some c) : okAt bs (oct c).length ∧ (oct c).length ≤ bs.length := by
  obtain ⟨hs, e⟩ := fst_some hb h
  have hl : (oct c).length ≤ bs.length := by
    have := congrArg List.length e
    rw [List.length_append] at this
    omega
  refine ⟨?_, hl⟩
  have ht : bs.take (oct c).length = oct c := by
    have : (oct c ++ bs.drop (oct c).length).take (oct c).length = oct c := List.take_left
    rwa [← e] at this
  have hc : cand bs (oct c).length = c := by
    rw [e]
    generalize bs.drop (oct c).length = r
    rcases oct_ways hs with h | h | h | h
    · have e1 : oct c = [c] := Lib.encodeRuneZ_one h.1 h.2
      rw [e1]
      simp [cand]
    · have e1 : oct c = [192 + c / 64, 128 + c % 64] := Lib.encodeRuneZ_two h.1 h.2
      rw [e1]
      simp [cand]
      omega
    · have e1 : oct c = [224 + c / 4096, 128 + c / 64 % 64, 128 + c % 64] := Lib.encodeRuneZ_three h
      rw [e1]
      simp [cand]
      omega
    · have e1 : oct c = [240 + c / 262144, 128 + c / 4096 % 64, 128 + c / 64 % 64, 128 + c % 64] := Lib.encodeRuneZ_four h.1 h.2
      rw [e1]
      simp [cand]
      omega
  rw [okAt, hc, ht]
  exact ⟨hs, rfl⟩

theorem none_of {bs : List Int} {n : Nat} (hb : Octs bs) (hno : ∀ m, 1 ≤ m → m < n → ¬ okAt bs m) (hn : 4 < n ∨ bs.length < n) : fst bs = none := by
  cases h : fst bs with
  | none => rfl
  | some c =>
    obtain ⟨ho, hl⟩ := fst_ok hb h
    have hc := oct_length c
    exact absurd ho (hno _ hc.1 (by omega))
theorem no_next {bs : List Int} {n : Nat} (hno : ∀ m, 1 ≤ m → m < n → ¬ okAt bs m) (h : ¬ okAt bs n) : ∀ m, 1 ≤ m → m < n + 1 → ¬ okAt bs m := by
  intro m h1 h2
  by_cases e : m = n
  · subst e; exact h
  · exact hno m h1 (by omega)
end Go.Proofs.YtijokbgpbpfclaaDoor
