/- Plain words: a table made at once of spans in order; no program is spoken of. -/
import Derived.Test.YtfggoegofbghhaaSapp
namespace Go.Proofs.Ytfggoegofbghhaa
open Go.RowKit

def Apart (ms : List Sp) : Prop := ∀ (j : Nat) (s t : Sp), ms[j]? = some s → ms[j + 1]? = some t → s.b < t.a
theorem fit_of {s : Sp} (h : check [] s = 0) : Fit s := (check_ok.1 h).1
theorem rises_of {ms : List Sp} (hl : Low ms) (ha : Apart ms) : Rises ms := by
  refine List.pairwise_iff_getElem.2 fun i j hi hj hij => ?_
  have h1 := ha i ms[i] ms[i + 1] (List.getElem?_eq_getElem hi) (List.getElem?_eq_getElem (by omega))
  rcases Nat.lt_or_eq_of_le (show i + 1 ≤ j from hij) with h | h
  · have := List.pairwise_iff_getElem.1 hl (i + 1) j (by omega) hj h
    omega
  · subst h; exact h1
theorem apart_of_rises {ms : List Sp} (hr : Rises ms) : ms.Pairwise (fun s t => meets s t = false) := by
  refine hr.imp fun {s t} h => ?_
  unfold meets
  rw [decide_eq_false (show ¬ t.a ≤ s.b by omega), Bool.and_false]
theorem new_ok {ls ms : List Sp} (hf : ∀ s ∈ ls, check [] s = 0) (hp : ms.Perm ls) (hl : Low ms) (ha : Apart ms) : addAll [] ls = .ok ms ∧ Good ms := by
  have hr := rises_of hl ha
  have hfm : ∀ s ∈ ms, Fit s := fun s hs => fit_of (hf s (hp.mem_iff.1 hs))
  have hg : Good ms := ⟨hr, hfm⟩
  obtain ⟨r, hr2⟩ := (addAll_ok ms []).2 ⟨hfm, fun s _ t ht => (by cases ht), apart_of_rises hr⟩
  obtain ⟨k1, k2, _⟩ := addAll_good ms [] r good_nil hr2
  have e : r = ms := good_eq r ms k1 hg (fun t => by rw [k2 t]; simp)
  subst e
  exact ⟨addAll_perm hp hr2, hg⟩
theorem addAll_append : ∀ (l m acc r : List Sp), addAll acc l = .ok r → addAll acc (l ++ m) = addAll r m
  | [], m, acc, r, h => by rw [addAll] at h; cases h; rfl
  | s :: l, m, acc, r, h => by
    rw [addAll] at h
    rw [List.cons_append, addAll]
    split at h
    · rename_i hc
      rw [if_pos hc]
      exact addAll_append l m _ r h
    · cases h
theorem addAll_fails : ∀ (l m acc : List Sp) (x : Int), addAll acc l = .error x → addAll acc (l ++ m) = .error x
  | [], m, acc, x, h => by rw [addAll] at h; cases h
  | s :: l, m, acc, x, h => by
    rw [addAll] at h
    rw [List.cons_append, addAll]
    split at h
    · rename_i hc
      rw [if_pos hc]
      exact addAll_fails l m _ x h
    · rename_i hc
      rw [if_neg hc]
      exact h
theorem check_fit {l : List Sp} {s : Sp} (h : check [] s = 0) : check l s = 0 ∨ check l s = 15 := by
  obtain ⟨⟨h1, h2, h3, h4⟩, -⟩ := check_ok.1 h
  unfold check
  rw [if_neg (by omega), if_neg h4]
  split
  · exact .inr rfl
  · exact .inl rfl
theorem check_unfit {l : List Sp} {s : Sp} (h : check [] s ≠ 0) : check l s = check [] s := by
  unfold check at h ⊢
  split
  · rfl
  · rename_i h1
    rw [if_neg h1] at h
    split
    · rfl
    · rename_i h2
      rw [if_neg h2] at h
      exact absurd rfl h
theorem addAll_15 : ∀ (l acc : List Sp) (x : Int), (∀ s ∈ l, check [] s = 0) → addAll acc l = .error x → x = 15
  | [], acc, x, _, h => by rw [addAll] at h; cases h
  | s :: l, acc, x, hf, h => by
    rw [addAll] at h
    split at h
    · exact addAll_15 l _ x (fun t ht => hf t (List.mem_cons_of_mem _ ht)) h
    · rename_i hc
      cases h
      rcases check_fit (l := acc) (hf s (List.mem_cons_self ..)) with e | e
      · exact absurd e hc
      · exact e
theorem new_twice {ls ms m : List Sp} {j : Nat} {s t : Sp} (hf : ∀ s ∈ ls, check [] s = 0) (hp : ms.Perm ls) (hl : Low ms) (hs : ms[j]? = some s) (ht : ms[j + 1]? = some t) (h : t.a ≤ s.b) : addAll [] (ls ++ m) = .error 15 := by
  cases hr : addAll [] ls with
  | error x =>
    have := addAll_15 ls [] x hf hr
    subst this
    exact addAll_fails ls m [] 15 hr
  | ok r =>
    exfalso
    obtain ⟨-, -, h3⟩ := (addAll_ok ls []).1 ⟨r, hr⟩
    have h4 : ms.Pairwise (fun s t => meets s t = false) := hp.symm.pairwise h3 (fun {a b} hab => by rw [meets_comm]; exact hab)
    have ei := List.getElem?_eq_some_iff.1 hs
    have ej := List.getElem?_eq_some_iff.1 ht
    have h5 := List.pairwise_iff_getElem.1 h4 j (j + 1) ei.1 ej.1 (by omega)
    have h6 := List.pairwise_iff_getElem.1 hl j (j + 1) ei.1 ej.1 (by omega)
    rw [ei.2, ej.2] at h5 h6
    have h7 := (fit_of (hf t (hp.mem_iff.1 (List.mem_of_getElem? ht)))).2.2.1
    unfold meets at h5
    rw [decide_eq_true (show s.a ≤ t.b by omega), decide_eq_true h] at h5
    cases h5
theorem new_err {ls ms : List Sp} {k : Nat} {s : Sp} (hf : ∀ t ∈ ls.take k, check [] t = 0) (hp : ms.Perm (ls.take k)) (hl : Low ms) (ha : Apart ms) (hs : ls[k]? = some s) (hx : check [] s ≠ 0) : addAll [] ls = .error (check [] s) := by
  have h1 := (new_ok hf hp hl ha).1
  have hlt := (List.getElem?_eq_some_iff.1 hs).1
  have e : ls[k] = s := (List.getElem?_eq_some_iff.1 hs).2
  have h2 := addAll_append (ls.take k) (ls.drop k) [] ms h1
  rw [List.take_append_drop, List.drop_eq_getElem_cons hlt, e, addAll, check_unfit hx, if_neg hx] at h2
  exact h2
end Go.Proofs.Ytfggoegofbghhaa
