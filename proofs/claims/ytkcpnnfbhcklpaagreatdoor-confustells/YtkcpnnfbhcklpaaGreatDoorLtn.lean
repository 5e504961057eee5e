/- Plain words: the lines of a text in another order; no program is spoken of. -/
import Derived.Test.YtkcpnnfbhcklpaaGreatDoorWords
import Derived.Test.YtkcpnnfbhcklpaaGreatDoorVals
namespace Go.Proofs.YtkcpnnfbhcklpaaGreatDoor
open Go.RowKit

/-- The text's lines, each with its end. -/
def endAll (P : List (List UInt8)) : List UInt8 := P.flatMap fun p => p ++ [10]
theorem cutAll_not (c : UInt8) : ∀ (l : List UInt8) (p : List UInt8), p ∈ cutAll c l → c ∉ p
  | [], p, h => by simp [cutAll] at h; simp [h]
  | x :: l, p, h => by
    unfold cutAll at h
    split at h
    · simp at h
      rcases h with rfl | h
      · simp
      · exact cutAll_not c l p h
    · rename_i hx
      cases e : cutAll c l with
      | nil => exact absurd e (cutAll_ne c l)
      | cons a t =>
        rw [e] at h
        simp [glue] at h
        rcases h with rfl | h
        · have := cutAll_not c l a (by simp [e])
          simp
          exact ⟨fun e => hx e.symm, this⟩
        · exact cutAll_not c l p (by simp [e, h])
theorem cut_ends : ∀ P : List (List UInt8), (∀ p ∈ P, (10 : UInt8) ∉ p) → cutAll 10 (endAll P) = P ++ [[]]
  | [], _ => rfl
  | p :: P, h => by
    have e : endAll (p :: P) = p ++ 10 :: endAll P := by simp [endAll]
    rw [e, cutAll_some 10 p _ (h p (by simp)), cut_ends P fun q hq => h q (by simp [hq])]
    rfl
/-- The fields of a piece, if there are any. -/
def fieldsIn (p : List UInt8) : Option (List (List UInt8)) := if trim (bodyOf p) = [] then none else some (fieldsOf (bodyOf p))
theorem lines_snd : ∀ (P : List (List UInt8)) (n : Int), ((numbered n P).filterMap lineOf).map Prod.snd = P.filterMap fieldsIn
  | [], _ => rfl
  | p :: P, n => by
    have ih := lines_snd P (n + 1)
    rw [numbered, List.filterMap_cons, List.filterMap_cons]
    unfold lineOf fieldsIn
    split <;> rename_i h1
    · split at h1
      · rename_i h2
        rw [if_pos h2]
        exact ih
      · cases h1
    · split at h1
      · cases h1
      · rename_i h2
        rw [if_neg h2]
        cases h1
        rw [List.map_cons]
        congr 1
theorem lines_turned {l : List UInt8} {P : List (List UInt8)} (hp : (cutAll 10 l).Perm P) : ((linesIn l).map Prod.snd).Perm ((linesIn (endAll P)).map Prod.snd) := by
  unfold linesIn
  rw [lines_snd, lines_snd, cut_ends P fun p h => cutAll_not 10 l p (hp.mem_iff.2 h), List.filterMap_append]
  have e : [([] : List UInt8)].filterMap fieldsIn = [] := by decide
  rw [e, List.append_nil]
  exact hp.filterMap fieldsIn

def rotL (ls : List (List UInt8)) (r : Nat) : List (List UInt8) := ls.drop r ++ ls.take r
theorem rotL_perm (ls : List (List UInt8)) (r : Nat) : ls.Perm (rotL ls r) := by
  unfold rotL
  exact (List.perm_append_comm.trans (by rw [List.take_append_drop])).symm
theorem rotL_get {ls : List (List UInt8)} {r k n : Nat} (hn : ls.length = n) (hr : r < n) (hk : k < n) : (rotL ls r)[k]? = ls[(k + r) % n]? := by
  unfold rotL
  by_cases h : k + r < n
  · rw [List.getElem?_append_left (by rw [List.length_drop]; omega), List.getElem?_drop, Nat.mod_eq_of_lt h, Nat.add_comm]
  · rw [List.getElem?_append_right (by rw [List.length_drop]; omega), List.length_drop, List.getElem?_take_of_lt (by omega), hn]
    have : (k + r) % n = k + r - n := by rw [Nat.mod_eq_sub_mod (by omega), Nat.mod_eq_of_lt (by omega)]
    rw [this]
    congr 1
    omega
theorem end_len : ∀ l : List UInt8, (endAll (cutAll 10 l)).length = l.length + 1
  | [] => rfl
  | x :: l => by
    have ih := end_len l
    show (endAll (if x = 10 then [] :: cutAll 10 l else glue [x] (cutAll 10 l))).length = _
    split
    · have e : endAll ([] :: cutAll 10 l) = 10 :: endAll (cutAll 10 l) := by simp [endAll]
      rw [e, List.length_cons, ih, List.length_cons]
    · cases h : cutAll 10 l with
      | nil => exact absurd h (cutAll_ne 10 l)
      | cons p t =>
        rw [h] at ih
        have e1 : endAll (glue [x] (p :: t)) = x :: endAll (p :: t) := by simp [endAll, glue]
        rw [e1, List.length_cons, ih, List.length_cons]
theorem end_take (Q : List (List UInt8)) (i : Nat) : (endAll (Q.take i)).length ≤ (endAll Q).length := by
  conv => rhs; rw [← List.take_append_drop i Q]
  unfold endAll
  rw [List.flatMap_append, List.length_append]
  omega
theorem end_snoc {Q : List (List UInt8)} {i : Nat} {p : List UInt8} (h : Q[i]? = some p) : endAll (Q.take (i + 1)) = endAll (Q.take i) ++ p ++ [10] := by
  have hlt := (List.getElem?_eq_some_iff.1 h).1
  have e : Q[i] = p := (List.getElem?_eq_some_iff.1 h).2
  unfold endAll
  rw [List.take_succ_eq_append_getElem hlt, e, List.flatMap_append]
  simp
theorem end_rot (l : List UInt8) (r : Nat) : (endAll (rotL (cutAll 10 l) r)).length = l.length + 1 := by
  rw [← end_len l]
  have h := (rotL_perm (cutAll 10 l) r).flatMap_right (fun p => p ++ [10])
  exact h.length_eq.symm
theorem bs_append (a b : List UInt8) : bs a ++ bs b = bs (a ++ b) := by
  apply ByteArray.ext
  simp [bs, ByteArray.data_append]
end Go.Proofs.YtkcpnnfbhcklpaaGreatDoor
