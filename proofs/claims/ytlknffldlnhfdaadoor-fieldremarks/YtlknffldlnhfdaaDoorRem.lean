/- Plain words: remarks behind lines' bodies, and 0D ahead of their ends, change no fields. -/
import Derived.Test.YtlknffldlnhfdaaDoorWords
namespace Go.Proofs.YtlknffldlnhfdaaDoor

/-- A line with a remark and a 0D. -/
def withR (R p : List UInt8) : List UInt8 := p ++ (35 :: R) ++ [13]
/-- All lines so, each with its end. -/
def allR (R : List UInt8) (P : List (List UInt8)) : List UInt8 := P.flatMap fun p => withR R p ++ [10]
theorem cutAll_no (c : UInt8) : ∀ (l : List UInt8) (p : List UInt8), p ∈ cutAll c l → c ∉ p
  | [], p, h => by simp [cutAll] at h; simp [h]
  | x :: l, p, h => by
    unfold cutAll at h
    split at h
    · simp at h
      rcases h with rfl | h
      · simp
      · exact cutAll_no c l p h
    · rename_i hx
      cases e : cutAll c l with
      | nil => exact absurd e (cutAll_ne c l)
      | cons a t =>
        rw [e] at h
        simp [glue] at h
        rcases h with rfl | h
        · have := cutAll_no c l a (by simp [e])
          simp
          exact ⟨fun e => hx e.symm, this⟩
        · exact cutAll_no c l p (by simp [e, h])
theorem cut_allR {R : List UInt8} (hR : (10 : UInt8) ∉ R) : ∀ P : List (List UInt8), (∀ p ∈ P, (10 : UInt8) ∉ p) → cutAll 10 (allR R P) = P.map (withR R) ++ [[]]
  | [], _ => rfl
  | p :: P, h => by
    have e : allR R (p :: P) = withR R p ++ 10 :: allR R P := by simp [allR]
    have hn : (10 : UInt8) ∉ withR R p := by
      unfold withR
      simp
      exact ⟨h p (by simp), hR⟩
    rw [e, cutAll_some 10 _ _ hn, cut_allR hR P (fun q hq => h q (by simp [hq]))]
    rfl
theorem head_cut (p t : List UInt8) : (cutAll 35 (p ++ 35 :: t)).headD [] = (cutAll 35 p).headD [] := by
  by_cases h : (35 : UInt8) ∈ p
  · obtain ⟨a, b, rfl, ha⟩ := split_at 35 p h
    rw [List.append_assoc, List.cons_append, cutAll_some 35 a _ ha, cutAll_some 35 a b ha]
    rfl
  · rw [cutAll_some 35 p t h, cutAll_none 35 p h]
    rfl
theorem body_withR {R p : List UInt8} (hp : ¬ p.getLast? = some 13) : bodyOf (withR R p) = bodyOf p := by
  have e1 : noCR (withR R p) = p ++ 35 :: R := by
    unfold noCR withR
    rw [if_pos List.getLast?_concat, List.dropLast_concat]
  have e2 : noCR p = p := by
    unfold noCR
    rw [if_neg hp]
  unfold bodyOf
  rw [e1, e2, head_cut]
theorem numbered_withR {R : List UInt8} : ∀ (n : Int) (P : List (List UInt8)), (∀ p ∈ P, ¬ p.getLast? = some 13) → numbered n (P.map (withR R)) = numbered n P
  | _, [], _ => rfl
  | n, p :: P, h => by
    rw [List.map_cons, numbered, numbered, body_withR (h p (by simp)), numbered_withR (n + 1) P (fun q hq => h q (by simp [hq]))]
theorem lines_allR {R l : List UInt8} (hR : (10 : UInt8) ∉ R) (h : ∀ p ∈ cutAll 10 l, ¬ p.getLast? = some 13) : linesIn (allR R (cutAll 10 l)) = linesIn l := by
  unfold linesIn
  rw [cut_allR hR _ (fun p hp => cutAll_no 10 l p hp), numbered_append, List.filterMap_append, numbered_withR 1 _ h]
  simp [numbered, line_empty]
theorem allR_snoc {R : List UInt8} {P : List (List UInt8)} {k : Nat} (hk : k < P.length) : allR R (P.take (k + 1)) = allR R (P.take k) ++ P.getD k [] ++ [35] ++ R ++ [13, 10] := by
  unfold allR
  rw [List.take_succ_eq_append_getElem hk, List.flatMap_append, List.getD_eq_getElem?_getD, List.getElem?_eq_getElem hk]
  simp [withR]
theorem allR_length {R : List UInt8} {n : Nat} : ∀ P : List (List UInt8), (∀ p ∈ P, p.length ≤ n) → (allR R P).length ≤ P.length * (n + R.length + 3)
  | [], _ => by simp [allR]
  | p :: P, h => by
    have ih := allR_length (R := R) P (fun q hq => h q (by simp [hq]))
    have hp := h p (by simp)
    have e : (allR R (p :: P)).length = p.length + R.length + 3 + (allR R P).length := by
      simp [allR, withR]
      omega
    rw [e, List.length_cons, Nat.succ_mul]
    omega
/-- How long the pieces are together. -/
theorem cut_sum (c : UInt8) : ∀ l : List UInt8, ((cutAll c l).map List.length).sum + (cutAll c l).length = l.length + 1
  | [] => rfl
  | x :: l => by
    have ih := cut_sum c l
    unfold cutAll
    split
    · simp
      omega
    · cases e : cutAll c l with
      | nil => exact absurd e (cutAll_ne c l)
      | cons a t =>
        rw [e] at ih
        simp [glue] at ih ⊢
        omega
theorem allR_sum (R : List UInt8) : ∀ P : List (List UInt8), (allR R P).length = (P.map List.length).sum + P.length * (R.length + 3)
  | [] => by simp [allR]
  | p :: P => by
    have ih := allR_sum R P
    have e : (allR R (p :: P)).length = p.length + R.length + 3 + (allR R P).length := by
      simp [allR, withR]
      omega
    rw [e, ih, List.map_cons, List.sum_cons, List.length_cons, Nat.succ_mul]
    omega
theorem sum_take_le : ∀ (P : List Nat) (k : Nat), (P.take k).sum ≤ P.sum
  | [], k => by simp
  | x :: P, 0 => by simp
  | x :: P, k + 1 => by
    have := sum_take_le P k
    simp
    omega
theorem allR_bound {R l : List UInt8} (hl : l.length ≤ 400) (hR : R.length ≤ 30) (k : Nat) : (allR R ((cutAll 10 l).take k)).length ≤ 20000 := by
  have h1 := cut_sum 10 l
  have h2 := cutAll_length 10 l
  rw [allR_sum, List.map_take]
  have h3 := sum_take_le ((cutAll 10 l).map List.length) k
  have h4 : ((cutAll 10 l).take k).length ≤ 401 := by rw [List.length_take]; omega
  have h5 : ((cutAll 10 l).take k).length * (R.length + 3) ≤ 401 * 33 := Nat.mul_le_mul h4 (by omega)
  omega
end Go.Proofs.YtlknffldlnhfdaaDoor
