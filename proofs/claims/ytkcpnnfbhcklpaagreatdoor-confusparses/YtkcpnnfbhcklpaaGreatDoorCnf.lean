/- Plain words: what a file of confusables says, as the document reads it; no program is spoken of. -/
import Derived.Test.YtkcpnnfbhcklpaaGreatDoorHex
import Derived.Test.YtkcpnnfbhcklpaaGreatDoorVals
namespace Go.Proofs.YtkcpnnfbhcklpaaGreatDoor
open Go.RowKit

/-- A source and its prototype. -/
structure Pp where
  c : Int
  p : List Int
structure CRes where
  rows : List Pp
  err : Int
  num : Int
def cfld (f : List (List UInt8)) (k : Nat) : List UInt8 := f.getD k []
def ints' (s : List Nat) : List Int := s.map fun n : Nat => (n : Int)
/-- What is wrong with a line, whatever the others are. -/
def cErr (f : List (List UInt8)) : Int :=
  if ¬ f.length = 3 then 12 else
  match point (cfld f 0) with
  | none => 13
  | some _ => match seqOf (cfld f 1) with
    | none => 13
    | some p => if p.length = 0 then 16 else if 18 < p.length then 36 else 0
def cPair (f : List (List UInt8)) : Pp := ⟨((point (cfld f 0)).getD 0 : Nat), ints' ((seqOf (cfld f 1)).getD [])⟩
def hasS (l : List Pp) (c : Int) : Bool := l.any fun q => decide (q.c = c)
def insC (q : Pp) (l : List Pp) : List Pp := l.takeWhile (fun t => decide (t.c ≤ q.c)) ++ q :: l.dropWhile (fun t => decide (t.c ≤ q.c))
def cfP : List Pp → List Ln → CRes
  | out, [] => ⟨out, 0, 0⟩
  | out, x :: t =>
    if ¬ cErr x.2 = 0 then ⟨[], cErr x.2, x.1⟩ else
    if hasS out (cPair x.2).c = true then ⟨[], 15, x.1⟩ else cfP (insC (cPair x.2) out) t
def cfOf (l : List Ln) : CRes := cfP [] l
theorem cf_err {out : List Pp} {x : Ln} {t : List Ln} (h : ¬ cErr x.2 = 0) : cfP out (x :: t) = ⟨[], cErr x.2, x.1⟩ := by rw [cfP, if_pos h]
theorem cf_bad {out : List Pp} {x : Ln} {t : List Ln} (h : cErr x.2 = 0) (hc : hasS out (cPair x.2).c = true) : cfP out (x :: t) = ⟨[], 15, x.1⟩ := by rw [cfP, if_neg (by simpa using h), if_pos hc]
theorem cf_add {out : List Pp} {x : Ln} {t : List Ln} (h : cErr x.2 = 0) (hc : hasS out (cPair x.2).c = false) : cfP out (x :: t) = cfP (insC (cPair x.2) out) t := by rw [cfP, if_neg (by simpa using h), if_neg (by rw [hc]; simp)]
theorem has_iff {l : List Pp} {c : Int} : hasS l c = true ↔ ∃ q ∈ l, q.c = c := by unfold hasS; simp
theorem has_no {l : List Pp} {c : Int} : hasS l c = false ↔ ∀ q ∈ l, q.c ≠ c := by unfold hasS; simp
theorem ins_perm (q : Pp) (l : List Pp) : (insC q l).Perm (q :: l) := by
  unfold insC
  have h := List.takeWhile_append_dropWhile (p := fun t : Pp => decide (t.c ≤ q.c)) (l := l)
  exact List.perm_middle.trans (by rw [h])
def Rise (l : List Pp) : Prop := l.Pairwise fun a b => a.c < b.c
theorem drop_low : ∀ {l : List Pp} {x : Int}, Rise l → ∀ t ∈ l.dropWhile (fun t => decide (t.c ≤ x)), x < t.c
  | [], _, _, t, h => by cases h
  | y :: l, x, hr, t, h => by
    by_cases hy : y.c ≤ x
    · rw [List.dropWhile_cons_of_pos (by simpa using hy)] at h
      exact drop_low (List.Pairwise.of_cons hr) t h
    · rw [List.dropWhile_cons_of_neg (by simpa using hy)] at h
      rcases List.mem_cons.1 h with rfl | h
      · omega
      · have := List.rel_of_pairwise_cons hr h
        omega
theorem take_low : ∀ {l : List Pp} {x : Int}, ∀ t ∈ l.takeWhile (fun t => decide (t.c ≤ x)), t.c ≤ x ∧ t ∈ l
  | [], _, t, h => by cases h
  | y :: l, x, t, h => by
    by_cases hy : y.c ≤ x
    · rw [List.takeWhile_cons_of_pos (by simpa using hy)] at h
      rcases List.mem_cons.1 h with rfl | h
      · exact ⟨hy, by simp⟩
      · have := take_low t h
        exact ⟨this.1, List.mem_cons_of_mem _ this.2⟩
    · rw [List.takeWhile_cons_of_neg (by simpa using hy)] at h
      cases h
theorem ins_rise {q : Pp} {l : List Pp} (hr : Rise l) (hn : hasS l q.c = false) : Rise (insC q l) := by
  have hs := List.takeWhile_append_dropWhile (p := fun t : Pp => decide (t.c ≤ q.c)) (l := l)
  have hr' : (l.takeWhile (fun t => decide (t.c ≤ q.c)) ++ l.dropWhile (fun t => decide (t.c ≤ q.c))).Pairwise (fun a b : Pp => a.c < b.c) := by rw [hs]; exact hr
  rw [List.pairwise_append] at hr'
  unfold insC Rise
  rw [List.pairwise_append, List.pairwise_cons]
  refine ⟨hr'.1, ⟨fun t ht => drop_low hr t ht, hr'.2.1⟩, fun a ha b hb => ?_⟩
  have h1 := take_low a ha
  rcases List.mem_cons.1 hb with rfl | hb
  · have h2 := has_no.1 hn a h1.2
    omega
  · exact hr'.2.2 a ha b hb
theorem ins_at' {q : Pp} {l : List Pp} {k : Nat} (hk : k ≤ l.length) (h1 : ∀ t ∈ l.take k, t.c ≤ q.c) (h2 : ∀ t ∈ l.drop k, q.c < t.c) : insC q l = l.take k ++ q :: l.drop k := by
  have hp : l.takeWhile (fun t => decide (t.c ≤ q.c)) = l.take k ∧ l.dropWhile (fun t => decide (t.c ≤ q.c)) = l.drop k := by
    induction l generalizing k with
    | nil => simp
    | cons x l ih =>
      cases k with
      | zero =>
        have hx := h2 x (by simp)
        rw [List.takeWhile_cons_of_neg (by simp; omega), List.dropWhile_cons_of_neg (by simp; omega)]
        simp
      | succ k =>
        have hx := h1 x (by simp)
        have := ih (k := k) (by simpa using hk) (fun t ht => h1 t (by simp [ht])) (fun t ht => h2 t (by simpa using ht))
        rw [List.takeWhile_cons_of_pos (by simpa using hx), List.dropWhile_cons_of_pos (by simpa using hx), this.1, this.2]
        simp
  unfold insC
  rw [hp.1, hp.2]
def pairs (L : List Ln) : List Pp := L.map fun x => cPair x.2
theorem cf_inv : ∀ (L : List Ln) (out : List Pp), Rise out → (cfP out L).err = 0 → (∀ x ∈ L, cErr x.2 = 0) ∧ Rise (cfP out L).rows ∧ (cfP out L).rows.Perm (out ++ pairs L) ∧ (cfP out L).num = 0
  | [], out, hr, _ => ⟨fun x h => (by cases h), hr, by simp [cfP, pairs], rfl⟩
  | x :: L, out, hr, h => by
    by_cases hx : cErr x.2 = 0
    · cases hc : hasS out (cPair x.2).c with
      | true => rw [cf_bad hx hc] at h; cases h
      | false =>
        rw [cf_add hx hc] at h ⊢
        obtain ⟨h1, h2, h3, h4⟩ := cf_inv L _ (ins_rise hr hc) h
        refine ⟨fun y hy => ?_, h2, h3.trans ?_, h4⟩
        · rcases List.mem_cons.1 hy with rfl | hy
          · exact hx
          · exact h1 y hy
        · refine (List.Perm.append_right _ (ins_perm _ _)).trans ?_
          simp only [pairs, List.map_cons, List.cons_append]
          exact List.perm_middle.symm
    · rw [cf_err hx] at h
      exact absurd h hx
theorem rise_nodup {l : List Pp} (h : Rise l) : (l.map Pp.c).Nodup := by
  rw [List.Nodup, List.pairwise_map]
  exact h.imp (fun h => by omega)
theorem cf_ok : ∀ (L : List Ln) (out : List Pp), (∀ x ∈ L, cErr x.2 = 0) → ((out ++ pairs L).map Pp.c).Nodup → (cfP out L).err = 0
  | [], out, _, _ => rfl
  | x :: L, out, h, hn => by
    have hx := h x (by simp)
    have hp : (out ++ pairs (x :: L)).Perm (cPair x.2 :: (out ++ pairs L)) := by simp only [pairs, List.map_cons]; exact List.perm_middle
    have hn2 := (hp.map Pp.c).nodup_iff.1 hn
    rw [List.map_cons, List.nodup_cons] at hn2
    have hc : hasS out (cPair x.2).c = false := has_no.2 fun q hq e => hn2.1 (by rw [← e]; exact List.mem_map_of_mem (List.mem_append_left _ hq))
    rw [cf_add hx hc]
    refine cf_ok L _ (fun y hy => h y (List.mem_cons_of_mem _ hy)) ?_
    have hp2 : (insC (cPair x.2) out ++ pairs L).Perm (out ++ pairs (x :: L)) := ((List.Perm.append_right _ (ins_perm _ _)).trans (by rw [List.cons_append])).trans hp.symm
    exact (hp2.map Pp.c).nodup_iff.2 hn
theorem rise_eq {l m : List Pp} (hl : Rise l) (hm : Rise m) (hp : l.Perm m) : l = m := List.Perm.eq_of_pairwise (le := fun a b : Pp => a.c < b.c) (fun a b _ _ h1 h2 => by omega) hl hm hp
theorem cf_turned {L M : List Ln} (hp : (L.map Prod.snd).Perm (M.map Prod.snd)) (h : (cfOf L).err = 0) : cfOf M = ⟨(cfOf L).rows, 0, 0⟩ := by
  obtain ⟨h1, h2, h3, -⟩ := cf_inv L [] List.Pairwise.nil h
  have hpp : (pairs L).Perm (pairs M) := by
    have := hp.map cPair
    simpa [pairs, List.map_map, Function.comp_def] using this
  have hM : ∀ x ∈ M, cErr x.2 = 0 := fun x hx => by
    have hm : x.2 ∈ L.map Prod.snd := hp.mem_iff.2 (List.mem_map_of_mem hx)
    obtain ⟨y, hy, e⟩ := List.mem_map.1 hm
    rw [← e]
    exact h1 y hy
  have hnd : (([] ++ pairs M).map Pp.c).Nodup := by
    have hq : ([] ++ pairs M).Perm (cfP [] L).rows := (h3.trans (by simpa using hpp)).symm
    exact (hq.map Pp.c).nodup_iff.2 (rise_nodup h2)
  have he := cf_ok M [] hM hnd
  obtain ⟨-, k2, k3, k4⟩ := cf_inv M [] List.Pairwise.nil he
  have hr : (cfP [] M).rows = (cfP [] L).rows := rise_eq k2 h2 (k3.trans ((by simpa using hpp.symm : ([] ++ pairs M).Perm ([] ++ pairs L)).trans h3.symm))
  show cfP [] M = ⟨(cfP [] L).rows, 0, 0⟩
  rw [← hr]
  generalize cfP [] M = r at he k4
  cases r
  simp only at he k4
  rw [he, k4]
theorem cf_rows : ∀ (L : List Ln) (out : List Pp), ¬ (cfP out L).err = 0 → (cfP out L).rows = []
  | [], out, h => absurd rfl h
  | x :: L, out, h => by
    by_cases hx : cErr x.2 = 0
    · cases hc : hasS out (cPair x.2).c with
      | true => rw [cf_bad hx hc]
      | false => rw [cf_add hx hc] at h ⊢; exact cf_rows L _ h
    · rw [cf_err hx]
theorem cf_len : ∀ (L : List Ln) (out : List Pp), (cfP out L).rows.length ≤ out.length + L.length
  | [], out => by simp [cfP]
  | x :: L, out => by
    by_cases hx : cErr x.2 = 0
    · cases hc : hasS out (cPair x.2).c with
      | true => rw [cf_bad hx hc]; simp
      | false =>
        rw [cf_add hx hc]
        have h1 := cf_len L (insC (cPair x.2) out)
        have h2 := (ins_perm (cPair x.2) out).length_eq
        simp at h2 ⊢
        omega
    · rw [cf_err hx]; simp
/-- A source's place; -1: it is none. -/
def findC : List Pp → Int → Int
  | [], _ => -1
  | q :: l, c => if q.c = c then 0 else if findC l c < 0 then -1 else findC l c + 1
end Go.Proofs.YtkcpnnfbhcklpaaGreatDoor
