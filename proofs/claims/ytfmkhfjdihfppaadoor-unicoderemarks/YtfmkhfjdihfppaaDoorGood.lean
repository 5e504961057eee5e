/- Plain words: the rows that a file gives rise; rows in memory read as plain ones; no program is spoken of. -/
import Derived.Test.YtfmkhfjdihfppaaDoorUni
import Derived.Test.YtfmkhfjdihfppaaDoorRbin
namespace Go.Proofs.YtfmkhfjdihfppaaDoor
open Go.RowKit

def FitP (p : Pr) : Prop := 0 ≤ p.a ∧ p.a ≤ p.b ∧ p.b ≤ 1114111 ∧ p.dec.length ≤ 2
def Good (ps : List Pr) : Prop := ps.Pairwise (fun s t => s.b < t.a) ∧ ∀ s ∈ ps, FitP s
theorem good_nil : Good [] := ⟨List.Pairwise.nil, fun s h => by cases h⟩
theorem last_none : ∀ {ps : List Pr}, lastB ps = none → ps = []
  | [], _ => rfl
  | [_], h => by cases h
  | _ :: q :: t, h => by have := last_none (ps := q :: t) h; cases this
theorem last_max : ∀ {ps : List Pr} {b : Int}, Good ps → lastB ps = some b → ∀ s ∈ ps, s.b ≤ b
  | [], _, _, h, _, hs => by cases hs
  | [p], b, _, h, s, hs => by
    rw [List.mem_singleton.1 hs]
    have e : some p.b = some b := h
    injection e with e
    omega
  | p :: q :: t, b, hg, h, s, hs => by
    have hg' : Good (q :: t) := ⟨(List.pairwise_cons.1 hg.1).2, fun s hs => hg.2 s (List.mem_cons_of_mem _ hs)⟩
    have ih := last_max (ps := q :: t) (b := b) hg' h
    rcases List.mem_cons.1 hs with rfl | hs
    · have h1 := (List.pairwise_cons.1 hg.1).1 q (List.mem_cons_self ..)
      have h2 := ih q (List.mem_cons_self ..)
      have h3 := (hg'.2 q (List.mem_cons_self ..)).2.1
      omega
    · exact ih s hs
theorem good_snoc {out : List Pr} {p : Pr} (hg : Good out) (ht : ¬ twice out p = true) (hf : FitP p) : Good (out ++ [p]) := by
  refine ⟨List.pairwise_append.2 ⟨hg.1, List.pairwise_singleton _ _, fun s hs t ht' => ?_⟩, fun s hs => ?_⟩
  · rw [List.mem_singleton.1 ht']
    unfold twice at ht
    cases hl : lastB out with
    | none => rw [last_none hl] at hs; cases hs
    | some b =>
      rw [hl] at ht
      have := last_max hg hl s hs
      simp at ht
      omega
  · rcases List.mem_append.1 hs with h | h
    · exact hg.2 s h
    · rw [List.mem_singleton.1 h]; exact hf
theorem fit_row {f : List (List UInt8)} (h : rowErr f = 0) : FitP (rowVal f) := by
  obtain ⟨-, ⟨c, hc⟩, -, hd⟩ := row_ok h
  have := point_range hc
  unfold FitP rowVal
  rw [hc]
  simp only [pI]
  exact ⟨by omega, by omega, by omega, dec_two hd⟩
theorem join_lt {f g : List (List UInt8)} (h : ¬ joinB f g = false) : (rowVal f).a < (rowVal g).a := by
  have h : joinB f g = true := by simpa using h
  unfold joinB at h
  simp only [Bool.and_eq_true, decide_eq_true_eq] at h
  exact h.2.2.2.2.2.2
theorem good_ref : ∀ (l : List Ln) (out : List Pr), Good out → Good (refP out l).rows
  | [], out, hg => by rw [refP]; exact hg
  | x :: t, out, hg => by
    rw [refP.eq_def]
    simp only []
    by_cases h1 : ¬ rowErr x.2 = 0
    · rw [if_pos h1]; exact good_nil
    rw [if_neg h1]
    have hx := fit_row (by simpa using h1)
    by_cases h2 : twice out (rowVal x.2) = true
    · rw [if_pos h2]; exact good_nil
    rw [if_neg h2]
    by_cases h3 : namedB (fld x.2 1) nmF = true
    · rw [if_pos h3]
      cases t with
      | nil => exact good_nil
      | cons y t' =>
        simp only []
        by_cases h4 : ¬ rowErr y.2 = 0
        · rw [if_pos h4]; exact good_nil
        rw [if_neg h4]
        have hy := fit_row (by simpa using h4)
        by_cases h5 : joinB x.2 y.2 = false
        · rw [if_pos h5]; exact good_nil
        rw [if_neg h5]
        have hj := join_lt h5
        refine good_ref t' _ (good_snoc (p := { rowVal x.2 with b := (rowVal y.2).a }) hg h2 ?_)
        obtain ⟨a1, a2, a3, a4⟩ := hx
        obtain ⟨b1, b2, b3, b4⟩ := hy
        exact ⟨a1, Int.le_of_lt hj, Int.le_trans b2 b3, a4⟩
    · rw [if_neg h3]
      exact good_ref t _ (good_snoc hg h2 hx)
theorem good_parse (l : List Ln) : Good (parseOf l).rows := good_ref l [] good_nil
theorem len_ref : ∀ (l : List Ln) (out : List Pr), (refP out l).rows.length ≤ out.length + l.length
  | [], out => by rw [refP]; simp
  | x :: t, out => by
    rw [refP.eq_def]
    simp only []
    split
    · simp
    split
    · simp
    split
    · cases t with
      | nil => simp
      | cons y t' =>
        simp only []
        split
        · simp
        split
        · simp
        have := len_ref t' (out ++ [{ rowVal x.2 with b := (rowVal y.2).a }])
        simp at this ⊢
        omega
    · have := len_ref t (out ++ [rowVal x.2])
      simp at this ⊢
      omega
theorem len_parse (l : List Ln) : (parseOf l).rows.length ≤ l.length := by have := len_ref l []; rw [List.length_nil, Nat.zero_add] at this; exact this
/-- The error is none of those that there are: there is none. -/
theorem err_rows : ∀ (l : List Ln) (out : List Pr), ¬ (refP out l).err = 0 → (refP out l).rows = []
  | [], out => by rw [refP]; intro h; exact absurd rfl h
  | x :: t, out => by
    rw [refP.eq_def]
    simp only []
    split
    · intro _; rfl
    split
    · intro _; rfl
    split
    · cases t with
      | nil => intro _; rfl
      | cons y t' =>
        simp only []
        split
        · intro _; rfl
        split
        · intro _; rfl
        exact err_rows t' _
    · exact err_rows t _

/-! Rows in memory. -/
def Is (w : World) (s : Rw) (p : Pr) : Prop := s.a = p.a ∧ s.b = p.b ∧ s.gc = p.gc ∧ s.ccc = p.ccc ∧ s.bd = p.bd ∧ s.dm = p.dec.length ∧ Vals w s.dp s.dm (nums .i64 (p.dec.map fun c : Nat => (c : Int)))
theorem Is.below {w w' : World} {s : Rw} {p : Pr} (h : Is w s p) (hb : Below w.heap.size w w') : Is w' s p := ⟨h.1, h.2.1, h.2.2.1, h.2.2.2.1, h.2.2.2.2.1, h.2.2.2.2.2.1, h.2.2.2.2.2.2.below hb⟩
theorem is0 (w : World) : Is w rw0 pr0 := ⟨rfl, rfl, rfl, rfl, rfl, rfl, Vals.nil _ _⟩
/-- Rows read as plain rows. -/
def Ist (w : World) : List Rw → List Pr → Prop
  | [], [] => True
  | s :: ls, p :: ps => Is w s p ∧ Ist w ls ps
  | _, _ => False
theorem Ist.of {w w' : World} (h : ∀ s p, Is w s p → Is w' s p) : ∀ {ls : List Rw} {ps : List Pr}, Ist w ls ps → Ist w' ls ps
  | [], [], _ => trivial
  | _ :: _, _ :: _, hc => ⟨h _ _ hc.1, Ist.of h hc.2⟩
  | [], _ :: _, hc => hc.elim
  | _ :: _, [], hc => hc.elim
theorem Ist.below {w w' : World} {ls : List Rw} {ps : List Pr} (h : Ist w ls ps) (hb : Below w.heap.size w w') : Ist w' ls ps := Ist.of (fun _ _ h => h.below hb) h
theorem Ist.len {w : World} : ∀ {ls : List Rw} {ps : List Pr}, Ist w ls ps → ls.length = ps.length
  | [], [], _ => rfl
  | _ :: _, _ :: _, hc => by simp [Ist.len hc.2]
  | [], _ :: _, hc => hc.elim
  | _ :: _, [], hc => hc.elim
theorem Ist.snoc {w : World} {s : Rw} {p : Pr} (hs : Is w s p) : ∀ {ls : List Rw} {ps : List Pr}, Ist w ls ps → Ist w (ls ++ [s]) (ps ++ [p])
  | [], [], _ => ⟨hs, trivial⟩
  | _ :: _, _ :: _, hc => ⟨hc.1, Ist.snoc hs hc.2⟩
  | [], _ :: _, hc => hc.elim
  | _ :: _, [], hc => hc.elim
theorem Ist.get {w : World} : ∀ {ls : List Rw} {ps : List Pr} {j : Nat} {s : Rw}, Ist w ls ps → ls[j]? = some s → ∃ p, ps[j]? = some p ∧ Is w s p
  | _ :: _, p :: _, 0, s, hc, hj => by
    simp at hj
    subst hj
    exact ⟨p, rfl, hc.1⟩
  | _ :: _, _ :: _, j + 1, s, hc, hj => Ist.get (j := j) hc.2 (by simpa using hj)
  | [], _, _, _, _, hj => by simp at hj
  | _ :: _, [], _, _, hc, _ => hc.elim
/-- The plain row of a code point. -/
def patOf (ps : List Pr) (c : Int) : Pr := (ps.find? fun p => decide (p.a ≤ c ∧ c ≤ p.b)).getD pr0
theorem ist_at {w : World} : ∀ {ls : List Rw} {ps : List Pr} (c : Int), Ist w ls ps → Is w (atOf ls c) (patOf ps c)
  | [], [], _, _ => is0 w
  | s :: ls, p :: ps, c, hc => by
    have ih := ist_at c hc.2
    unfold atOf patOf at ih ⊢
    have e : decide (s.a ≤ c ∧ c ≤ s.b) = decide (p.a ≤ c ∧ c ≤ p.b) := by rw [hc.1.1, hc.1.2.1]
    cases hd : decide (s.a ≤ c ∧ c ≤ s.b) with
    | true =>
      rw [List.find?_cons_of_pos (by simpa using hd), List.find?_cons_of_pos (by rw [← e]; exact hd)]
      exact hc.1
    | false =>
      rw [List.find?_cons_of_neg (by simpa using hd), List.find?_cons_of_neg (by rw [← e, hd]; simp)]
      exact ih
  | [], _ :: _, _, hc => hc.elim
  | _ :: _, [], _, hc => hc.elim
theorem ist_mem {w : World} {ls : List Rw} {ps : List Pr} (h : Ist w ls ps) {s : Rw} (hs : s ∈ ls) : ∃ p ∈ ps, Is w s p := by
  obtain ⟨j, hj⟩ := List.mem_iff_getElem?.1 hs
  obtain ⟨p, hp, hi⟩ := h.get hj
  exact ⟨p, List.mem_of_getElem? hp, hi⟩
theorem ist_rises {w : World} : ∀ {ls : List Rw} {ps : List Pr}, Ist w ls ps → Good ps → Rises ls
  | [], [], _, _ => ⟨List.Pairwise.nil, fun s h => by cases h⟩
  | s :: ls, p :: ps, hc, hg => by
    have hg' : Good ps := ⟨(List.pairwise_cons.1 hg.1).2, fun s hs => hg.2 s (List.mem_cons_of_mem _ hs)⟩
    have ih := ist_rises hc.2 hg'
    refine ⟨List.pairwise_cons.2 ⟨fun t ht => ?_, ih.1⟩, fun t ht => ?_⟩
    · obtain ⟨q, hq, hi⟩ := ist_mem hc.2 ht
      rw [hc.1.2.1, hi.1]
      exact (List.pairwise_cons.1 hg.1).1 q hq
    · rcases List.mem_cons.1 ht with rfl | ht
      · rw [hc.1.1, hc.1.2.1]
        exact (hg.2 p (List.mem_cons_self ..)).2.1
      · exact ih.2 t ht
  | [], _ :: _, hc, _ => hc.elim
  | _ :: _, [], hc, _ => hc.elim
end Go.Proofs.YtfmkhfjdihfppaaDoor
