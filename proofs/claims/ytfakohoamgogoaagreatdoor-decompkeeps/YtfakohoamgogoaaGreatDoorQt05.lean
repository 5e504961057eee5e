/- Plain words: the rows that a file gives rise; rows in memory read as plain ones; no program is spoken of. -/
/- The document's own reach and parts of layer 7. -/
/- Plain words: spans, their order, what may be added, values and code points; no program is spoken of. -/
/- Slices that read as lists of spans; no program is spoken of. -/
/- What the document's own Value and Check hand back. -/
/- Plain words: what a file of confusables says, as the document reads it; no program is spoken of. -/
/- Shifts and bits of small numbers; no program is spoken of. -/
import Derived.Test.YtfakohoamgogoaaGreatDoorQt04
import Derived.Test.YtfakohoamgogoaaGreatDoorQt03
import Derived.Laws.AppendOwnNone
import Derived.WalkKit
import Derived.Test.YtfakohoamgogoaaGreatDoorQt02
import Derived.Test.YtfakohoamgogoaaGreatDoorProg
import Derived.BigQuiet
import Derived.Laws.Entries
namespace Go.Proofs.YtfakohoamgogoaaGreatDoor.Uc
open Go.RowKit

def FitP (p : Pr) : Prop := 0 ≤ p.a ∧ p.a ≤ p.b ∧ p.b ≤ 1114111 ∧ p.dec.length ≤ 2
def Good (ps : List Pr) : Prop := ps.Pairwise (fun s t => s.b < t.a) ∧ ∀ s ∈ ps, FitP s
theorem good_nil : Good [] := ⟨List.Pairwise.nil, fun s h => by cases h⟩
theorem last_none : ∀ {ps : List Pr}, lastB ps = none → ps = []
  | [], _ => rfl
  | [_], h => by cases h
  | _ :: q :: t, h => by have := last_none (ps := q :: t) h; cases this
theorem last_max : ∀ {ps : List Pr} {b : Int}, Good ps → lastB ps = some b → ∀ s ∈ ps, s.b ≤ b
  | [], _, _, h, _, hs => by cases hs
  | [p], b, _, h, s, hs => by
    rw [List.mem_singleton.1 hs]
    have e : some p.b = some b := h
    injection e with e
    omega
  | p :: q :: t, b, hg, h, s, hs => by
    have hg' : Good (q :: t) := ⟨(List.pairwise_cons.1 hg.1).2, fun s hs => hg.2 s (List.mem_cons_of_mem _ hs)⟩
    have ih := last_max (ps := q :: t) (b := b) hg' h
    rcases List.mem_cons.1 hs with rfl | hs
    · have h1 := (List.pairwise_cons.1 hg.1).1 q (List.mem_cons_self ..)
      have h2 := ih q (List.mem_cons_self ..)
      have h3 := (hg'.2 q (List.mem_cons_self ..)).2.1
      omega
    · exact ih s hs
theorem good_snoc {out : List Pr} {p : Pr} (hg : Good out) (ht : ¬ twice out p = true) (hf : FitP p) : Good (out ++ [p]) := by
  refine ⟨List.pairwise_append.2 ⟨hg.1, List.pairwise_singleton _ _, fun s hs t ht' => ?_⟩, fun s hs => ?_⟩
  · rw [List.mem_singleton.1 ht']
    unfold twice at ht
    cases hl : lastB out with
    | none => rw [last_none hl] at hs; cases hs
    | some b =>
      rw [hl] at ht
      have := last_max hg hl s hs
      simp at ht
      omega
  · rcases List.mem_append.1 hs with h | h
    · exact hg.2 s h
    · rw [List.mem_singleton.1 h]; exact hf
theorem fit_row {f : List (List UInt8)} (h : rowErr f = 0) : FitP (rowVal f) := by
  obtain ⟨-, ⟨c, hc⟩, -, hd⟩ := row_ok h
  have := point_range hc
  unfold FitP rowVal
  rw [hc]
  simp only [pI]
  exact ⟨by omega, by omega, by omega, dec_two hd⟩
theorem join_lt {f g : List (List UInt8)} (h : ¬ joinB f g = false) : (rowVal f).a < (rowVal g).a := by
  have h : joinB f g = true := by simpa using h
  unfold joinB at h
  simp only [Bool.and_eq_true, decide_eq_true_eq] at h
  exact h.2.2.2.2.2.2
theorem good_ref : ∀ (l : List Ln) (out : List Pr), Good out → Good (refP out l).rows
  | [], out, hg => by rw [refP]; exact hg
  | x :: t, out, hg => by
    rw [refP.eq_def]
    simp only []
    by_cases h1 : ¬ rowErr x.2 = 0
    · rw [if_pos h1]; exact good_nil
    rw [if_neg h1]
    have hx := fit_row (by simpa using h1)
    by_cases h2 : twice out (rowVal x.2) = true
    · rw [if_pos h2]; exact good_nil
    rw [if_neg h2]
    by_cases h3 : namedB (fld x.2 1) nmF = true
    · rw [if_pos h3]
      cases t with
      | nil => exact good_nil
      | cons y t' =>
        simp only []
        by_cases h4 : ¬ rowErr y.2 = 0
        · rw [if_pos h4]; exact good_nil
        rw [if_neg h4]
        have hy := fit_row (by simpa using h4)
        by_cases h5 : joinB x.2 y.2 = false
        · rw [if_pos h5]; exact good_nil
        rw [if_neg h5]
        have hj := join_lt h5
        refine good_ref t' _ (good_snoc (p := { rowVal x.2 with b := (rowVal y.2).a }) hg h2 ?_)
        obtain ⟨a1, a2, a3, a4⟩ := hx
        obtain ⟨b1, b2, b3, b4⟩ := hy
        exact ⟨a1, Int.le_of_lt hj, Int.le_trans b2 b3, a4⟩
    · rw [if_neg h3]
      exact good_ref t _ (good_snoc hg h2 hx)
theorem good_parse (l : List Ln) : Good (parseOf l).rows := good_ref l [] good_nil
/-! Rows in memory. -/
def Is (w : World) (s : Rw) (p : Pr) : Prop := s.a = p.a ∧ s.b = p.b ∧ s.gc = p.gc ∧ s.ccc = p.ccc ∧ s.bd = p.bd ∧ s.dm = p.dec.length ∧ Vals w s.dp s.dm (nums .i64 (p.dec.map fun c : Nat => (c : Int)))
theorem Is.below {w w' : World} {s : Rw} {p : Pr} (h : Is w s p) (hb : Below w.heap.size w w') : Is w' s p := ⟨h.1, h.2.1, h.2.2.1, h.2.2.2.1, h.2.2.2.2.1, h.2.2.2.2.2.1, h.2.2.2.2.2.2.below hb⟩
theorem is0 (w : World) : Is w rw0 pr0 := ⟨rfl, rfl, rfl, rfl, rfl, rfl, Vals.nil _ _⟩
/-- Rows read as plain rows. -/
def Ist (w : World) : List Rw → List Pr → Prop
  | [], [] => True
  | s :: ls, p :: ps => Is w s p ∧ Ist w ls ps
  | _, _ => False
theorem Ist.of {w w' : World} (h : ∀ s p, Is w s p → Is w' s p) : ∀ {ls : List Rw} {ps : List Pr}, Ist w ls ps → Ist w' ls ps
  | [], [], _ => trivial
  | _ :: _, _ :: _, hc => ⟨h _ _ hc.1, Ist.of h hc.2⟩
  | [], _ :: _, hc => hc.elim
  | _ :: _, [], hc => hc.elim
theorem Ist.below {w w' : World} {ls : List Rw} {ps : List Pr} (h : Ist w ls ps) (hb : Below w.heap.size w w') : Ist w' ls ps := Ist.of (fun _ _ h => h.below hb) h
theorem Ist.len {w : World} : ∀ {ls : List Rw} {ps : List Pr}, Ist w ls ps → ls.length = ps.length
  | [], [], _ => rfl
  | _ :: _, _ :: _, hc => by simp [Ist.len hc.2]
  | [], _ :: _, hc => hc.elim
  | _ :: _, [], hc => hc.elim
theorem Ist.snoc {w : World} {s : Rw} {p : Pr} (hs : Is w s p) : ∀ {ls : List Rw} {ps : List Pr}, Ist w ls ps → Ist w (ls ++ [s]) (ps ++ [p])
  | [], [], _ => ⟨hs, trivial⟩
  | _ :: _, _ :: _, hc => ⟨hc.1, Ist.snoc hs hc.2⟩
  | [], _ :: _, hc => hc.elim
  | _ :: _, [], hc => hc.elim
theorem Ist.get {w : World} : ∀ {ls : List Rw} {ps : List Pr} {j : Nat} {s : Rw}, Ist w ls ps → ls[j]? = some s → ∃ p, ps[j]? = some p ∧ Is w s p
  | _ :: _, p :: _, 0, s, hc, hj => by
    simp at hj
    subst hj
    exact ⟨p, rfl, hc.1⟩
  | _ :: _, _ :: _, j + 1, s, hc, hj => Ist.get (j := j) hc.2 (by simpa using hj)
  | [], _, _, _, _, hj => by simp at hj
  | _ :: _, [], _, _, hc, _ => hc.elim
/-- The plain row of a code point. -/
def patOf (ps : List Pr) (c : Int) : Pr := (ps.find? fun p => decide (p.a ≤ c ∧ c ≤ p.b)).getD pr0
theorem ist_at {w : World} : ∀ {ls : List Rw} {ps : List Pr} (c : Int), Ist w ls ps → Is w (atOf ls c) (patOf ps c)
  | [], [], _, _ => is0 w
  | s :: ls, p :: ps, c, hc => by
    have ih := ist_at c hc.2
    unfold atOf patOf at ih ⊢
    have e : decide (s.a ≤ c ∧ c ≤ s.b) = decide (p.a ≤ c ∧ c ≤ p.b) := by rw [hc.1.1, hc.1.2.1]
    cases hd : decide (s.a ≤ c ∧ c ≤ s.b) with
    | true =>
      rw [List.find?_cons_of_pos (by simpa using hd), List.find?_cons_of_pos (by rw [← e]; exact hd)]
      exact hc.1
    | false =>
      rw [List.find?_cons_of_neg (by simpa using hd), List.find?_cons_of_neg (by rw [← e, hd]; simp)]
      exact ih
  | [], _ :: _, _, hc => hc.elim
  | _ :: _, [], _, hc => hc.elim
theorem ist_mem {w : World} {ls : List Rw} {ps : List Pr} (h : Ist w ls ps) {s : Rw} (hs : s ∈ ls) : ∃ p ∈ ps, Is w s p := by
  obtain ⟨j, hj⟩ := List.mem_iff_getElem?.1 hs
  obtain ⟨p, hp, hi⟩ := h.get hj
  exact ⟨p, List.mem_of_getElem? hp, hi⟩
theorem ist_rises {w : World} : ∀ {ls : List Rw} {ps : List Pr}, Ist w ls ps → Good ps → Rises ls
  | [], [], _, _ => ⟨List.Pairwise.nil, fun s h => by cases h⟩
  | s :: ls, p :: ps, hc, hg => by
    have hg' : Good ps := ⟨(List.pairwise_cons.1 hg.1).2, fun s hs => hg.2 s (List.mem_cons_of_mem _ hs)⟩
    have ih := ist_rises hc.2 hg'
    refine ⟨List.pairwise_cons.2 ⟨fun t ht => ?_, ih.1⟩, fun t ht => ?_⟩
    · obtain ⟨q, hq, hi⟩ := ist_mem hc.2 ht
      rw [hc.1.2.1, hi.1]
      exact (List.pairwise_cons.1 hg.1).1 q hq
    · rcases List.mem_cons.1 ht with rfl | ht
      · rw [hc.1.1, hc.1.2.1]
        exact (hg.2 p (List.mem_cons_self ..)).2.1
      · exact ih.2 t ht
  | [], _ :: _, hc, _ => hc.elim
  | _ :: _, [], hc, _ => hc.elim
end Go.Proofs.YtfakohoamgogoaaGreatDoor.Uc

namespace Go.Proofs.YtfakohoamgogoaaGreatDoor
open Go.RowKit
attribute [local go_sem] Oper.semAt_some

/-- A code point's decomposition. -/
def dcf (ps : List Uc.Pr) (c : Int) : List Int := (Uc.patOf ps c).dec.map fun n : Nat => (n : Int)
theorem infoI : (Tryz.prog.info? 3).map (fun i => (i.zero, i.size, i.bytes)) = some (some (.int .i64 0), 1, 8) := by kernel_rfl
theorem nums_one' {zs : List Int} : ∀ u ∈ nums .i64 zs, u.oneCell' = true := by
  intro u hu
  unfold nums at hu
  obtain ⟨z, -, rfl⟩ := List.mem_map.1 hu
  rfl
theorem nums_len (zs : List Int) : (nums .i64 zs).length = zs.length := List.length_map _
theorem vals_cells {w : World} {ad : Addr} {m : Nat} {vs : List Value} (h : Vals w (some ad) m vs) : ∀ j u, vs[j]? = some u → w.cell? (ad.add j) = some u := by
  intro j u hj
  have hm : 0 < m := by have := (List.getElem?_eq_some_iff.1 hj).1; have := h.1; omega
  obtain ⟨b, off, e, -, hc⟩ := h.2 hm
  cases e
  have := hc j u hj
  have e2 : (⟨b, off, none⟩ : Addr).add j = ⟨b, off + j, none⟩ := by unfold Addr.add; split <;> simp_all
  rw [e2]
  exact this
/-- Nothing is appended; the nil slice may bear any room. -/
theorem run_append_nil {P : Program} {w : World} (base : Nat) (t ty e : TypeId) (i : TypeInfo) (size c : Nat) (ht : P.underlying t = some (.slice e)) (hi : P.info? e = some i) (v : Value) (n : Nat) (xs : List Value) (hown : w.ownsRow base e size v n xs) :
    (Builtin.append_ #[t, t] ty #[v, .slice none 0 c]).run P w = .ok v w := by
  rcases hown.2 with ⟨rfl, rfl⟩ | ⟨g, cap, cur, rfl, _, _, hnc, _⟩
  · simp [Builtin.append_, run_underlying ht, sizeOf, typeInfo, hi, Builtin.lenOf, Builtin.firstCells]
  · simp [Builtin.append_, run_underlying ht, sizeOf, typeInfo, hi, Builtin.lenOf, Builtin.firstCells, hnc, storeCells]
end Go.Proofs.YtfakohoamgogoaaGreatDoor

namespace Go.Proofs.YtfakohoamgogoaaGreatDoor.Pq
open Go.RowKit

/-- A span: first, last, value. -/
structure Sp where
  a : Int
  b : Int
  v : List UInt8
deriving DecidableEq

/-- Have they a code point in common? -/
def meets (s t : Sp) : Bool := decide (s.a ≤ t.b) && decide (t.a ≤ s.b)
/-- What an addition answers. -/
def check (l : List Sp) (s : Sp) : Int := if s.a < 0 ∨ 1114111 < s.b ∨ s.b < s.a then 14 else if s.v = [] then 16 else if l.any (meets · s) then 15 else 0
/-- A span put in its place. -/
def ins (s : Sp) (l : List Sp) : List Sp := l.takeWhile (fun t => decide (t.a ≤ s.a)) ++ s :: l.dropWhile (fun t => decide (t.a ≤ s.a))
def sorted (l : List Sp) : List Sp := l.foldl (fun acc s => ins s acc) []
/-- Added one by one, in order. -/
def addAll : List Sp → List Sp → Except Int (List Sp)
  | acc, [] => .ok acc
  | acc, s :: l => if check acc s = 0 then addAll (ins s acc) l else .error (check acc s)
/-- Added one by one, as they came. -/
def came : List Sp → List Sp → Except Int (List Sp)
  | acc, [] => .ok acc
  | acc, s :: l => if check acc s = 0 then came (acc ++ [s]) l else .error (check acc s)
/-- A span that may stand in a table. -/
def Fit (s : Sp) : Prop := 0 ≤ s.a ∧ s.b ≤ 1114111 ∧ s.a ≤ s.b ∧ s.v ≠ []
def Rises (l : List Sp) : Prop := l.Pairwise fun s t => s.b < t.a
def Good (l : List Sp) : Prop := Rises l ∧ ∀ s ∈ l, Fit s

theorem meets_comm (s t : Sp) : meets s t = meets t s := by unfold meets; rw [Bool.and_comm]
theorem ins_mem {s t : Sp} {l : List Sp} : t ∈ ins s l ↔ t = s ∨ t ∈ l := by
  unfold ins
  have e := List.takeWhile_append_dropWhile (p := fun t : Sp => decide (t.a ≤ s.a)) (l := l)
  constructor
  · intro h
    rcases List.mem_append.1 h with h | h
    · exact .inr (by rw [← e]; exact List.mem_append_left _ h)
    · rcases List.mem_cons.1 h with h | h
      · exact .inl h
      · exact .inr (by rw [← e]; exact List.mem_append_right _ h)
  · rintro (rfl | h)
    · simp
    · rw [← e] at h
      rcases List.mem_append.1 h with h | h
      · exact List.mem_append_left _ h
      · exact List.mem_append_right _ (List.mem_cons_of_mem _ h)
theorem ins_length (s : Sp) (l : List Sp) : (ins s l).length = l.length + 1 := by
  unfold ins
  have e := congrArg List.length (List.takeWhile_append_dropWhile (p := fun t : Sp => decide (t.a ≤ s.a)) (l := l))
  rw [List.length_append] at e
  rw [List.length_append, List.length_cons]
  omega
theorem sorted_snoc (l : List Sp) (s : Sp) : sorted (l ++ [s]) = ins s (sorted l) := by unfold sorted; rw [List.foldl_append]; rfl
theorem sorted_mem : ∀ (l : List Sp) (t : Sp), t ∈ sorted l ↔ t ∈ l := by
  intro l
  generalize hn : l.length = n
  induction n generalizing l with
  | zero => intro t; rw [List.eq_nil_of_length_eq_zero hn]; rfl
  | succ n ih =>
    intro t
    rcases List.eq_nil_or_concat l with rfl | ⟨m, s, rfl⟩
    · simp at hn
    · rw [List.concat_eq_append] at hn ⊢
      rw [List.length_append] at hn
      rw [sorted_snoc, ins_mem, ih m (by simpa using hn) t]
      simp [or_comm]
theorem sorted_length : ∀ (l : List Sp), (sorted l).length = l.length := by
  intro l
  generalize hn : l.length = n
  induction n generalizing l with
  | zero => rw [List.eq_nil_of_length_eq_zero hn]; rfl
  | succ n ih =>
    rcases List.eq_nil_or_concat l with rfl | ⟨m, s, rfl⟩
    · simp at hn
    · rw [List.concat_eq_append] at hn ⊢
      rw [List.length_append] at hn
      rw [sorted_snoc, ins_length, ih m (by simpa using hn)]
/-- An addition's answer asks only which spans there are. -/
theorem check_same {l m : List Sp} (h : ∀ t, t ∈ l ↔ t ∈ m) (s : Sp) : check l s = check m s := by
  unfold check
  have e : l.any (meets · s) = m.any (meets · s) := by
    rw [Bool.eq_iff_iff, List.any_eq_true, List.any_eq_true]
    exact ⟨fun ⟨x, hx, h2⟩ => ⟨x, (h x).1 hx, h2⟩, fun ⟨x, hx, h2⟩ => ⟨x, (h x).2 hx, h2⟩⟩
  rw [e]
theorem check_ok {l : List Sp} {s : Sp} : check l s = 0 ↔ Fit s ∧ ∀ t ∈ l, meets t s = false := by
  unfold check Fit
  constructor
  · intro h
    split at h
    · cases h
    · rename_i h1
      split at h
      · cases h
      · rename_i h2
        split at h
        · cases h
        · rename_i h3
          refine ⟨⟨by omega, by omega, by omega, h2⟩, fun t ht => ?_⟩
          rw [List.any_eq_true] at h3
          cases hm : meets t s with
          | false => rfl
          | true => exact absurd ⟨t, ht, hm⟩ h3
  · rintro ⟨⟨h1, h2, h3, h4⟩, h5⟩
    rw [if_neg (by omega), if_neg h4, if_neg]
    rw [List.any_eq_true]
    rintro ⟨t, ht, hm⟩
    rw [h5 t ht] at hm
    cases hm
/-- Whether the spans are put in order at once or at the end. -/
theorem addAll_came : ∀ (l acc : List Sp), addAll (sorted acc) l = (came acc l).map sorted
  | [], acc => rfl
  | s :: l, acc => by
    rw [addAll, came, check_same (sorted_mem acc) s]
    split
    · rw [← sorted_snoc, addAll_came l (acc ++ [s])]
    · rfl
theorem takeW_rises {s : Sp} {l : List Sp} (hr : Rises l) (hf : ∀ t ∈ l, t.a ≤ t.b) : ∀ t ∈ l.dropWhile (fun t => decide (t.a ≤ s.a)), s.a < t.a := by
  induction l with
  | nil => intro t ht; cases ht
  | cons x l ih =>
    intro t ht
    rw [List.dropWhile_cons] at ht
    split at ht
    · exact ih (List.pairwise_cons.1 hr).2 (fun t ht => hf t (List.mem_cons_of_mem _ ht)) t ht
    · rename_i hx
      simp at hx
      rcases List.mem_cons.1 ht with rfl | ht
      · exact hx
      · have h1 := (List.pairwise_cons.1 hr).1 t ht
        have h2 := hf x (by simp)
        omega
theorem takeW_all {s : Sp} : ∀ {l : List Sp}, ∀ t ∈ l.takeWhile (fun t => decide (t.a ≤ s.a)), t.a ≤ s.a
  | [], t, ht => by cases ht
  | x :: l, t, ht => by
    rw [List.takeWhile_cons] at ht
    split at ht
    · rename_i hx
      rcases List.mem_cons.1 ht with rfl | ht
      · simpa using hx
      · exact takeW_all t ht
    · cases ht
theorem ins_good {s : Sp} {l : List Sp} (hg : Good l) (hc : check l s = 0) : Good (ins s l) := by
  obtain ⟨hfit, hno⟩ := check_ok.1 hc
  have hf : ∀ t ∈ l, t.a ≤ t.b := fun t ht => (hg.2 t ht).2.2.1
  refine ⟨?_, fun t ht => ?_⟩
  · unfold Rises ins
    have e := List.takeWhile_append_dropWhile (p := fun t : Sp => decide (t.a ≤ s.a)) (l := l)
    have hr := hg.1
    unfold Rises at hr
    rw [← e, List.pairwise_append] at hr
    have hsub1 : ∀ t ∈ l.takeWhile (fun t => decide (t.a ≤ s.a)), t ∈ l := fun t ht => by rw [← e]; exact List.mem_append_left _ ht
    have hsub2 : ∀ t ∈ l.dropWhile (fun t => decide (t.a ≤ s.a)), t ∈ l := fun t ht => by rw [← e]; exact List.mem_append_right _ ht
    have hlow : ∀ t ∈ l.takeWhile (fun t => decide (t.a ≤ s.a)), t.b < s.a := fun t ht => by
      have h1 := takeW_all t ht
      have h2 := hno t (hsub1 t ht)
      have h3 := hf t (hsub1 t ht)
      have h4 := hfit.2.2.1
      unfold meets at h2
      simp at h2
      exact h2 (by omega)
    have hhigh : ∀ t ∈ l.dropWhile (fun t => decide (t.a ≤ s.a)), s.b < t.a := fun t ht => by
      have h1 := takeW_rises hg.1 hf t ht
      have h2 := hno t (hsub2 t ht)
      have h3 := hf t (hsub2 t ht)
      unfold meets at h2
      simp at h2
      apply Classical.byContradiction
      intro h
      have := h2 (by omega)
      omega
    rw [List.pairwise_append]
    refine ⟨hr.1, List.pairwise_cons.2 ⟨hhigh, hr.2.1⟩, fun t ht u hu => ?_⟩
    rcases List.mem_cons.1 hu with rfl | hu
    · exact hlow t ht
    · exact hr.2.2 t ht u hu
  · rcases ins_mem.1 ht with rfl | ht
    · exact hfit
    · exact hg.2 t ht
theorem addAll_good : ∀ (l acc : List Sp) (r : List Sp), Good acc → addAll acc l = .ok r → Good r ∧ (∀ t, t ∈ r ↔ t ∈ acc ∨ t ∈ l) ∧ r.length = acc.length + l.length
  | [], acc, r, hg, h => by
    rw [addAll] at h
    cases h
    exact ⟨hg, by simp, by simp⟩
  | s :: l, acc, r, hg, h => by
    rw [addAll] at h
    split at h
    · rename_i hc
      obtain ⟨h1, h2, h3⟩ := addAll_good l (ins s acc) r (ins_good hg hc) h
      refine ⟨h1, fun t => ?_, ?_⟩
      · rw [h2 t, ins_mem, List.mem_cons]
        constructor
        · rintro ((h | h) | h)
          · exact .inr (.inl h)
          · exact .inl h
          · exact .inr (.inr h)
        · rintro (h | h | h)
          · exact .inl (.inr h)
          · exact .inl (.inl h)
          · exact .inr h
      · rw [h3, ins_length, List.length_cons]
        omega
    · cases h
theorem good_nil : Good [] := ⟨List.Pairwise.nil, fun s h => by cases h⟩
/-- When all may be added. -/
theorem addAll_ok : ∀ (l acc : List Sp), (∃ r, addAll acc l = .ok r) ↔ (∀ s ∈ l, Fit s) ∧ (∀ s ∈ l, ∀ t ∈ acc, meets t s = false) ∧ l.Pairwise (fun s t => meets s t = false)
  | [], acc => by simp [addAll]
  | s :: l, acc => by
    rw [addAll]
    have ih := addAll_ok l (ins s acc)
    constructor
    · rintro ⟨r, h⟩
      split at h
      · rename_i hc
        obtain ⟨hf, hn⟩ := check_ok.1 hc
        obtain ⟨h1, h2, h3⟩ := ih.1 ⟨r, h⟩
        refine ⟨fun t ht => ?_, fun t ht u hu => ?_, List.pairwise_cons.2 ⟨fun t ht => h2 t ht s (ins_mem.2 (.inl rfl)), h3⟩⟩
        · rcases List.mem_cons.1 ht with rfl | ht
          · exact hf
          · exact h1 t ht
        · rcases List.mem_cons.1 ht with rfl | ht
          · exact hn u hu
          · exact h2 t ht u (ins_mem.2 (.inr hu))
      · cases h
    · rintro ⟨h1, h2, h3⟩
      have hc : check acc s = 0 := check_ok.2 ⟨h1 s (by simp), h2 s (by simp)⟩
      rw [if_pos hc]
      refine ih.2 ⟨fun t ht => h1 t (by simp [ht]), fun t ht u hu => ?_, (List.pairwise_cons.1 h3).2⟩
      rcases ins_mem.1 hu with rfl | hu
      · exact (List.pairwise_cons.1 h3).1 t ht
      · exact h2 t (by simp [ht]) u hu
/-- Two tables with the same spans are one. -/
theorem good_eq : ∀ (l m : List Sp), Good l → Good m → (∀ t, t ∈ l ↔ t ∈ m) → l = m
  | [], [], _, _, _ => rfl
  | [], x :: m, _, _, h => absurd ((h x).2 (by simp)) (by simp)
  | x :: l, [], _, _, h => absurd ((h x).1 (by simp)) (by simp)
  | x :: l, y :: m, hl, hm, h => by
    have pl := List.pairwise_cons.1 hl.1
    have pm := List.pairwise_cons.1 hm.1
    have fx := (hl.2 x (by simp)).2.2.1
    have fy := (hm.2 y (by simp)).2.2.1
    have exy : x = y := by
      rcases List.mem_cons.1 ((h x).1 (by simp)) with e | hx
      · exact e
      · rcases List.mem_cons.1 ((h y).2 (by simp)) with e | hy
        · exact e.symm
        · have h1 := pl.1 y hy
          have h2 := pm.1 x hx
          omega
    subst exy
    have nx1 : x ∉ l := fun hx => by have := pl.1 x hx; omega
    have nx2 : x ∉ m := fun hx => by have := pm.1 x hx; omega
    rw [good_eq l m ⟨pl.2, fun t ht => hl.2 t (by simp [ht])⟩ ⟨pm.2, fun t ht => hm.2 t (by simp [ht])⟩ (fun t => ?_)]
    have ht := h t
    rw [List.mem_cons, List.mem_cons] at ht
    constructor
    · intro h1
      rcases ht.1 (.inr h1) with e | h2
      · subst e; exact absurd h1 nx1
      · exact h2
    · intro h1
      rcases ht.2 (.inr h1) with e | h2
      · subst e; exact absurd h1 nx2
      · exact h2
/-- It does not matter in which order they come. -/
theorem addAll_perm {l m r : List Sp} (hp : l.Perm m) (h : addAll [] l = .ok r) : addAll [] m = .ok r := by
  obtain ⟨h1, h2, h3⟩ := (addAll_ok l []).1 ⟨r, h⟩
  obtain ⟨r2, hr2⟩ := (addAll_ok m []).2 ⟨fun s hs => h1 s (hp.mem_iff.2 hs), fun s _ t ht => (by cases ht), hp.pairwise h3 (fun {a b} hab => by rw [meets_comm]; exact hab)⟩
  obtain ⟨g1, g2, _⟩ := addAll_good l [] r good_nil h
  obtain ⟨k1, k2, _⟩ := addAll_good m [] r2 good_nil hr2
  rw [hr2, good_eq r r2 g1 k1 (fun t => by rw [g2 t, k2 t, hp.mem_iff])]

/-! Values. -/
def valueOf (l : List Sp) (c : Int) : List UInt8 := match l.find? (fun s => decide (s.a ≤ c) && decide (c ≤ s.b)) with | some s => s.v | none => []
theorem value_cons (s : Sp) (l : List Sp) (c : Int) : valueOf (s :: l) c = if s.a ≤ c ∧ c ≤ s.b then s.v else valueOf l c := by
  unfold valueOf
  rw [List.find?_cons]
  by_cases h : s.a ≤ c ∧ c ≤ s.b
  · simp [h]
  · rw [if_neg h]
    have e : (decide (s.a ≤ c) && decide (c ≤ s.b)) = false := by
      rw [Bool.eq_false_iff]
      simp
      omega
    rw [e]
theorem value_gap : ∀ {l : List Sp} {c : Int}, (∀ s ∈ l, ¬ (s.a ≤ c ∧ c ≤ s.b)) → valueOf l c = []
  | [], _, _ => rfl
  | s :: l, c, h => by
    rw [value_cons, if_neg (h s (by simp))]
    exact value_gap fun t ht => h t (by simp [ht])
theorem value_at : ∀ {l : List Sp} {c : Int} {s : Sp}, Rises l → s ∈ l → s.a ≤ c → c ≤ s.b → valueOf l c = s.v
  | [], _, _, _, h, _, _ => by cases h
  | x :: l, c, s, hr, h, h1, h2 => by
    rw [value_cons]
    rcases List.mem_cons.1 h with rfl | h
    · rw [if_pos ⟨h1, h2⟩]
    · have := (List.pairwise_cons.1 hr).1 s h
      rw [if_neg (by omega)]
      exact value_at (List.pairwise_cons.1 hr).2 h h1 h2

/-! Code points of a value. -/
end Go.Proofs.YtfakohoamgogoaaGreatDoor.Pq

namespace Go.Proofs.YtfakohoamgogoaaGreatDoor.Pq
open Go.RowKit

def spv (s : Sp) : List Value := [.int .i64 s.a, .int .i64 s.b, .string (bs s.v)]
def spvs (ls : List Sp) : List Value := ls.flatMap spv
theorem spvs_cons (s : Sp) (ls : List Sp) : spvs (s :: ls) = .int .i64 s.a :: .int .i64 s.b :: .string (bs s.v) :: spvs ls := rfl
theorem spvs_snoc (ls : List Sp) (s : Sp) : spvs ls ++ [.int .i64 s.a, .int .i64 s.b, .string (bs s.v)] = spvs (ls ++ [s]) := by unfold spvs; rw [List.flatMap_append]; rfl
theorem spvs_length : ∀ ls : List Sp, (spvs ls).length = ls.length * 3
  | [] => rfl
  | s :: ls => by rw [spvs_cons]; simp [spvs_length ls]; omega
theorem spvs_get : ∀ {ls : List Sp} {j : Nat} {s : Sp}, ls[j]? = some s → (spvs ls)[j * 3]? = some (.int .i64 s.a) ∧ (spvs ls)[j * 3 + 1]? = some (.int .i64 s.b) ∧ (spvs ls)[j * 3 + 2]? = some (.string (bs s.v))
  | [], _, _, h => by simp at h
  | x :: ls, 0, s, h => by simp at h; subst h; exact ⟨rfl, rfl, rfl⟩
  | x :: ls, j + 1, s, h => by
    have := spvs_get (ls := ls) (j := j) (s := s) (by simpa using h)
    rw [spvs_cons, show (j + 1) * 3 = j * 3 + 3 by omega]
    exact this
/-- The slice with address A and length n reads, in w, as the spans ls. -/
def SAt (w : World) (A : Option Addr) (n : Nat) (ls : List Sp) : Prop :=
  ls.length = n ∧ (0 < n → ∃ b off, A = some ⟨b, off, none⟩ ∧ b < w.heap.size ∧ ∀ j s, ls[j]? = some s →
    w.cell? ⟨b, off + j * 3, none⟩ = some (.int .i64 s.a) ∧ w.cell? ⟨b, off + j * 3 + 1, none⟩ = some (.int .i64 s.b) ∧ w.cell? ⟨b, off + j * 3 + 2, none⟩ = some (.string (bs s.v)))
theorem SAt.below {w w' : World} {A : Option Addr} {n : Nat} {ls : List Sp} (h : SAt w A n ls) (hb : Below w.heap.size w w') : SAt w' A n ls := by
  refine ⟨h.1, fun hn => ?_⟩
  obtain ⟨b, off, rfl, hlt, hc⟩ := h.2 hn
  refine ⟨b, off, rfl, Nat.lt_of_lt_of_le hlt hb.size, fun j s hj => ?_⟩
  obtain ⟨h1, h2, h3⟩ := hc j s hj
  exact ⟨(hb.cell (p := ⟨b, _, none⟩) hlt).trans h1, (hb.cell (p := ⟨b, _, none⟩) hlt).trans h2, (hb.cell (p := ⟨b, _, none⟩) hlt).trans h3⟩
theorem SAt.nil (w : World) (A : Option Addr) : SAt w A 0 [] := ⟨rfl, fun h => absurd h (by omega)⟩
theorem own_sat {w : World} {base : Nat} {e : TypeId} {v : Value} {ls : List Sp} (ho : w.ownsRow base e 3 v ls.length (spvs ls)) : ∃ A c, v = .slice A ls.length c ∧ ls.length ≤ c ∧ SAt w A ls.length ls ∧ (A = none → c = 0) := by
  rcases ho.2 with ⟨rfl, h0⟩ | ⟨g, cap, cur, rfl, _, hg, hcap, _⟩
  · exact ⟨none, 0, by rw [h0], by omega, ⟨rfl, fun h => absurd h (by omega)⟩, fun _ => rfl⟩
  · refine ⟨_, cap, rfl, hcap, ⟨rfl, fun _ => ⟨g, 0, rfl, (Array.getElem?_eq_some_iff.1 hg).1, fun j s hj => ?_⟩⟩, fun h => by cases h⟩
    obtain ⟨h1, h2, h3⟩ := spvs_get hj
    have k1 := ho.cells (g := g) rfl _ _ h1
    have k2 := ho.cells (g := g) rfl _ _ h2
    have k3 := ho.cells (g := g) rfl _ _ h3
    rw [add_at] at k1 k2 k3
    exact ⟨k1, k2, k3⟩
theorem getSp {ls : List Sp} {k : Nat} (h : k < ls.length) : ∃ s, ls[k]? = some s := ⟨ls[k], List.getElem?_eq_getElem h⟩
theorem bs_toList (l : List UInt8) : (bs l).toList = l := by rw [Lib.toList_data, bs_data]
theorem bs_some {l : List UInt8} (h : ¬ l = []) : (bs l).toList.isEmpty = false := by rw [bs_toList]; simp [h]

/-! The document's answers, step by step. -/
theorem take_more {l : List Sp} {P : Sp → Prop} {k : Nat} {s : Sp} (hk : l[k]? = some s) (h : ∀ t ∈ l.take k, P t) (hs : P s) : ∀ t ∈ l.take (k + 1), P t := by
  have hlt := (List.getElem?_eq_some_iff.1 hk).1
  have e : l[k] = s := (List.getElem?_eq_some_iff.1 hk).2
  intro t ht
  rw [List.take_succ_eq_append_getElem hlt, e] at ht
  rcases List.mem_append.1 ht with ht | ht
  · exact h t ht
  · rw [List.mem_singleton.1 ht]; exact hs
end Go.Proofs.YtfakohoamgogoaaGreatDoor.Pq

namespace Go.Proofs.YtfakohoamgogoaaGreatDoor.Pq
open Go.RowKit

/-- A span as a value. -/
def spV (s : Sp) : Value := .agg #[.int .i64 s.a, .int .i64 s.b, .string (bs s.v)]
theorem check_range {l : List Sp} {s : Sp} (h : s.a < 0 ∨ 1114111 < s.b ∨ s.b < s.a) : check l s = 14 := by unfold check; rw [if_pos h]
theorem check_empty {l : List Sp} {s : Sp} (h : ¬ (s.a < 0 ∨ 1114111 < s.b ∨ s.b < s.a)) (hv : s.v = []) : check l s = 16 := by unfold check; rw [if_neg h, if_pos hv]
theorem check_fine {l : List Sp} {s : Sp} (h : ¬ (s.a < 0 ∨ 1114111 < s.b ∨ s.b < s.a)) (hv : ¬ s.v = []) (hm : l.any (meets · s) = false) : check l s = 0 := by unfold check; rw [if_neg h, if_neg hv, if_neg (by simp [hm])]
def ChkPost (l : List Sp) (s : Sp) (w : World) (e : Ending) (w' : World) : Prop := e = .returned (.int .i64 (check l s)) ∧ Below w.heap.size w w'

end Go.Proofs.YtfakohoamgogoaaGreatDoor.Pq

namespace Go.Proofs.YtfakohoamgogoaaGreatDoor.Cf
open Go.RowKit

/-- A source and its prototype. -/
structure Pp where
  c : Int
  p : List Int
structure CRes where
  rows : List Pp
  err : Int
  num : Int
def cfld (f : List (List UInt8)) (k : Nat) : List UInt8 := f.getD k []
def ints' (s : List Nat) : List Int := s.map fun n : Nat => (n : Int)
/-- What is wrong with a line, whatever the others are. -/
def cErr (f : List (List UInt8)) : Int :=
  if ¬ f.length = 3 then 12 else
  match point (cfld f 0) with
  | none => 13
  | some _ => match seqOf (cfld f 1) with
    | none => 13
    | some p => if p.length = 0 then 16 else if 18 < p.length then 36 else 0
def cPair (f : List (List UInt8)) : Pp := ⟨((point (cfld f 0)).getD 0 : Nat), ints' ((seqOf (cfld f 1)).getD [])⟩
def hasS (l : List Pp) (c : Int) : Bool := l.any fun q => decide (q.c = c)
def insC (q : Pp) (l : List Pp) : List Pp := l.takeWhile (fun t => decide (t.c ≤ q.c)) ++ q :: l.dropWhile (fun t => decide (t.c ≤ q.c))
def cfP : List Pp → List Ln → CRes
  | out, [] => ⟨out, 0, 0⟩
  | out, x :: t =>
    if ¬ cErr x.2 = 0 then ⟨[], cErr x.2, x.1⟩ else
    if hasS out (cPair x.2).c = true then ⟨[], 15, x.1⟩ else cfP (insC (cPair x.2) out) t
def cfOf (l : List Ln) : CRes := cfP [] l
theorem cf_err {out : List Pp} {x : Ln} {t : List Ln} (h : ¬ cErr x.2 = 0) : cfP out (x :: t) = ⟨[], cErr x.2, x.1⟩ := by rw [cfP, if_pos h]
theorem cf_bad {out : List Pp} {x : Ln} {t : List Ln} (h : cErr x.2 = 0) (hc : hasS out (cPair x.2).c = true) : cfP out (x :: t) = ⟨[], 15, x.1⟩ := by rw [cfP, if_neg (by simpa using h), if_pos hc]
theorem cf_add {out : List Pp} {x : Ln} {t : List Ln} (h : cErr x.2 = 0) (hc : hasS out (cPair x.2).c = false) : cfP out (x :: t) = cfP (insC (cPair x.2) out) t := by rw [cfP, if_neg (by simpa using h), if_neg (by rw [hc]; simp)]
theorem has_iff {l : List Pp} {c : Int} : hasS l c = true ↔ ∃ q ∈ l, q.c = c := by unfold hasS; simp
theorem has_no {l : List Pp} {c : Int} : hasS l c = false ↔ ∀ q ∈ l, q.c ≠ c := by unfold hasS; simp
theorem ins_perm (q : Pp) (l : List Pp) : (insC q l).Perm (q :: l) := by
  unfold insC
  have h := List.takeWhile_append_dropWhile (p := fun t : Pp => decide (t.c ≤ q.c)) (l := l)
  exact List.perm_middle.trans (by rw [h])
def Rise (l : List Pp) : Prop := l.Pairwise fun a b => a.c < b.c
theorem drop_low : ∀ {l : List Pp} {x : Int}, Rise l → ∀ t ∈ l.dropWhile (fun t => decide (t.c ≤ x)), x < t.c
  | [], _, _, t, h => by cases h
  | y :: l, x, hr, t, h => by
    by_cases hy : y.c ≤ x
    · rw [List.dropWhile_cons_of_pos (by simpa using hy)] at h
      exact drop_low (List.Pairwise.of_cons hr) t h
    · rw [List.dropWhile_cons_of_neg (by simpa using hy)] at h
      rcases List.mem_cons.1 h with rfl | h
      · omega
      · have := List.rel_of_pairwise_cons hr h
        omega
theorem take_low : ∀ {l : List Pp} {x : Int}, ∀ t ∈ l.takeWhile (fun t => decide (t.c ≤ x)), t.c ≤ x ∧ t ∈ l
  | [], _, t, h => by cases h
  | y :: l, x, t, h => by
    by_cases hy : y.c ≤ x
    · rw [List.takeWhile_cons_of_pos (by simpa using hy)] at h
      rcases List.mem_cons.1 h with rfl | h
      · exact ⟨hy, by simp⟩
      · have := take_low t h
        exact ⟨this.1, List.mem_cons_of_mem _ this.2⟩
    · rw [List.takeWhile_cons_of_neg (by simpa using hy)] at h
      cases h
theorem ins_rise {q : Pp} {l : List Pp} (hr : Rise l) (hn : hasS l q.c = false) : Rise (insC q l) := by
  have hs := List.takeWhile_append_dropWhile (p := fun t : Pp => decide (t.c ≤ q.c)) (l := l)
  have hr' : (l.takeWhile (fun t => decide (t.c ≤ q.c)) ++ l.dropWhile (fun t => decide (t.c ≤ q.c))).Pairwise (fun a b : Pp => a.c < b.c) := by rw [hs]; exact hr
  rw [List.pairwise_append] at hr'
  unfold insC Rise
  rw [List.pairwise_append, List.pairwise_cons]
  refine ⟨hr'.1, ⟨fun t ht => drop_low hr t ht, hr'.2.1⟩, fun a ha b hb => ?_⟩
  have h1 := take_low a ha
  rcases List.mem_cons.1 hb with rfl | hb
  · have h2 := has_no.1 hn a h1.2
    omega
  · exact hr'.2.2 a ha b hb
theorem rise_nodup {l : List Pp} (h : Rise l) : (l.map Pp.c).Nodup := by
  rw [List.Nodup, List.pairwise_map]
  exact h.imp (fun h => by omega)
end Go.Proofs.YtfakohoamgogoaaGreatDoor.Cf

namespace Go.Proofs.YtfakohoamgogoaaGreatDoor
open Go.RowKit

theorem ofInt64 (x : Nat) (h : x < 9223372036854775808) : (BitVec.ofInt 64 (x : Int)).toNat = x := by
  rw [BitVec.toNat_ofInt]
  omega
theorem wrap64 (n : Int) (h0 : 0 ≤ n) (h1 : n < 9223372036854775808) : IntKind.i64.wrap n = n := by
  simp [IntKind.wrap, IntKind.bits, IntKind.signed]
  split <;> omega
theorem or16 (a v : Nat) (ha : a < 16777216) (hv : v < 16) : bits .or .i64 ((a : Int) * 16) (v : Int) = ((a * 16 + v : Nat) : Int) := by
  show IntKind.i64.wrap ((BitVec.ofInt 64 ((a : Int) * 16) ||| BitVec.ofInt 64 (v : Int)).toNat : Int) = _
  rw [show ((a : Int) * 16) = ((a * 16 : Nat) : Int) by push_cast; rfl, BitVec.toNat_or, ofInt64 _ (by omega), ofInt64 v (by omega)]
  have e := Nat.shiftLeft_add_eq_or_of_lt (i := 4) (b := v) (by omega) a
  rw [Nat.shiftLeft_eq] at e
  have e : a * 16 + v = a * 16 ||| v := e
  rw [← e]
  exact wrap64 _ (by omega) (by omega)
end Go.Proofs.YtfakohoamgogoaaGreatDoor
