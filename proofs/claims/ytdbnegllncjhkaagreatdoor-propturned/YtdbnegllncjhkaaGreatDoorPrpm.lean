/- Plain words: what a property file says, as the document reads it; no program is spoken of. -/
/- Plain words: lines of other values, and lines in another order; no program is spoken of. -/
import Derived.Test.YtdbnegllncjhkaaGreatDoorSat
import Derived.Test.YtdbnegllncjhkaaGreatDoorHex
import Derived.Test.YtdbnegllncjhkaaGreatDoorWords
import Derived.Test.YtdbnegllncjhkaaGreatDoorRsort
namespace Go.Proofs.YtdbnegllncjhkaaGreatDoor
open Go.RowKit

def pfld (f : List (List UInt8)) (k : Nat) : List UInt8 := f.getD k []
/-- What a file says: the spans as they came, the error, the number of its line. -/
structure PRes where
  rows : List Sp
  err : Int
  num : Int
/-- Is a value among those told (whichever, if none is told)? -/
def amongB (vs : List (List UInt8)) (v : List UInt8) : Bool := decide (vs.length = 0) || decide (v ∈ vs)
def spOf (f : List (List UInt8)) : Sp := ⟨(rangeOf (pfld f 0)).1, (rangeOf (pfld f 0)).2.1, pfld f 1⟩
def lineErr (f : List (List UInt8)) : Int := if f.length < 2 then 12 else if ¬ (rangeOf (pfld f 0)).2.2 = 0 then (rangeOf (pfld f 0)).2.2 else if pfld f 1 = [] then 16 else 0
def propP (vs : List (List UInt8)) : List Sp → List Ln → PRes
  | out, [] => ⟨out, 0, 0⟩
  | out, x :: t =>
    if ¬ lineErr x.2 = 0 then ⟨[], lineErr x.2, x.1⟩ else
    if amongB vs (pfld x.2 1) = false then propP vs out t else
    if ¬ check out (spOf x.2) = 0 then ⟨[], check out (spOf x.2), x.1⟩ else propP vs (out ++ [spOf x.2]) t
def propOf (vs : List (List UInt8)) (l : List Ln) : PRes := propP vs [] l
theorem prp_err {vs : List (List UInt8)} {out : List Sp} {x : Ln} {t : List Ln} (h : ¬ lineErr x.2 = 0) : propP vs out (x :: t) = ⟨[], lineErr x.2, x.1⟩ := by rw [propP, if_pos h]
theorem prp_skip {vs : List (List UInt8)} {out : List Sp} {x : Ln} {t : List Ln} (h : lineErr x.2 = 0) (ha : amongB vs (pfld x.2 1) = false) : propP vs out (x :: t) = propP vs out t := by rw [propP, if_neg (by simpa using h), if_pos ha]
theorem prp_bad {vs : List (List UInt8)} {out : List Sp} {x : Ln} {t : List Ln} (h : lineErr x.2 = 0) (ha : amongB vs (pfld x.2 1) = true) (hc : ¬ check out (spOf x.2) = 0) : propP vs out (x :: t) = ⟨[], check out (spOf x.2), x.1⟩ := by
  rw [propP, if_neg (by simpa using h), if_neg (by rw [ha]; simp), if_pos hc]
theorem prp_add {vs : List (List UInt8)} {out : List Sp} {x : Ln} {t : List Ln} (h : lineErr x.2 = 0) (ha : amongB vs (pfld x.2 1) = true) (hc : check out (spOf x.2) = 0) : propP vs out (x :: t) = propP vs (out ++ [spOf x.2]) t := by
  rw [propP, if_neg (by simpa using h), if_neg (by rw [ha]; simp), if_neg (by simpa using hc)]
theorem line_few {f : List (List UInt8)} (h : f.length < 2) : lineErr f = 12 := by unfold lineErr; rw [if_pos h]
theorem line_rng {f : List (List UInt8)} (h : ¬ f.length < 2) (hr : ¬ (rangeOf (pfld f 0)).2.2 = 0) : lineErr f = (rangeOf (pfld f 0)).2.2 := by unfold lineErr; rw [if_neg h, if_pos hr]
theorem line_emp {f : List (List UInt8)} (h : ¬ f.length < 2) (hr : (rangeOf (pfld f 0)).2.2 = 0) (hv : pfld f 1 = []) : lineErr f = 16 := by unfold lineErr; rw [if_neg h, if_neg (by simpa using hr), if_pos hv]
theorem line_ok {f : List (List UInt8)} (h : ¬ f.length < 2) (hr : (rangeOf (pfld f 0)).2.2 = 0) (hv : ¬ pfld f 1 = []) : lineErr f = 0 := by unfold lineErr; rw [if_neg h, if_neg (by simpa using hr), if_neg hv]
/-- Among the first so many. -/
def amTo (vs : List (List UInt8)) (v : List UInt8) (j : Nat) : Bool := decide (vs.length = 0) || decide (v ∈ vs.take j)
theorem am_zero (vs : List (List UInt8)) (v : List UInt8) : amTo vs v 0 = decide (vs.length = 0) := by simp [amTo]
theorem am_all (vs : List (List UInt8)) (v : List UInt8) : amTo vs v vs.length = amongB vs v := by unfold amTo amongB; rw [List.take_length]
theorem am_snoc {vs : List (List UInt8)} {v u : List UInt8} {j : Nat} (h : vs[j]? = some u) : amTo vs v (j + 1) = (amTo vs v j || decide (u = v)) := by
  have hj := (List.getElem?_eq_some_iff.1 h).1
  unfold amTo
  rw [List.take_succ_eq_append_getElem hj, Bool.or_assoc]
  congr 1
  have e : vs[j] = u := (List.getElem?_eq_some_iff.1 h).2
  rw [e, Bool.eq_iff_iff]
  simp only [List.mem_append, List.mem_singleton, decide_eq_true_eq, Bool.or_eq_true]
  exact or_congr Iff.rfl eq_comm
theorem prp_len : ∀ (vs : List (List UInt8)) (l : List Ln) (out : List Sp), (propP vs out l).rows.length ≤ out.length + l.length
  | _, [], out => by rw [propP]; simp
  | vs, x :: t, out => by
    rw [propP]
    split
    · simp
    split
    · have := prp_len vs t out; simp at this ⊢; omega
    split
    · simp
    · have := prp_len vs t (out ++ [spOf x.2]); simp at this ⊢; omega
/-- The first two cells of a line's fields. -/
theorem flds2 {w : World} {F : Option Addr} {f : List (List UInt8)} {n : Nat} (h : Vals w F n (strs f)) (hn : ¬ f.length < 2) : ∃ b off, F = some ⟨b, off, none⟩ ∧ b < w.heap.size ∧ w.cell? ⟨b, off, none⟩ = some (.string (bs (pfld f 0))) ∧ w.cell? ⟨b, off + 1, none⟩ = some (.string (bs (pfld f 1))) := by
  have hl : f.length = n := by have := h.1; rwa [strs_length] at this
  obtain ⟨b, off, rfl, hlt, hc⟩ := h.2 (by omega)
  exact ⟨b, off, rfl, hlt, hc 0 _ (strs_get (by omega)), hc 1 _ (strs_get (by omega))⟩
end Go.Proofs.YtdbnegllncjhkaaGreatDoor

namespace Go.Proofs.YtdbnegllncjhkaaGreatDoor
open Go.RowKit

/-- The spans of the lines whose values are among those told. -/
def selS (vs : List (List UInt8)) (L : List Ln) : List Sp := (L.filter fun x => amongB vs (pfld x.2 1)).map fun x => spOf x.2
theorem sel_cons (vs : List (List UInt8)) (x : Ln) (L : List Ln) : selS vs (x :: L) = if amongB vs (pfld x.2 1) = true then spOf x.2 :: selS vs L else selS vs L := by
  unfold selS
  rw [List.filter_cons]
  split <;> rfl
theorem prp_ok : ∀ (vs : List (List UInt8)) (L : List Ln) (out r : List Sp), (∀ x ∈ L, lineErr x.2 = 0) → came out (selS vs L) = .ok r → propP vs out L = ⟨r, 0, 0⟩
  | vs, [], out, r, _, h => by
    have h : (Except.ok out : Except Int (List Sp)) = .ok r := h
    injection h with h
    rw [propP, h]
  | vs, x :: L, out, r, hl, h => by
    have hx := hl x (List.mem_cons_self ..)
    have hL : ∀ y ∈ L, lineErr y.2 = 0 := fun y hy => hl y (List.mem_cons_of_mem _ hy)
    rw [sel_cons] at h
    cases ha : amongB vs (pfld x.2 1) with
    | false =>
      rw [ha, if_neg (by simp)] at h
      rw [prp_skip hx ha]
      exact prp_ok vs L out r hL h
    | true =>
      rw [ha, if_pos rfl, came] at h
      split at h
      · rename_i hc
        rw [prp_add hx ha hc]
        exact prp_ok vs L _ r hL h
      · cases h
theorem prp_inv : ∀ (vs : List (List UInt8)) (L : List Ln) (out : List Sp), (propP vs out L).err = 0 → (∀ x ∈ L, lineErr x.2 = 0) ∧ came out (selS vs L) = .ok (propP vs out L).rows ∧ (propP vs out L).num = 0
  | vs, [], out, _ => ⟨(fun x h => by cases h), (by rw [propP]; rfl), (by rw [propP])⟩
  | vs, x :: L, out, h => by
    by_cases hx : lineErr x.2 = 0
    · cases ha : amongB vs (pfld x.2 1) with
      | false =>
        rw [prp_skip hx ha] at h ⊢
        obtain ⟨h1, h2, h3⟩ := prp_inv vs L out h
        refine ⟨fun y hy => ?_, ?_, h3⟩
        · rcases List.mem_cons.1 hy with rfl | hy
          · exact hx
          · exact h1 y hy
        · rw [sel_cons, ha, if_neg (by simp)]
          exact h2
      | true =>
        by_cases hc : check out (spOf x.2) = 0
        · rw [prp_add hx ha hc] at h ⊢
          obtain ⟨h1, h2, h3⟩ := prp_inv vs L _ h
          refine ⟨fun y hy => ?_, ?_, h3⟩
          · rcases List.mem_cons.1 hy with rfl | hy
            · exact hx
            · exact h1 y hy
          · rw [sel_cons, ha, if_pos rfl, came, if_pos hc]
            exact h2
        · rw [prp_bad hx ha hc] at h
          exact absurd h hc
    · rw [prp_err hx] at h
      exact absurd h hx
/-- What stands in the lines, without their numbers, is what counts. -/
theorem am_none (v : List UInt8) : amongB [] v = true := rfl
theorem sel_none (L : List Ln) : selS [] L = (L.map Prod.snd).map spOf := by
  unfold selS
  rw [List.filter_eq_self.2 (fun x _ => am_none _), List.map_map]
  rfl
/-- Lines in another order. -/
theorem prp_turned {L M : List Ln} (hp : (L.map Prod.snd).Perm (M.map Prod.snd)) (h : (propOf [] L).err = 0) : ∃ r, propOf [] M = ⟨r, 0, 0⟩ ∧ sorted r = sorted (propOf [] L).rows := by
  obtain ⟨h1, h2, -⟩ := prp_inv [] L [] h
  rw [sel_none] at h2
  have ha : addAll [] ((L.map Prod.snd).map spOf) = .ok (sorted (propP [] [] L).rows) := by
    have := addAll_came ((L.map Prod.snd).map spOf) []
    rw [h2] at this
    exact this
  have hb := addAll_perm (hp.map spOf) ha
  have hc := addAll_came ((M.map Prod.snd).map spOf) []
  rw [show sorted ([] : List Sp) = [] from rfl, hb] at hc
  cases hm : came [] ((M.map Prod.snd).map spOf) with
  | error e => rw [hm] at hc; cases hc
  | ok r =>
    rw [hm] at hc
    have hc : (Except.ok (sorted (propP [] [] L).rows) : Except Int (List Sp)) = .ok (sorted r) := hc
    injection hc with hc
    refine ⟨r, prp_ok [] M [] r (fun x hx => ?_) (by rw [sel_none]; exact hm), hc.symm⟩
    have hx2 : x.2 ∈ L.map Prod.snd := hp.mem_iff.2 (List.mem_map_of_mem hx)
    obtain ⟨y, hy, e⟩ := List.mem_map.1 hx2
    rw [← e]
    exact h1 y hy
/-- The text's lines, each with its end. -/
def endAll (P : List (List UInt8)) : List UInt8 := P.flatMap fun p => p ++ [10]
theorem cutAll_not (c : UInt8) : ∀ (l : List UInt8) (p : List UInt8), p ∈ cutAll c l → c ∉ p
  | [], p, h => by simp [cutAll] at h; simp [h]
  | x :: l, p, h => by
    unfold cutAll at h
    split at h
    · simp at h
      rcases h with rfl | h
      · simp
      · exact cutAll_not c l p h
    · rename_i hx
      cases e : cutAll c l with
      | nil => exact absurd e (cutAll_ne c l)
      | cons a t =>
        rw [e] at h
        simp [glue] at h
        rcases h with rfl | h
        · have := cutAll_not c l a (by simp [e])
          simp
          exact ⟨fun e => hx e.symm, this⟩
        · exact cutAll_not c l p (by simp [e, h])
theorem cut_ends : ∀ P : List (List UInt8), (∀ p ∈ P, (10 : UInt8) ∉ p) → cutAll 10 (endAll P) = P ++ [[]]
  | [], _ => rfl
  | p :: P, h => by
    have e : endAll (p :: P) = p ++ 10 :: endAll P := by simp [endAll]
    rw [e, cutAll_some 10 p _ (h p (by simp)), cut_ends P fun q hq => h q (by simp [hq])]
    rfl
/-- The fields of a piece, if there are any. -/
def fieldsIn (p : List UInt8) : Option (List (List UInt8)) := if trim (bodyOf p) = [] then none else some (fieldsOf (bodyOf p))
theorem lines_snd : ∀ (P : List (List UInt8)) (n : Int), ((numbered n P).filterMap lineOf).map Prod.snd = P.filterMap fieldsIn
  | [], _ => rfl
  | p :: P, n => by
    have ih := lines_snd P (n + 1)
    rw [numbered, List.filterMap_cons, List.filterMap_cons]
    unfold lineOf fieldsIn
    split <;> rename_i h1
    · split at h1
      · rename_i h2
        rw [if_pos h2]
        exact ih
      · cases h1
    · split at h1
      · cases h1
      · rename_i h2
        rw [if_neg h2]
        cases h1
        rw [List.map_cons]
        congr 1
theorem lines_turned {l : List UInt8} {P : List (List UInt8)} (hp : (cutAll 10 l).Perm P) : ((linesIn l).map Prod.snd).Perm ((linesIn (endAll P)).map Prod.snd) := by
  unfold linesIn
  rw [lines_snd, lines_snd, cut_ends P fun p h => cutAll_not 10 l p (hp.mem_iff.2 h), List.filterMap_append]
  have e : [([] : List UInt8)].filterMap fieldsIn = [] := by decide
  rw [e, List.append_nil]
  exact hp.filterMap fieldsIn

/-! Lines of other values. -/
theorem low_tw : ∀ {l : List Sp} (_ : Low l) (x : Int), l.takeWhile (fun t => decide (t.a ≤ x)) = l.filter (fun t => decide (t.a ≤ x)) ∧ l.dropWhile (fun t => decide (t.a ≤ x)) = l.filter (fun t => !decide (t.a ≤ x))
  | [], _, _ => ⟨rfl, rfl⟩
  | s :: l, h, x => by
    have hl : Low l := (List.pairwise_cons.1 h).2
    obtain ⟨h1, h2⟩ := low_tw hl x
    rw [List.takeWhile_cons, List.dropWhile_cons, List.filter_cons, List.filter_cons]
    by_cases hs : s.a ≤ x
    · simp only [decide_eq_true hs, if_true, Bool.not_true, Bool.false_eq_true, if_false]
      rw [h1, h2]
      exact ⟨rfl, rfl⟩
    · simp only [decide_eq_false hs, Bool.false_eq_true, if_false, Bool.not_false, if_true]
      have hall : ∀ t ∈ l, ¬ t.a ≤ x := fun t ht => by have := (List.pairwise_cons.1 h).1 t ht; omega
      refine ⟨?_, ?_⟩
      · rw [List.filter_eq_nil_iff.2 (fun t ht => by simpa using hall t ht)]
      · rw [List.filter_eq_self.2 (fun t ht => by simpa using hall t ht)]
theorem ins_low' {s : Sp} {l : List Sp} (h : Low l) : ins s l = l.filter (fun t => decide (t.a ≤ s.a)) ++ s :: l.filter (fun t => !decide (t.a ≤ s.a)) := by
  unfold ins
  obtain ⟨h1, h2⟩ := low_tw h s.a
  rw [h1, h2]
theorem low_filter {l : List Sp} (h : Low l) (p : Sp → Bool) : Low (l.filter p) := List.Pairwise.filter p h
theorem filt_comm (l : List Sp) (p q : Sp → Bool) : (l.filter p).filter q = (l.filter q).filter p := by
  rw [List.filter_filter, List.filter_filter]
  congr 1
  funext t
  exact Bool.and_comm _ _
theorem ins_filter {s : Sp} {l : List Sp} (h : Low l) (p : Sp → Bool) : (ins s l).filter p = if p s = true then ins s (l.filter p) else l.filter p := by
  rw [ins_low' h, List.filter_append, List.filter_cons, filt_comm l _ p, filt_comm l _ p]
  split
  · rw [ins_low' (low_filter h p)]
  · have h1 := (low_tw (low_filter h p) s.a)
    rw [← h1.1, ← h1.2, List.takeWhile_append_dropWhile]
theorem sorted_filter (p : Sp → Bool) : ∀ l : List Sp, sorted (l.filter p) = (sorted l).filter p := by
  intro l
  generalize hn : l.length = n
  induction n generalizing l with
  | zero => rw [List.eq_nil_of_length_eq_zero hn]; rfl
  | succ n ih =>
    rcases List.eq_nil_or_concat l with rfl | ⟨m, s, rfl⟩
    · simp at hn
    · rw [List.concat_eq_append] at hn ⊢
      rw [List.length_append] at hn
      have ihm := ih m (by simpa using hn)
      rw [sorted_snoc, ins_filter (sorted_low m), List.filter_append]
      cases hs : p s with
      | true => rw [if_pos rfl, List.filter_cons, if_pos hs, List.filter_nil, sorted_snoc, ihm]
      | false => rw [if_neg (by simp), List.filter_cons, if_neg (by simp [hs]), List.filter_nil, List.append_nil, ihm]
theorem points_filter (l : List Sp) (v : List UInt8) : pointsOf (l.filter fun s => decide (s.v = v)) v = pointsOf l v := by
  by_cases hv : v = []
  · subst hv; rw [points_empty, points_empty]
  · induction l with
    | nil => rfl
    | cons s l ih =>
      rw [List.filter_cons, points_cons s l v hv]
      by_cases hs : s.v = v
      · rw [if_pos (decide_eq_true hs), points_cons _ _ _ hv, if_pos hs, ih]
      · rw [if_neg (by simpa using hs), if_neg hs, ih, List.nil_append]
theorem check_sub {l m : List Sp} (h : ∀ t ∈ m, t ∈ l) {s : Sp} (hc : check l s = 0) : check m s = 0 := by
  obtain ⟨h1, h2⟩ := check_ok.1 hc
  exact check_ok.2 ⟨h1, fun t ht => h2 t (h t ht)⟩
theorem am_one (v u : List UInt8) : amongB [v] u = decide (u = v) := by simp [amongB]
theorem am_two (v o u : List UInt8) : amongB [v, o] u = (decide (u = v) || decide (u = o)) := by
  unfold amongB
  rw [Bool.eq_iff_iff]
  simp
/-- Of a value the spans are the same, whichever other one is told beside it. -/
theorem prp_others (v o : List UInt8) : ∀ (L : List Ln) (out : List Sp), (propP [v, o] out L).err = 0 → propP [v] (out.filter fun s => decide (s.v = v)) L = ⟨(propP [v, o] out L).rows.filter fun s => decide (s.v = v), 0, 0⟩
  | [], out, _ => by rw [propP, propP]
  | x :: L, out, h => by
    by_cases hx : lineErr x.2 = 0
    · have hsv : (spOf x.2).v = pfld x.2 1 := rfl
      cases ha : amongB [v, o] (pfld x.2 1) with
      | false =>
        have hb : amongB [v] (pfld x.2 1) = false := by
          rw [am_two] at ha
          rw [am_one]
          revert ha
          cases decide (pfld x.2 1 = v) <;> simp
        rw [prp_skip hx ha] at h ⊢
        rw [prp_skip hx hb]
        exact prp_others v o L out h
      | true =>
        by_cases hc : check out (spOf x.2) = 0
        · rw [prp_add hx ha hc] at h ⊢
          have ih := prp_others v o L (out ++ [spOf x.2]) h
          rw [List.filter_append, List.filter_cons] at ih
          by_cases hv : pfld x.2 1 = v
          · have hb : amongB [v] (pfld x.2 1) = true := by rw [am_one]; exact decide_eq_true hv
            rw [prp_add hx hb (check_sub (fun t ht => (List.mem_filter.1 ht).1) hc)]
            rw [if_pos (decide_eq_true (by rw [hsv]; exact hv)), List.filter_nil] at ih
            exact ih
          · have hb : amongB [v] (pfld x.2 1) = false := by rw [am_one]; exact decide_eq_false hv
            rw [prp_skip hx hb]
            rw [if_neg (by rw [hsv]; simpa using hv), List.filter_nil, List.append_nil] at ih
            exact ih
        · rw [prp_bad hx ha hc] at h
          exact absurd h hc
    · rw [prp_err hx] at h
      exact absurd h hx
theorem others_points (v o : List UInt8) (L : List Ln) (h : (propOf [v, o] L).err = 0) : (propOf [v] L).err = 0 ∧ (propOf [v] L).num = 0 ∧ pointsOf (sorted (propOf [v] L).rows) v = pointsOf (sorted (propOf [v, o] L).rows) v := by
  have e := prp_others v o L [] h
  rw [List.filter_nil] at e
  have e : propOf [v] L = ⟨(propOf [v, o] L).rows.filter fun s => decide (s.v = v), 0, 0⟩ := e
  rw [e]
  exact ⟨rfl, rfl, by simp only []; rw [sorted_filter, points_filter]⟩
end Go.Proofs.YtdbnegllncjhkaaGreatDoor
