/- Plain words: lines without fields ahead of a file, and behind it, change no row; what the octets of such a text are, as a row; no program is walked. -/
import Derived.Test.YtfmkhfjdihfppaaDoorUpa
import Derived.Laws.IdiomStrings
namespace Go.Proofs.YtfmkhfjdihfppaaDoor
open Go.RowKit Go.Shelf

def preO : List UInt8 := [35, 32, 114, 101, 109, 97, 114, 107, 32, 59, 32, 119, 105, 116, 104, 32, 59, 32, 102, 105, 101, 108, 100, 115, 10, 10]
def postO : List UInt8 := [10, 9, 35, 32, 97, 110, 111, 116, 104, 101, 114, 32, 111, 110, 101, 10, 32, 10]
def preP : List (List UInt8) := [[35, 32, 114, 101, 109, 97, 114, 107, 32, 59, 32, 119, 105, 116, 104, 32, 59, 32, 102, 105, 101, 108, 100, 115], []]
def postP : List (List UInt8) := [[9, 35, 32, 97, 110, 111, 116, 104, 101, 114, 32, 111, 110, 101], [32], []]
theorem cut_app (c : UInt8) : ∀ (a b : List UInt8), cutAll c (a ++ c :: b) = cutAll c a ++ cutAll c b
  | [], b => by simp [cutAll]
  | x :: a, b => by
    have ih := cut_app c a b
    show (if x = c then [] :: cutAll c (a ++ c :: b) else glue [x] (cutAll c (a ++ c :: b))) = (if x = c then [] :: cutAll c a else glue [x] (cutAll c a)) ++ cutAll c b
    rw [ih]
    split
    · rfl
    · cases e : cutAll c a with
      | nil => exact absurd e (cutAll_ne c a)
      | cons p t => rfl
theorem cut_with (l : List UInt8) : cutAll 10 (preO ++ l ++ postO) = preP ++ (cutAll 10 l ++ postP) := by
  have e1 : preO ++ l ++ postO = [35, 32, 114, 101, 109, 97, 114, 107, 32, 59, 32, 119, 105, 116, 104, 32, 59, 32, 102, 105, 101, 108, 100, 115] ++ 10 :: ([] ++ 10 :: (l ++ 10 :: [9, 35, 32, 97, 110, 111, 116, 104, 101, 114, 32, 111, 110, 101, 10, 32, 10])) := by simp [preO, postO]
  rw [e1, cut_app, cut_app, cut_app]
  rfl
def shL (x : Ln) : Ln := (x.1 + 2, x.2)
theorem line_sh (n : Int) (b : List UInt8) : lineOf (n + 2, b) = (lineOf (n, b)).map shL := by
  unfold lineOf
  split <;> rfl
theorem numbered_sh : ∀ (P : List (List UInt8)) (n : Int), (numbered (n + 2) P).filterMap lineOf = ((numbered n P).filterMap lineOf).map shL
  | [], _ => rfl
  | p :: P, n => by
    have ih := numbered_sh P (n + 1)
    have e : n + 2 + 1 = n + 1 + 2 := by omega
    simp only [numbered]
    rw [e]
    rw [List.filterMap_cons, List.filterMap_cons, line_sh, ih]
    cases lineOf (n, bodyOf p) with
    | none => rfl
    | some x => rfl
theorem lines_with (l : List UInt8) : linesIn (preO ++ l ++ postO) = (linesIn l).map shL := by
  have h1 : (numbered 1 preP).filterMap lineOf = [] := by decide
  have h2 : ∀ n : Int, (numbered n postP).filterMap lineOf = [] := by
    intro n
    have t1 : trim (bodyOf [9, 35, 32, 97, 110, 111, 116, 104, 101, 114, 32, 111, 110, 101]) = [] := by decide
    have t2 : trim (bodyOf [32]) = [] := by decide
    have t3 : trim (bodyOf []) = [] := by decide
    simp [postP, numbered, lineOf, t1, t2, t3]
  unfold linesIn
  rw [cut_with, numbered_append, numbered_append, List.filterMap_append, List.filterMap_append, h1, h2, List.nil_append, List.append_nil]
  exact numbered_sh _ 1
def shR (r : Res) : Res := ⟨r.rows, r.err, if r.err = 0 then r.num else r.num + 2⟩
theorem ref_sh : ∀ (L : List Ln) (out : List Pr), refP out (L.map shL) = shR (refP out L)
  | [], out => by rw [List.map_nil, refP]; rfl
  | x :: t, out => by
    rw [List.map_cons, refP.eq_def, refP.eq_def out (x :: t)]
    simp only []
    have e1 : (shL x).2 = x.2 := rfl
    have e2 : (shL x).1 = x.1 + 2 := rfl
    rw [e1, e2]
    by_cases h1 : ¬ rowErr x.2 = 0
    · rw [if_pos h1, if_pos h1]; simp [shR, h1]
    rw [if_neg h1, if_neg h1]
    by_cases h2 : twice out (rowVal x.2) = true
    · rw [if_pos h2, if_pos h2]; simp [shR]
    rw [if_neg h2, if_neg h2]
    by_cases h3 : namedB (fld x.2 1) nmF = true
    · rw [if_pos h3, if_pos h3]
      cases t with
      | nil => simp [shR]
      | cons y t' =>
        rw [List.map_cons]
        simp only []
        have f1 : (shL y).2 = y.2 := rfl
        have f2 : (shL y).1 = y.1 + 2 := rfl
        rw [f1, f2]
        by_cases h4 : ¬ rowErr y.2 = 0
        · rw [if_pos h4, if_pos h4]; simp [shR, h4]
        rw [if_neg h4, if_neg h4]
        by_cases h5 : joinB x.2 y.2 = false
        · rw [if_pos h5, if_pos h5]; simp [shR]
        rw [if_neg h5, if_neg h5]
        exact ref_sh t' _
    · rw [if_neg h3, if_neg h3]
      exact ref_sh t _
theorem parse_with (l : List UInt8) : parseOf (linesIn (preO ++ l ++ postO)) = shR (parseOf (linesIn l)) := by
  rw [lines_with]
  exact ref_sh _ _
theorem num_in : ∀ (L : List Ln) (out : List Pr), (refP out L).num = 0 ∨ ∃ x ∈ L, (refP out L).num = x.1
  | [], out => by rw [refP]; exact .inl rfl
  | x :: t, out => by
    rw [refP.eq_def]
    simp only []
    split
    · exact .inr ⟨x, by simp, rfl⟩
    split
    · exact .inr ⟨x, by simp, rfl⟩
    split
    · cases t with
      | nil => exact .inr ⟨x, by simp, rfl⟩
      | cons y t' =>
        simp only []
        split
        · exact .inr ⟨y, by simp, rfl⟩
        split
        · exact .inr ⟨x, by simp, rfl⟩
        rcases num_in t' (out ++ [{ rowVal x.2 with b := (rowVal y.2).a }]) with h | ⟨z, hz, h⟩
        · exact .inl h
        · exact .inr ⟨z, by simp [hz], h⟩
    · rcases num_in t (out ++ [rowVal x.2]) with h | ⟨z, hz, h⟩
      · exact .inl h
      · exact .inr ⟨z, by simp [hz], h⟩
theorem numbered_num : ∀ (P : List (List UInt8)) (n : Int) (x : Int × List UInt8), x ∈ numbered n P → n ≤ x.1 ∧ x.1 < n + P.length
  | [], _, _, h => by simp [numbered] at h
  | p :: P, n, x, h => by
    simp only [numbered, List.mem_cons] at h
    rw [List.length_cons]
    push_cast
    rcases h with rfl | h
    · exact ⟨Int.le_refl _, by show n < _; omega⟩
    · have := numbered_num P (n + 1) x h
      omega
theorem num_bound (l : List UInt8) : 0 ≤ (parseOf (linesIn l)).num ∧ (parseOf (linesIn l)).num ≤ l.length + 1 := by
  rcases num_in (linesIn l) [] with h | ⟨x, hx, h⟩
  · unfold parseOf; rw [h]; omega
  · unfold parseOf
    rw [h]
    unfold linesIn at hx
    rw [List.mem_filterMap] at hx
    obtain ⟨y, hy, e⟩ := hx
    have h1 := numbered_num _ 1 y hy
    have h2 := cutAll_length 10 l
    have h3 : x.1 = y.1 := by
      unfold lineOf at e
      split at e
      · cases e
      · cases e; rfl
    omega
/-- The octets of a text, laid as a row. -/
theorem bytes_octs (w : World) (l : List UInt8) : ∃ (c : Nat) (o : Obj), (convert 9 22 (.string (bs l))).run Tryd.prog w = .ok (.slice (some ⟨w.heap.size, 0, none⟩) l.length c) ((w.alloc o).drew) ∧ Octs ((w.alloc o).drew) (some ⟨w.heap.size, 0, none⟩) l.length l := by
  suffices hh : ∃ (c : Nat) (o : Obj), (convert 9 22 (.string (bs l))).run Tryd.prog w = .ok (.slice (some ⟨w.heap.size, 0, none⟩) l.length c) (w.drew.alloc o) ∧ Octs (w.drew.alloc o) (some ⟨w.heap.size, 0, none⟩) l.length l from hh
  have h := run_bytes_of_string (P := Tryd.prog) w 9 22 5 (bs l) Tryd.underlying9 Tryd.underlying22 Tryd.underlying5
  rw [bs_size] at h
  refine ⟨_, _, h, ?_⟩
  refine ⟨by unfold nums; rw [List.length_map, ints_length], fun _ => ⟨w.heap.size, 0, rfl, by simp, fun j v hj => ?_⟩⟩
  have hjl : j < l.length := by
    have := (List.getElem?_eq_some_iff.1 hj).1
    unfold nums at this
    rwa [List.length_map, ints_length] at this
  have hh := World.alloc_heap_new w.drew (.cells (bytesRow (bs l) (grownCap w l.length 0 5)) 5 ((bytesRow (bs l) (grownCap w l.length 0 5)).size, (bytesRow (bs l) (grownCap w l.length 0 5)).size + 1))
  rw [cell_of_row _ w.heap.size _ _ 5 _ hh, Nat.zero_add]
  unfold bytesRow
  rw [Array.getElem?_append_left (by rw [Array.size_map]; show j < (bs l).data.size; simp [bs]; exact hjl)]
  unfold nums ints at hj
  rw [List.map_map, List.getElem?_map, List.getElem?_eq_getElem hjl] at hj
  rw [Array.getElem?_map]
  have e : (bs l).data[j]? = some l[j] := by simp [bs, hjl]
  rw [e]
  exact hj
end Go.Proofs.YtfmkhfjdihfppaaDoor
