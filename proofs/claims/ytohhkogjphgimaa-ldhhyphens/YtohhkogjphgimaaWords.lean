/- Plain words: octets as lists, cutting, trimming, lines of data files; no program is spoken of. -/
import Derived.WalkKit
import Derived.Lib.Hide
import Derived.Deep.Draws
import Derived.Lib.SlTrimSet
import Derived.Lib.IndexMore
namespace Go.Proofs.Ytohhkogjphgimaa
open Go.RowKit

/-- A list of octets as a string. -/
def bs (l : List UInt8) : ByteArray := ⟨l.toArray⟩
theorem bs_size (l : List UInt8) : (bs l).size = l.length := by simp [bs, ByteArray.size]
theorem bs_of (s : ByteArray) : bs s.data.toList = s := rfl
theorem bs_data (l : List UInt8) : (bs l).data.toList = l := by simp [bs]
theorem bs_nil : bs [] = ⟨#[]⟩ := rfl
theorem bs_inj {l m : List UInt8} (h : bs l = bs m) : l = m := by
  have := congrArg (fun s : ByteArray => s.data.toList) h
  simpa [bs_data] using this
theorem bs_get (l : List UInt8) (k : Nat) (h : k < (bs l).size) : (bs l)[k]'h = l.getD k 0 := by
  have h' : k < l.length := by rwa [bs_size] at h
  simp [bs, List.getD_eq_getElem?_getD, List.getElem?_eq_getElem h']
  rfl
theorem bs_ext (l : List UInt8) (a b : Nat) : (bs l).extract a b = bs ((l.drop a).take (b - a)) := by
  unfold bs
  rw [ByteArray.extract_mk]
theorem bs_app (l m : List UInt8) : bs l ++ bs m = bs (l ++ m) := by
  show ByteArray.append _ _ = _
  unfold bs
  apply ByteArray.ext
  simp
/-- The octet at a place, as a number. -/
def oct (l : List UInt8) (k : Nat) : Int := ((l.getD k 0).toNat : Int)
theorem bs_oct (l : List UInt8) (k : Nat) : ∀ h, (((bs l)[k]'h).toNat : Int) = oct l k := fun h => by rw [bs_get]; rfl
theorem oct_range (l : List UInt8) (k : Nat) : 0 ≤ oct l k ∧ oct l k < 256 := by
  have := (l.getD k 0).toNat_lt
  unfold oct
  omega
theorem u8_int (a b : UInt8) : (a.toNat : Int) = b.toNat ↔ a = b := by
  constructor
  · intro h
    exact UInt8.toNat_inj.1 (by exact_mod_cast h)
  · rintro rfl; rfl
theorem ret_str {a b : ByteArray} (h : a = b) : Ending.returned (.string a) = .returned (.string b) := by rw [h]
theorem val_str {a b : ByteArray} (h : a = b) : Value.string a = .string b := by rw [h]
theorem val_int {k : IntKind} {a b : Int} (h : a = b) : Value.int k a = .int k b := by rw [h]
theorem ret_int {k : IntKind} {a b : Int} (h : a = b) : Ending.returned (.int k a) = .returned (.int k b) := by rw [h]
theorem ret_bool {a b : Bool} (h : a = b) : Ending.returned (.bool a) = .returned (.bool b) := by rw [h]
theorem below_drewN {B : Nat} {a w : World} (h : Below B a w) (q : Nat) : Below B a (w.drewN q) := ⟨h.os, h.tape, h.output, h.size, h.block⟩

/-! Blanks and tabs. -/
def sp (c : UInt8) : Bool := c == 32 || c == 9
def ltrim (l : List UInt8) : List UInt8 := l.dropWhile sp
def rtrim (l : List UInt8) : List UInt8 := (l.reverse.dropWhile sp).reverse
def trim (l : List UInt8) : List UInt8 := rtrim (ltrim l)
theorem ltrim_rtrim : ∀ l : List UInt8, ltrim (rtrim l) = rtrim (ltrim l)
  | [] => rfl
  | x :: l => by
    have ih := ltrim_rtrim l
    unfold ltrim rtrim at *
    rw [List.reverse_cons, List.dropWhile_append]
    cases hp : sp x with
    | true =>
      rw [List.dropWhile_cons_of_pos (by simp [hp])]
      by_cases he : (l.reverse.dropWhile sp).isEmpty
      · rw [if_pos he]
        rw [List.isEmpty_iff] at he
        rw [List.dropWhile_cons_of_pos (by simp [hp])]
        rw [he] at ih
        rw [← ih]
        rfl
      · rw [if_neg he, List.reverse_append, List.reverse_singleton, List.singleton_append, List.dropWhile_cons_of_pos (by simp [hp]), ih, List.dropWhile_cons_of_pos (by simp [hp])]
    | false =>
      rw [List.dropWhile_cons_of_neg (by simp [hp]) (l := l), List.reverse_cons, List.dropWhile_append]
      by_cases he : (l.reverse.dropWhile sp).isEmpty
      · rw [if_pos he]
        rw [List.dropWhile_cons_of_neg (by simp [hp])]
        simp [hp]
      · rw [if_neg he, List.reverse_append, List.reverse_singleton, List.singleton_append, List.dropWhile_cons_of_neg (by simp [hp])]
theorem sp_contains (c : UInt8) : ([32, 9] : List UInt8).contains c = sp c := by
  simp [sp, List.contains, List.elem, BEq.beq]
  by_cases h : c = 32
  · simp [h]
  · by_cases h' : c = 9
    · simp [h']
    · simp [h, h']
theorem trimS_eq (l : List UInt8) : Lib.trimS l [32, 9] = trim l := by
  unfold Lib.trimS Lib.trimLeftS Lib.trimRightS
  have e : (fun x => ([32, 9] : List UInt8).contains x) = sp := funext sp_contains
  rw [e]
  exact ltrim_rtrim l
theorem trim_length (l : List UInt8) : (trim l).length ≤ l.length := by
  unfold trim rtrim ltrim
  rw [List.length_reverse]
  have h1 := (List.dropWhile_sublist sp (l := (l.dropWhile sp).reverse)).length_le
  have h2 := (List.dropWhile_sublist sp (l := l)).length_le
  rw [List.length_reverse] at h1
  omega
theorem ltrim_cons_pos {x : UInt8} {l : List UInt8} (h : sp x = true) : ltrim (x :: l) = ltrim l := List.dropWhile_cons_of_pos h
theorem ltrim_cons_neg {x : UInt8} {l : List UInt8} (h : sp x = false) : ltrim (x :: l) = x :: l := List.dropWhile_cons_of_neg (by simp [h])
theorem rtrim_snoc_pos {x : UInt8} {l : List UInt8} (h : sp x = true) : rtrim (l ++ [x]) = rtrim l := by
  unfold rtrim
  rw [List.reverse_append, List.reverse_singleton, List.singleton_append, List.dropWhile_cons_of_pos h]
theorem rtrim_snoc_neg {x : UInt8} {l : List UInt8} (h : sp x = false) : rtrim (l ++ [x]) = l ++ [x] := by
  unfold rtrim
  rw [List.reverse_append, List.reverse_singleton, List.singleton_append, List.dropWhile_cons_of_neg (by simp [h]), List.reverse_cons, List.reverse_reverse]

/-! Cutting by an octet. -/
def glue (p : List UInt8) : List (List UInt8) → List (List UInt8)
  | [] => [p]
  | h :: t => (p ++ h) :: t
def cutAll (c : UInt8) : List UInt8 → List (List UInt8)
  | [] => [[]]
  | x :: l => if x = c then [] :: cutAll c l else glue [x] (cutAll c l)
theorem cutAll_ne (c : UInt8) : ∀ l, cutAll c l ≠ []
  | [] => by simp [cutAll]
  | x :: l => by
    unfold cutAll
    split
    · simp
    · cases cutAll c l <;> simp [glue]
theorem glue_nil {l : List (List UInt8)} (h : l ≠ []) : glue [] l = l := by cases l <;> simp_all [glue]
theorem glue_glue (p q : List UInt8) {l : List (List UInt8)} (h : l ≠ []) : glue p (glue q l) = glue (p ++ q) l := by cases l <;> simp_all [glue]
theorem cutAll_at (c : UInt8) (l : List UInt8) (k : Nat) (hk : k < l.length) : cutAll c (l.drop k) = if l.getD k 0 = c then [] :: cutAll c (l.drop (k + 1)) else glue [l.getD k 0] (cutAll c (l.drop (k + 1))) := by
  rw [List.drop_eq_getElem_cons hk, cutAll]
  simp [List.getD_eq_getElem?_getD, List.getElem?_eq_getElem hk]
theorem cutAll_none (c : UInt8) : ∀ l : List UInt8, c ∉ l → cutAll c l = [l]
  | [], _ => rfl
  | x :: l, h => by
    simp at h
    rw [cutAll, if_neg (fun e => h.1 e.symm), cutAll_none c l h.2]
    rfl
theorem cutAll_some (c : UInt8) : ∀ (a b : List UInt8), c ∉ a → cutAll c (a ++ c :: b) = a :: cutAll c b
  | [], b, _ => by simp [cutAll]
  | x :: a, b, h => by
    simp at h
    rw [List.cons_append, cutAll, if_neg (fun e => h.1 e.symm), cutAll_some c a b h.2]
    rfl
theorem cutAll_length (c : UInt8) : ∀ l : List UInt8, (cutAll c l).length ≤ l.length + 1
  | [] => by simp [cutAll]
  | x :: l => by
    have := cutAll_length c l
    unfold cutAll
    split
    · simp; omega
    · cases h : cutAll c l with
      | nil => simp [glue]
      | cons a t => rw [h] at this; simp [glue] at this ⊢; omega
/-- Ahead of and behind the first c. -/
theorem split_at (c : UInt8) : ∀ l : List UInt8, c ∈ l → ∃ a b, l = a ++ c :: b ∧ c ∉ a
  | [], h => by simp at h
  | x :: l, h => by
    by_cases e : x = c
    · exact ⟨[], l, by simp [e], by simp⟩
    · obtain ⟨a, b, e1, e2⟩ := split_at c l (by simp at h; rcases h with h | h; exact absurd h.symm e; exact h)
      exact ⟨x :: a, b, by simp [e1], by simp [e2, Ne.symm e]⟩
theorem index_one (c : UInt8) : ∀ a b : List UInt8, c ∉ a → Lib.index (a ++ c :: b) [c] = a.length
  | [], b, _ => by simp [Lib.index, List.isPrefixOf]
  | x :: a, b, h => by
    simp at h
    have ih := index_one c a b h.2
    rw [List.cons_append, Lib.index, if_neg (by simp [List.isPrefixOf, h.1])]
    rw [ih, if_neg (by simp)]
    simp
theorem index_no (c : UInt8) : ∀ l : List UInt8, c ∉ l → Lib.index l [c] = -1
  | [], _ => by simp [Lib.index]
  | x :: l, h => by
    simp at h
    have ih := index_no c l h.2
    rw [Lib.index, if_neg (by simp [List.isPrefixOf, h.1]), ih]
    rfl

/-! Lines. -/
/-- Without a last 0D. -/
def noCR (l : List UInt8) : List UInt8 := if l.getLast? = some 13 then l.dropLast else l
def bodyOf (l : List UInt8) : List UInt8 := (cutAll 35 (noCR l)).headD []
def fieldsOf (l : List UInt8) : List (List UInt8) := (cutAll 59 l).map trim
abbrev Ln := Int × List (List UInt8)
/-- A body that has fields. -/
def lineOf (x : Int × List UInt8) : Option Ln := if trim x.2 = [] then none else some (x.1, fieldsOf x.2)
def numbered : Int → List (List UInt8) → List (Int × List UInt8)
  | _, [] => []
  | n, l :: t => (n, bodyOf l) :: numbered (n + 1) t
def linesIn (l : List UInt8) : List Ln := (numbered 1 (cutAll 10 l)).filterMap lineOf
theorem numbered_append : ∀ (n : Int) (a b : List (List UInt8)), numbered n (a ++ b) = numbered n a ++ numbered (n + a.length) b
  | n, [], b => by simp [numbered]
  | n, x :: a, b => by
    rw [List.cons_append, numbered, numbered_append, numbered, List.cons_append, List.length_cons]
    congr 3
    push_cast
    omega
theorem numbered_length : ∀ (n : Int) (a : List (List UInt8)), (numbered n a).length = a.length
  | _, [] => rfl
  | n, x :: a => by simp [numbered, numbered_length]
theorem line_empty (n : Int) : lineOf (n, bodyOf []) = none := by
  have : trim (bodyOf []) = [] := by decide
  simp [lineOf, this]
/-- The lines up to an end with nothing behind. -/
def pieces (l : List UInt8) : List (List UInt8) := if (cutAll 10 l).getLast? = some [] then (cutAll 10 l).dropLast else cutAll 10 l
theorem pieces_nil : pieces [] = [] := rfl
theorem pieces_some {a b : List UInt8} (h : (10 : UInt8) ∉ a) : pieces (a ++ 10 :: b) = a :: pieces b := by
  unfold pieces
  rw [cutAll_some 10 a b h]
  cases e : cutAll 10 b with
  | nil => exact absurd e (cutAll_ne 10 b)
  | cons x t =>
    rw [List.getLast?_cons_cons]
    split
    · rw [List.dropLast_cons_cons]
    · rfl
theorem pieces_none {l : List UInt8} (h : (10 : UInt8) ∉ l) (hl : l ≠ []) : pieces l = [l] := by
  unfold pieces
  rw [cutAll_none 10 l h]
  simp [hl]
theorem pieces_length (l : List UInt8) : (pieces l).length ≤ l.length + 1 := by
  have := cutAll_length 10 l
  unfold pieces
  split
  · rw [List.length_dropLast]; omega
  · exact this
theorem lines_pieces (l : List UInt8) : (numbered 1 (pieces l)).filterMap lineOf = linesIn l := by
  unfold linesIn pieces
  split
  · rename_i h
    have e : cutAll 10 l = (cutAll 10 l).dropLast ++ [[]] := by
      rw [List.getLast?_eq_some_iff] at h
      obtain ⟨ys, h⟩ := h
      rw [h]
      simp
    rw [e, numbered_append, List.filterMap_append]
    simp [numbered, line_empty]
  · rfl
end Go.Proofs.Ytohhkogjphgimaa
