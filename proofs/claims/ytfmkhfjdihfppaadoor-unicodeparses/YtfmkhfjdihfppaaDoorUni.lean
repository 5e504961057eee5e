/- Plain words: what a line says, and what a file says, as the document reads it and as the program reads it; no program is spoken of. -/
/- The cells of a line's fields; no program is spoken of. -/
import Derived.Test.YtfmkhfjdihfppaaDoorPcs
import Derived.Test.YtfmkhfjdihfppaaDoorHex
import Derived.Test.YtfmkhfjdihfppaaDoorWords
namespace Go.Proofs.YtfmkhfjdihfppaaDoor
open Go.RowKit

/-- A row. -/
structure Pr where
  a : Int
  b : Int
  gc : List UInt8
  ccc : Int
  bd : List UInt8
  dec : List Nat
def pr0 : Pr := ⟨0, 0, [], 0, [], []⟩
def pI : Option Nat → Int
  | some c => c
  | none => -1
def fld (f : List (List UInt8)) (k : Nat) : List UInt8 := f.getD k []
/-- It begins with <. -/
def tagB (l : List UInt8) : Bool := decide (1 ≤ l.length ∧ oct l 0 = 60)
def okB (f : List (List UInt8)) : Bool := gcB (fld f 2) && (decide (0 ≤ cccOf (fld f 3)) && bdB (fld f 4))
def decErr (l : List UInt8) : Int := if tagB l = true then 0 else match seqOf l with
  | none => 13
  | some cs => if 2 < cs.length then 16 else 0
def decVal (l : List UInt8) : List Nat := if tagB l = true then [] else (seqOf l).getD []
def rowErr (f : List (List UInt8)) : Int := if ¬ f.length = 15 then 12 else match point (fld f 0) with
  | none => 13
  | some _ => if okB f = false then 16 else decErr (fld f 5)
def rowVal (f : List (List UInt8)) : Pr := ⟨pI (point (fld f 0)), pI (point (fld f 0)), fld f 2, cccOf (fld f 3), fld f 4, decVal (fld f 5)⟩
/-- What the document's own Row hands back. -/
def rowRef (f : List (List UInt8)) : Pr := if rowErr f = 0 then rowVal f else pr0
theorem row_len {f : List (List UInt8)} (h : ¬ f.length = 15) : rowErr f = 12 := by unfold rowErr; rw [if_pos h]
theorem row_hex {f : List (List UInt8)} (h : f.length = 15) (hp : point (fld f 0) = none) : rowErr f = 13 := by unfold rowErr; rw [if_neg (by simp [h]), hp]
theorem row_val {f : List (List UInt8)} {c : Nat} (h : f.length = 15) (hp : point (fld f 0) = some c) (ho : okB f = false) : rowErr f = 16 := by unfold rowErr; rw [if_neg (by simp [h]), hp]; simp only [ho, if_true]
theorem row_dec {f : List (List UInt8)} {c : Nat} (h : f.length = 15) (hp : point (fld f 0) = some c) (ho : okB f = true) : rowErr f = decErr (fld f 5) := by unfold rowErr; rw [if_neg (by simp [h]), hp]; simp [ho]
theorem row_ok {f : List (List UInt8)} (h : rowErr f = 0) : f.length = 15 ∧ (∃ c, point (fld f 0) = some c) ∧ okB f = true ∧ decErr (fld f 5) = 0 := by
  unfold rowErr at h
  split at h
  · cases h
  · rename_i hl
    split at h
    · cases h
    · rename_i c hc
      split at h
      · cases h
      · rename_i ho
        exact ⟨by omega, ⟨c, hc⟩, by simpa using ho, h⟩
theorem dec_two {l : List UInt8} (h : decErr l = 0) : (decVal l).length ≤ 2 := by
  unfold decErr at h
  unfold decVal
  split
  · simp
  · rename_i ht
    rw [if_neg ht] at h
    cases hs : seqOf l with
    | none => rw [hs] at h; cases h
    | some cs =>
      rw [hs] at h
      simp only at h
      split at h
      · cases h
      · simp; omega
theorem point_range {l : List UInt8} {c : Nat} (h : point l = some c) : c ≤ 1114111 := by
  unfold point at h
  cases hh : hexv 0 l with
  | none => rw [hh] at h; cases h
  | some x =>
    rw [hh, Option.bind_some] at h
    split at h
    · rename_i hc
      cases h
      exact hc.2.1
    · cases h

def nmF : List UInt8 := [44, 32, 70, 105, 114, 115, 116, 62]
def nmL : List UInt8 := [44, 32, 76, 97, 115, 116, 62]
/-- A line whose name is that of a range's first one, and the next one, are a range. -/
def joinB (f g : List (List UInt8)) : Bool :=
  namedB (fld g 1) nmL && (decide ((rowVal f).gc = (rowVal g).gc) && (decide ((rowVal f).ccc = (rowVal g).ccc) && (decide ((rowVal f).bd = (rowVal g).bd) && (decide (fld f 5 = []) && (decide (fld g 5 = []) && decide ((rowVal f).a < (rowVal g).a))))))

/-- What a file says: the rows, the error, the number of its line. -/
structure Res where
  rows : List Pr
  err : Int
  num : Int
def lastB : List Pr → Option Int
  | [] => none
  | [p] => some p.b
  | _ :: p :: t => lastB (p :: t)
theorem lastB_snoc : ∀ (l : List Pr) (p : Pr), lastB (l ++ [p]) = some p.b
  | [], _ => rfl
  | [_], _ => rfl
  | _ :: q :: t, p => lastB_snoc (q :: t) p
/-- Its code point is not above those ahead. -/
def twice (out : List Pr) (r : Pr) : Bool := match lastB out with
  | none => false
  | some b => decide (r.a ≤ b)
def refP : List Pr → List Ln → Res
  | out, [] => ⟨out, 0, 0⟩
  | out, x :: t =>
    if ¬ rowErr x.2 = 0 then ⟨[], rowErr x.2, x.1⟩ else
    if twice out (rowVal x.2) = true then ⟨[], 15, x.1⟩ else
    if namedB (fld x.2 1) nmF = true then
      match t with
      | [] => ⟨[], 14, x.1⟩
      | y :: t' => if ¬ rowErr y.2 = 0 then ⟨[], rowErr y.2, y.1⟩ else if joinB x.2 y.2 = false then ⟨[], 14, x.1⟩ else refP (out ++ [{ rowVal x.2 with b := (rowVal y.2).a }]) t'
    else refP (out ++ [rowVal x.2]) t
def parseOf (l : List Ln) : Res := refP [] l

/-- Where the program stands: an error; or the rows, and the first line of a range that is open. -/
inductive St where
  | bad (e n : Int)
  | at (rows : List Pr) (op : Option Ln)
def setB (l : List Pr) (b : Int) : List Pr := l.dropLast ++ (l.getLast?.map fun p => { p with b := b }).toList
def step : St → Ln → St
  | .bad e n, _ => .bad e n
  | .at out none, x =>
    if ¬ rowErr x.2 = 0 then .bad (rowErr x.2) x.1 else
    if twice out (rowVal x.2) = true then .bad 15 x.1 else
    .at (out ++ [rowVal x.2]) (if namedB (fld x.2 1) nmF = true then some x else none)
  | .at out (some x), y =>
    if ¬ rowErr y.2 = 0 then .bad (rowErr y.2) y.1 else
    if joinB x.2 y.2 = false then .bad 14 x.1 else .at (setB out (rowVal y.2).a) none
def fin : St → Res
  | .bad e n => ⟨[], e, n⟩
  | .at out none => ⟨out, 0, 0⟩
  | .at _ (some x) => ⟨[], 14, x.1⟩
theorem fold_bad (e n : Int) : ∀ l : List Ln, l.foldl step (.bad e n) = .bad e n
  | [] => rfl
  | _ :: t => fold_bad e n t
theorem setB_snoc (out : List Pr) (p : Pr) (b : Int) : setB (out ++ [p]) b = out ++ [{ p with b := b }] := by simp [setB]
theorem fold_ref : ∀ (l : List Ln) (out : List Pr), fin (l.foldl step (.at out none)) = refP out l
  | [], out => by simp [fin, refP]
  | x :: t, out => by
    rw [List.foldl_cons, refP.eq_def]
    simp only []
    simp only [step]
    by_cases h1 : ¬ rowErr x.2 = 0
    · rw [if_pos h1, if_pos h1, fold_bad]; rfl
    rw [if_neg h1, if_neg h1]
    by_cases h2 : twice out (rowVal x.2) = true
    · rw [if_pos h2, if_pos h2, fold_bad]; rfl
    rw [if_neg h2, if_neg h2]
    by_cases h3 : namedB (fld x.2 1) nmF = true
    · rw [if_pos h3, if_pos h3]
      cases t with
      | nil => rfl
      | cons y t' =>
        rw [List.foldl_cons]
        simp only [step]
        by_cases h4 : ¬ rowErr y.2 = 0
        · rw [if_pos h4, if_pos h4, fold_bad]; rfl
        rw [if_neg h4, if_neg h4]
        by_cases h5 : joinB x.2 y.2 = false
        · rw [if_pos h5, if_pos h5, fold_bad]; rfl
        rw [if_neg h5, if_neg h5, setB_snoc]
        exact fold_ref t' _
    · rw [if_neg h3, if_neg h3]
      exact fold_ref t _
theorem fold_parse (l : List Ln) : fin (l.foldl step (.at [] none)) = parseOf l := fold_ref l []
end Go.Proofs.YtfmkhfjdihfppaaDoor

namespace Go.Proofs.YtfmkhfjdihfppaaDoor
open Go.RowKit

theorem bs_emp (l : List UInt8) : (bs l).toList.isEmpty = decide (l = []) := by
  have e : (bs l).toList = l := by rw [Lib.toList_data, bs_data]
  rw [e, Bool.eq_iff_iff, decide_eq_true_eq, List.isEmpty_iff]
/-- The cells of a line's fields. -/
theorem flds {w : World} {F : Option Addr} {f : List (List UInt8)} {n : Nat} (h : Vals w F n (strs f)) (hn : n = 15) : ∃ b off, F = some ⟨b, off, none⟩ ∧ b < w.heap.size ∧ w.cell? ⟨b, off, none⟩ = some (.string (bs (fld f 0))) ∧ w.cell? ⟨b, off + 1, none⟩ = some (.string (bs (fld f 1))) ∧ w.cell? ⟨b, off + 2, none⟩ = some (.string (bs (fld f 2))) ∧ w.cell? ⟨b, off + 3, none⟩ = some (.string (bs (fld f 3))) ∧ w.cell? ⟨b, off + 4, none⟩ = some (.string (bs (fld f 4))) ∧ w.cell? ⟨b, off + 5, none⟩ = some (.string (bs (fld f 5))) := by
  have hl : f.length = n := by have := h.1; rwa [strs_length] at this
  obtain ⟨b, off, rfl, hlt, hc⟩ := h.2 (by omega)
  exact ⟨b, off, rfl, hlt, hc 0 _ (strs_get (by omega)), hc 1 _ (strs_get (by omega)), hc 2 _ (strs_get (by omega)), hc 3 _ (strs_get (by omega)), hc 4 _ (strs_get (by omega)), hc 5 _ (strs_get (by omega))⟩
theorem fld_len {f : List (List UInt8)} (h : ∀ x ∈ f, x.length ≤ 2000) (k : Nat) : (fld f k).length ≤ 2000 := by
  unfold fld
  rw [List.getD_eq_getElem?_getD]
  cases hk : f[k]? with
  | none => simp
  | some x => exact h x (List.mem_of_getElem? hk)

end Go.Proofs.YtfmkhfjdihfppaaDoor
