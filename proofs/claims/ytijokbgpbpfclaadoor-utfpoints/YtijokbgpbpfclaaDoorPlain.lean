/- Plain words: a slice that reads as a list of numbers, the order of two lists of numbers, small letters, scalars; no program is spoken of. -/
import Derived.WalkKit
import Derived.Lib.Hide
import Derived.Deep.Draws
namespace Go.Proofs.YtijokbgpbpfclaaDoor
open Go.RowKit

/-- The slice value with address A and length n reads, in w, as the numbers zs of kind k. -/
def Nums (k : IntKind) (w : World) (A : Option Addr) (n : Nat) (zs : List Int) : Prop :=
  zs.length = n ∧ (0 < n → ∃ b off, A = some ⟨b, off, none⟩ ∧ b < w.heap.size ∧ ∀ j, j < n → w.cell? ⟨b, off + j, none⟩ = some (.int k (zs.getD j 0)))

theorem Nums.below {k : IntKind} {w w' : World} {A : Option Addr} {n : Nat} {zs : List Int} (h : Nums k w A n zs) (hb : Below w.heap.size w w') : Nums k w' A n zs := by
  refine ⟨h.1, fun hn => ?_⟩
  obtain ⟨b, off, rfl, hlt, hc⟩ := h.2 hn
  exact ⟨b, off, rfl, Nat.lt_of_lt_of_le hlt hb.size, fun j hj => (hb.cell (p := ⟨b, off + j, none⟩) hlt).trans (hc j hj)⟩

theorem Nums.drewN {k : IntKind} {w : World} {A : Option Addr} {n : Nat} {zs : List Int} (h : Nums k w A n zs) (m : Nat) : Nums k (w.drewN m) A n zs := h

theorem below_drewN {B : Nat} {a w : World} (h : Below B a w) (q : Nat) : Below B a (w.drewN q) := ⟨h.os, h.tape, h.output, h.size, h.block⟩

/-- -1, 0, 1: ahead, the same, behind. -/
def lexc : List Int → List Int → Int
  | [], [] => 0
  | [], _ :: _ => -1
  | _ :: _, [] => 1
  | x :: xs, y :: ys => if x < y then -1 else if y < x then 1 else lexc xs ys

theorem lexc_three : ∀ a b : List Int, lexc a b = -1 ∨ lexc a b = 0 ∨ lexc a b = 1
  | [], [] => by simp [lexc]
  | [], _ :: _ => by simp [lexc]
  | _ :: _, [] => by simp [lexc]
  | x :: xs, y :: ys => by
    unfold lexc
    split
    · exact .inl rfl
    · split
      · exact .inr (.inr rfl)
      · exact lexc_three xs ys

theorem lexc_neg : ∀ a b : List Int, lexc b a = - lexc a b
  | [], [] => by simp [lexc]
  | [], _ :: _ => by simp [lexc]
  | _ :: _, [] => by simp [lexc]
  | x :: xs, y :: ys => by
    unfold lexc
    have := lexc_neg xs ys
    split <;> split <;> (try split) <;> first | omega | simp_all

theorem lexc_self : ∀ a : List Int, lexc a a = 0
  | [] => by simp [lexc]
  | x :: xs => by simp [lexc, lexc_self xs]

theorem lexc_eq : ∀ a b : List Int, lexc a b = 0 → a = b
  | [], [], _ => rfl
  | [], _ :: _, h => by simp [lexc] at h
  | _ :: _, [], h => by simp [lexc] at h
  | x :: xs, y :: ys, h => by
    unfold lexc at h
    split at h
    · simp at h
    · split at h
      · simp at h
      · rw [lexc_eq xs ys h, show x = y by omega]

theorem drop_at (a : List Int) (k : Nat) (h : k < a.length) : a.drop k = a.getD k 0 :: a.drop (k + 1) := by
  rw [List.drop_eq_getElem_cons h]
  simp [List.getD_eq_getElem?_getD, List.getElem?_eq_getElem h]

/-- What a round of the comparing loop tells. -/
theorem lexc_lt (a b : List Int) (k : Nat) (ha : k < a.length) (hb : k < b.length) (h : lexc a b = lexc (a.drop k) (b.drop k)) (hx : a.getD k 0 < b.getD k 0) : lexc a b = -1 := by
  rw [h, drop_at a k ha, drop_at b k hb, lexc, if_pos hx]
theorem lexc_gt (a b : List Int) (k : Nat) (ha : k < a.length) (hb : k < b.length) (h : lexc a b = lexc (a.drop k) (b.drop k)) (hx : b.getD k 0 < a.getD k 0) : lexc a b = 1 := by
  rw [h, drop_at a k ha, drop_at b k hb, lexc, if_neg (by omega), if_pos hx]
theorem lexc_on (a b : List Int) (k : Nat) (ha : k < a.length) (hb : k < b.length) (h : lexc a b = lexc (a.drop k) (b.drop k)) (hx : a.getD k 0 = b.getD k 0) : lexc a b = lexc (a.drop (k + 1)) (b.drop (k + 1)) := by
  rw [h, drop_at a k ha, drop_at b k hb, lexc, if_neg (by omega), if_neg (by omega)]
theorem lexc_end_lt (a b : List Int) (k : Nat) (ha : k = a.length) (hb : k < b.length) (h : lexc a b = lexc (a.drop k) (b.drop k)) : lexc a b = -1 := by
  rw [h, drop_at b k hb, List.drop_of_length_le (by omega), lexc]
theorem lexc_end_gt (a b : List Int) (k : Nat) (ha : k < a.length) (hb : k = b.length) (h : lexc a b = lexc (a.drop k) (b.drop k)) : lexc a b = 1 := by
  rw [h, drop_at a k ha, List.drop_of_length_le (l := b) (by omega), lexc]
theorem lexc_end (a b : List Int) (k : Nat) (ha : k = a.length) (hb : k = b.length) (h : lexc a b = lexc (a.drop k) (b.drop k)) : lexc a b = 0 := by
  rw [h, List.drop_of_length_le (l := a) (by omega), List.drop_of_length_le (l := b) (by omega), lexc]

def lowI (c : Int) : Int := if 65 ≤ c ∧ c ≤ 90 then c + 32 else c
def scal (c : Int) : Bool := decide (0 ≤ c ∧ c ≤ 1114111 ∧ (c < 55296 ∨ 57343 < c))
def asc (l : List Int) : Bool := l.all fun c => decide (0 ≤ c ∧ c ≤ 127)

theorem scal_pos {c : Int} (h : 0 ≤ c ∧ c ≤ 1114111 ∧ (c < 55296 ∨ 57343 < c)) : scal c = true := decide_eq_true h
theorem scal_neg {c : Int} (h : ¬ (0 ≤ c ∧ c ≤ 1114111 ∧ (c < 55296 ∨ 57343 < c))) : scal c = false := decide_eq_false h
theorem lowI_pos {c : Int} (h : 65 ≤ c ∧ c ≤ 90) : lowI c = c + 32 := if_pos h
theorem lowI_neg {c : Int} (h : ¬ (65 ≤ c ∧ c ≤ 90)) : lowI c = c := if_neg h

theorem asc_bad (l : List Int) (k : Nat) (hk : k < l.length) (h : ¬ (0 ≤ l.getD k 0 ∧ l.getD k 0 ≤ 127)) : asc l = false := by
  unfold asc
  rw [List.all_eq_false]
  refine ⟨l.getD k 0, ?_, by simpa using h⟩
  simp [List.getD_eq_getElem?_getD, List.getElem?_eq_getElem hk]
theorem asc_all (l : List Int) (h : ∀ k, k < l.length → 0 ≤ l.getD k 0 ∧ l.getD k 0 ≤ 127) : asc l = true := by
  unfold asc
  rw [List.all_eq_true]
  intro x hx
  obtain ⟨k, hk, rfl⟩ := List.getElem_of_mem hx
  have := h k hk
  simpa [List.getD_eq_getElem?_getD, List.getElem?_eq_getElem hk] using this

theorem ret_int {k : IntKind} {a b : Int} (h : a = b) : Ending.returned (.int k a) = .returned (.int k b) := by rw [h]
theorem ret_bool {a b : Bool} (h : a = b) : Ending.returned (.bool a) = .returned (.bool b) := by rw [h]
end Go.Proofs.YtijokbgpbpfclaaDoor
