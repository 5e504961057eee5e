/- Plain words: octets as lists, cutting, trimming, lines of data files; no program is spoken of. -/
/- A range over a function whose iterator has cells of its own (captured variables that it writes) or goes through another iterator itself: one law for who goes through. No program is spoken of. -/
/- Slices that read as lists of values; rows of the call's own, and what append makes of them; no program is spoken of. -/
/- What the document's own Lines hands back. -/
import Derived.WalkKit
import Derived.Lib.Hide
import Derived.Deep.Draws
import Derived.Lib.SlTrimSet
import Derived.Lib.IndexMore
import Derived.RangeFuncNested
import Derived.RangeFuncBound
import Derived.RangeFuncCalls
import Derived.RangeFuncLeaves
import Derived.Lib.FrozenHead
import Derived.Laws.OwnMore
import Derived.OwnWalkIn
import Derived.Test.YtfakohoamgogoaaGreatDoorProg
import Derived.BigQuiet
namespace Go.Proofs.YtfakohoamgogoaaGreatDoor
open Go.RowKit

/-- A list of octets as a string. -/
def bs (l : List UInt8) : ByteArray := ⟨l.toArray⟩
theorem bs_size (l : List UInt8) : (bs l).size = l.length := by simp [bs, ByteArray.size]
theorem bs_of (s : ByteArray) : bs s.data.toList = s := rfl
theorem bs_data (l : List UInt8) : (bs l).data.toList = l := by simp [bs]
theorem bs_nil : bs [] = ⟨#[]⟩ := rfl
theorem bs_inj {l m : List UInt8} (h : bs l = bs m) : l = m := by
  have := congrArg (fun s : ByteArray => s.data.toList) h
  simpa [bs_data] using this
theorem bs_get (l : List UInt8) (k : Nat) (h : k < (bs l).size) : (bs l)[k]'h = l.getD k 0 := by
  have h' : k < l.length := by rwa [bs_size] at h
  simp [bs, List.getD_eq_getElem?_getD, List.getElem?_eq_getElem h']
  rfl
theorem bs_ext (l : List UInt8) (a b : Nat) : (bs l).extract a b = bs ((l.drop a).take (b - a)) := by
  unfold bs
  rw [ByteArray.extract_mk]
/-- The octet at a place, as a number. -/
def oct (l : List UInt8) (k : Nat) : Int := ((l.getD k 0).toNat : Int)
theorem bs_oct (l : List UInt8) (k : Nat) : ∀ h, (((bs l)[k]'h).toNat : Int) = oct l k := fun h => by rw [bs_get]; rfl
theorem oct_range (l : List UInt8) (k : Nat) : 0 ≤ oct l k ∧ oct l k < 256 := by
  have := (l.getD k 0).toNat_lt
  unfold oct
  omega
theorem val_int {k : IntKind} {a b : Int} (h : a = b) : Value.int k a = .int k b := by rw [h]
theorem ret_int {k : IntKind} {a b : Int} (h : a = b) : Ending.returned (.int k a) = .returned (.int k b) := by rw [h]
theorem below_drewN {B : Nat} {a w : World} (h : Below B a w) (q : Nat) : Below B a (w.drewN q) := ⟨h.os, h.tape, h.output, h.size, h.block⟩

/-! Blanks and tabs. -/
def sp (c : UInt8) : Bool := c == 32 || c == 9
def ltrim (l : List UInt8) : List UInt8 := l.dropWhile sp
def rtrim (l : List UInt8) : List UInt8 := (l.reverse.dropWhile sp).reverse
def trim (l : List UInt8) : List UInt8 := rtrim (ltrim l)
theorem ltrim_rtrim : ∀ l : List UInt8, ltrim (rtrim l) = rtrim (ltrim l)
  | [] => rfl
  | x :: l => by
    have ih := ltrim_rtrim l
    unfold ltrim rtrim at *
    rw [List.reverse_cons, List.dropWhile_append]
    cases hp : sp x with
    | true =>
      rw [List.dropWhile_cons_of_pos (by simp [hp])]
      by_cases he : (l.reverse.dropWhile sp).isEmpty
      · rw [if_pos he]
        rw [List.isEmpty_iff] at he
        rw [List.dropWhile_cons_of_pos (by simp [hp])]
        rw [he] at ih
        rw [← ih]
        rfl
      · rw [if_neg he, List.reverse_append, List.reverse_singleton, List.singleton_append, List.dropWhile_cons_of_pos (by simp [hp]), ih, List.dropWhile_cons_of_pos (by simp [hp])]
    | false =>
      rw [List.dropWhile_cons_of_neg (by simp [hp]) (l := l), List.reverse_cons, List.dropWhile_append]
      by_cases he : (l.reverse.dropWhile sp).isEmpty
      · rw [if_pos he]
        rw [List.dropWhile_cons_of_neg (by simp [hp])]
        simp [hp]
      · rw [if_neg he, List.reverse_append, List.reverse_singleton, List.singleton_append, List.dropWhile_cons_of_neg (by simp [hp])]
theorem sp_contains (c : UInt8) : ([32, 9] : List UInt8).contains c = sp c := by
  simp [sp, List.contains, List.elem, BEq.beq]
  by_cases h : c = 32
  · simp [h]
  · by_cases h' : c = 9
    · simp [h']
    · simp [h, h']
theorem trimS_eq (l : List UInt8) : Lib.trimS l [32, 9] = trim l := by
  unfold Lib.trimS Lib.trimLeftS Lib.trimRightS
  have e : (fun x => ([32, 9] : List UInt8).contains x) = sp := funext sp_contains
  rw [e]
  exact ltrim_rtrim l
theorem trim_length (l : List UInt8) : (trim l).length ≤ l.length := by
  unfold trim rtrim ltrim
  rw [List.length_reverse]
  have h1 := (List.dropWhile_sublist sp (l := (l.dropWhile sp).reverse)).length_le
  have h2 := (List.dropWhile_sublist sp (l := l)).length_le
  rw [List.length_reverse] at h1
  omega
/-! Cutting by an octet. -/
def glue (p : List UInt8) : List (List UInt8) → List (List UInt8)
  | [] => [p]
  | h :: t => (p ++ h) :: t
def cutAll (c : UInt8) : List UInt8 → List (List UInt8)
  | [] => [[]]
  | x :: l => if x = c then [] :: cutAll c l else glue [x] (cutAll c l)
theorem cutAll_ne (c : UInt8) : ∀ l, cutAll c l ≠ []
  | [] => by simp [cutAll]
  | x :: l => by
    unfold cutAll
    split
    · simp
    · cases cutAll c l <;> simp [glue]
theorem cutAll_none (c : UInt8) : ∀ l : List UInt8, c ∉ l → cutAll c l = [l]
  | [], _ => rfl
  | x :: l, h => by
    simp at h
    rw [cutAll, if_neg (fun e => h.1 e.symm), cutAll_none c l h.2]
    rfl
theorem cutAll_some (c : UInt8) : ∀ (a b : List UInt8), c ∉ a → cutAll c (a ++ c :: b) = a :: cutAll c b
  | [], b, _ => by simp [cutAll]
  | x :: a, b, h => by
    simp at h
    rw [List.cons_append, cutAll, if_neg (fun e => h.1 e.symm), cutAll_some c a b h.2]
    rfl
theorem cutAll_length (c : UInt8) : ∀ l : List UInt8, (cutAll c l).length ≤ l.length + 1
  | [] => by simp [cutAll]
  | x :: l => by
    have := cutAll_length c l
    unfold cutAll
    split
    · simp; omega
    · cases h : cutAll c l with
      | nil => simp [glue]
      | cons a t => rw [h] at this; simp [glue] at this ⊢; omega
/-- Ahead of and behind the first c. -/
theorem split_at (c : UInt8) : ∀ l : List UInt8, c ∈ l → ∃ a b, l = a ++ c :: b ∧ c ∉ a
  | [], h => by simp at h
  | x :: l, h => by
    by_cases e : x = c
    · exact ⟨[], l, by simp [e], by simp⟩
    · obtain ⟨a, b, e1, e2⟩ := split_at c l (by simp at h; rcases h with h | h; exact absurd h.symm e; exact h)
      exact ⟨x :: a, b, by simp [e1], by simp [e2, Ne.symm e]⟩
theorem index_one (c : UInt8) : ∀ a b : List UInt8, c ∉ a → Lib.index (a ++ c :: b) [c] = a.length
  | [], b, _ => by simp [Lib.index, List.isPrefixOf]
  | x :: a, b, h => by
    simp at h
    have ih := index_one c a b h.2
    rw [List.cons_append, Lib.index, if_neg (by simp [List.isPrefixOf, h.1])]
    rw [ih, if_neg (by simp)]
    simp
theorem index_no (c : UInt8) : ∀ l : List UInt8, c ∉ l → Lib.index l [c] = -1
  | [], _ => by simp [Lib.index]
  | x :: l, h => by
    simp at h
    have ih := index_no c l h.2
    rw [Lib.index, if_neg (by simp [List.isPrefixOf, h.1]), ih]
    rfl

/-! Lines. -/
/-- Without a last 0D. -/
def noCR (l : List UInt8) : List UInt8 := if l.getLast? = some 13 then l.dropLast else l
def bodyOf (l : List UInt8) : List UInt8 := (cutAll 35 (noCR l)).headD []
def fieldsOf (l : List UInt8) : List (List UInt8) := (cutAll 59 l).map trim
abbrev Ln := Int × List (List UInt8)
/-- A body that has fields. -/
def lineOf (x : Int × List UInt8) : Option Ln := if trim x.2 = [] then none else some (x.1, fieldsOf x.2)
def numbered : Int → List (List UInt8) → List (Int × List UInt8)
  | _, [] => []
  | n, l :: t => (n, bodyOf l) :: numbered (n + 1) t
def linesIn (l : List UInt8) : List Ln := (numbered 1 (cutAll 10 l)).filterMap lineOf
theorem numbered_append : ∀ (n : Int) (a b : List (List UInt8)), numbered n (a ++ b) = numbered n a ++ numbered (n + a.length) b
  | n, [], b => by simp [numbered]
  | n, x :: a, b => by
    rw [List.cons_append, numbered, numbered_append, numbered, List.cons_append, List.length_cons]
    congr 3
    push_cast
    omega
theorem numbered_length : ∀ (n : Int) (a : List (List UInt8)), (numbered n a).length = a.length
  | _, [] => rfl
  | n, x :: a => by simp [numbered, numbered_length]
theorem line_empty (n : Int) : lineOf (n, bodyOf []) = none := by
  have : trim (bodyOf []) = [] := by decide
  simp [lineOf, this]
/-- The lines up to an end with nothing behind. -/
def pieces (l : List UInt8) : List (List UInt8) := if (cutAll 10 l).getLast? = some [] then (cutAll 10 l).dropLast else cutAll 10 l
theorem pieces_nil : pieces [] = [] := rfl
theorem pieces_some {a b : List UInt8} (h : (10 : UInt8) ∉ a) : pieces (a ++ 10 :: b) = a :: pieces b := by
  unfold pieces
  rw [cutAll_some 10 a b h]
  cases e : cutAll 10 b with
  | nil => exact absurd e (cutAll_ne 10 b)
  | cons x t =>
    rw [List.getLast?_cons_cons]
    split
    · rw [List.dropLast_cons_cons]
    · rfl
theorem pieces_none {l : List UInt8} (h : (10 : UInt8) ∉ l) (hl : l ≠ []) : pieces l = [l] := by
  unfold pieces
  rw [cutAll_none 10 l h]
  simp [hl]
theorem pieces_length (l : List UInt8) : (pieces l).length ≤ l.length + 1 := by
  have := cutAll_length 10 l
  unfold pieces
  split
  · rw [List.length_dropLast]; omega
  · exact this
theorem lines_pieces (l : List UInt8) : (numbered 1 (pieces l)).filterMap lineOf = linesIn l := by
  unfold linesIn pieces
  split
  · rename_i h
    have e : cutAll 10 l = (cutAll 10 l).dropLast ++ [[]] := by
      rw [List.getLast?_eq_some_iff] at h
      obtain ⟨ys, h⟩ := h
      rw [h]
      simp
    rw [e, numbered_append, List.filterMap_append]
    simp [numbered, line_empty]
  · rfl
end Go.Proofs.YtfakohoamgogoaaGreatDoor

namespace Go.Proofs.YtfakohoamgogoaaGreatDoor
open Go.RowKit

/-- The blocks of A that there were are as they were. -/
def Kept (A : Nat → Prop) (W W' : World) : Prop := W.heap.size ≤ W'.heap.size ∧ ∀ k, A k → k < W.heap.size → W'.heap[k]? = W.heap[k]?
theorem Kept.refl (A : Nat → Prop) (W : World) : Kept A W W := ⟨Nat.le_refl _, fun _ _ _ => rfl⟩
theorem Kept.trans {A : Nat → Prop} {W W1 W2 : World} (h : Kept A W W1) (k : Kept A W1 W2) : Kept A W W2 :=
  ⟨Nat.le_trans h.1 k.1, fun i hA hi => (k.2 i hA (Nat.lt_of_lt_of_le hi h.1)).trans (h.2 i hA hi)⟩
theorem Kept.mono {A A' : Nat → Prop} {W W' : World} (h : Kept A W W') (hA : ∀ k, A' k → A k) : Kept A' W W' := ⟨h.1, fun i hi hl => h.2 i (hA i hi) hl⟩
theorem Kept.of_below {A : Nat → Prop} {W W' : World} (h : Below W.heap.size W W') : Kept A W W' := ⟨h.size, fun k _ hk => h.block k hk⟩
theorem Kept.alloc {A : Nat → Prop} (W : World) (o : Obj) : Kept A W (W.alloc o) := .of_below ((Below.refl _ _).alloc (Nat.le_refl _) _)
theorem Kept.grown {A : Nat → Prop} {W W' : World} {row : Option Nat} (h : W.grownBy W' row) (hr : ∀ r, row = some r → ¬ A r) : Kept A W W' := ⟨h.size, fun k hA hk => h.block k hk (fun e => hr k e.symm hA)⟩
theorem Kept.setCell {A : Nat → Prop} (W : World) (b : Nat) (v : Value) (hb : ¬ A b) : Kept A W (W.setCell ⟨b, 0, none⟩ v) :=
  .grown (grownBy_setCell' W b v) (fun r e => by cases e; exact hb)
theorem Kept.putObj {A : Nat → Prop} (W : World) (l : Nat) (o : Obj) (hb : ¬ A l) : Kept A W (W.putObj l o) :=
  .grown (grownBy_putObj' W l o) (fun r e => by cases e; exact hb)
theorem Kept.cell {A : Nat → Prop} {W W' : World} {a : Addr} {v : Value} (h : Kept A W W') (hA : A a.block) (hc : W.cell? a = some v) : W'.cell? a = some v := by
  obtain ⟨o, ho, _⟩ := cells_of_cell hc
  exact (World.cell?_of_block (h.2 _ hA (Array.getElem?_eq_some_iff.1 ho).1)).trans hc

/-- J is not turned by what the iterator does: new blocks, cells of blocks from n₀ to n₁, and whatever is no cells from B on. -/
def Abide {β : Type} (n₀ n₁ B : Nat) (J : β → World → Prop) : Prop :=
  ∀ s W W' row, J s W → W.grownBy W' row → (∀ r, row = some r → (n₀ ≤ r ∧ r < n₁) ∨ (B ≤ r ∧ ∃ o : Obj, W.heap[r]? = some o ∧ o.isCells = false)) → J s W'
theorem Abide.mono {β : Type} {n₀ n₁ m₀ m₁ B C : Nat} {J : β → World → Prop} (h : Abide n₀ n₁ B J) (hm : ∀ r, m₀ ≤ r → r < m₁ → n₀ ≤ r ∧ r < n₁) (hB : B ≤ C) : Abide m₀ m₁ C J :=
  fun s W W' row hs hg hr => h s W W' row hs hg (fun r e => (hr r e).elim (fun h => .inl (hm r h.1 h.2)) (fun h => .inr ⟨Nat.le_trans hB h.1, h.2⟩))
theorem Abide.and {β : Type} {n₀ n₁ B : Nat} {J K : β → World → Prop} (h : Abide n₀ n₁ B J) (k : Abide n₀ n₁ B K) : Abide n₀ n₁ B (fun s W => J s W ∧ K s W) :=
  fun s W W' row hs hg hr => ⟨h s W W' row hs.1 hg hr, k s W W' row hs.2 hg hr⟩
theorem Abide.pure {β : Type} (n₀ n₁ B : Nat) (p : β → Prop) : Abide n₀ n₁ B (fun s (_ : World) => p s) := fun _ _ _ _ hs _ _ => hs
theorem Abide.below {β : Type} {n₀ n₁ B : Nat} {J : β → World → Prop} (h : Abide n₀ n₁ B J) {s : β} {W W' : World} (hs : J s W) (hb : Below W.heap.size W W') : J s W' :=
  h s W W' none hs ⟨hb.os, hb.tape, hb.output, hb.size, fun k hk _ => hb.block k hk⟩ (fun r e => by cases e)
theorem Abide.put {β : Type} {n₀ n₁ B : Nat} {J : β → World → Prop} (h : Abide n₀ n₁ B J) {s : β} {W : World} {l : Nat} {o o' : Obj} (hs : J s W) (hB : B ≤ l) (hl : W.heap[l]? = some o) (ho : o.isCells = false) : J s (W.putObj l o') :=
  h s W _ (some l) hs (grownBy_putObj' W l o') (fun r e => by cases e; exact .inr ⟨hB, o, hl, ho⟩)
/-- A cell outside of n₀ to n₁. -/
theorem abide_cell {β : Type} {n₀ n₁ B : Nat} (a : β → Addr) (v : β → Value) (ha : ∀ s, ¬ (n₀ ≤ (a s).block ∧ (a s).block < n₁)) : Abide n₀ n₁ B (fun s W => W.cell? (a s) = some (v s) ∧ W.frozen? (a s) = false) := by
  intro s W W' row hs hg hr
  obtain ⟨o, ho, hc⟩ := cells_of_cell hs.1
  have hblk : W'.heap[(a s).block]? = W.heap[(a s).block]? := hg.block _ (Array.getElem?_eq_some_iff.1 ho).1 (fun e => by
    rcases hr _ e.symm with h | ⟨_, o', ho', hc'⟩
    · exact ha s h
    · rw [ho] at ho'; cases ho'; rw [hc] at hc'; cases hc')
  refine ⟨(World.cell?_of_block hblk).trans hs.1, ?_⟩
  have := hs.2
  unfold World.frozen? at this ⊢
  rw [hblk]
  exact this
theorem abide_below {β : Type} {n₀ n₁ B n : Nat} (w₀ : World) (h0 : n ≤ n₀ ∨ n₁ ≤ n₀) (hB : n ≤ B) (hn : n ≤ w₀.heap.size) : Abide n₀ n₁ B (fun (_ : β) W => Below n w₀ W) := by
  intro _ W W' row hs hg hr
  refine hs.grown hg (Nat.le_trans hn hs.size) (fun r e => ?_)
  rcases hr r e with h | ⟨h, _⟩ <;> omega

/-- What an iterator is that has blocks of its own. lo: where the loop's two blocks lie; A: the blocks that a round keeps. Rd: what a round may know of what it is handed. -/
def SeqOwn {α : Type} (F : Fence) (n : Nat) (P : Program) (g : Nat) (lb : Array Value) (encs : α → Array Value) (Rd : α → World → Prop) (A : Nat → Prop) (n₀ n₁ : Nat) (S Sp : List α → Prop) (N : Nat) (w : World) : Prop :=
  ∀ (l : Nat) (J Jx : List α → World → Prop) (W : World), Below w.heap.size w W → W.heap.size = w.heap.size + 2 → Abide n₀ n₁ W.heap.size J → Abide n₀ n₁ W.heap.size Jx →
    (∀ pre x W1, J pre W1 → Rd x W1 → pre.length < N → YieldAt F (n - 1) P l (encs x) W1 fun e W' =>
      ((e = .returned (.bool true) ∧ J (pre ++ [x]) W') ∨ (e = .returned (.bool false) ∧ Jx (pre ++ [x]) W')) ∧ Kept (fun k => A k ∧ k ≠ w.heap.size ∧ k ≠ w.heap.size + 1) W1 W') →
    J [] W →
    CallsIn F n P g (#[.func (.yield l) #[] #[]] ++ lb) W fun e W' => (∃ v, e = .returned v) ∧ ((∃ xs, S xs ∧ J xs W') ∨ (∃ pre, Sp pre ∧ Jx pre W'))

/-- How a round may end. -/
def roundEnd {α : Type} (A : Nat → Prop) (I : List α → World → Prop) (Ix : Code → List α → World → Prop) (xs : List α) (W : World) : Exit → Act → World → Prop
  | .normal, _, W' => Kept A W W' ∧ I xs W'
  | .ret, _, W' => Kept A W W' ∧ Ix .ret xs W'
  | .exit id, _, W' => Kept A W W' ∧ Ix (.exit id) xs W'
  | .goto t, _, W' => Kept A W W' ∧ Ix (.goto t) xs W'
  | .panic _, _, _ => False
  | .outgrown, _, _ => False

/-- The loop's record and the block of its rounds' deferred calls. -/
def Book (lo : Nat) (r : Loop) (W : World) : Prop := W.heap[lo + 1]? = some (.loop r) ∧ W.heap[lo]? = some (.deferred (some []))
theorem Book.put {lo : Nat} {r : Loop} {W : World} (h : Book lo r W) (r' : Loop) : Book lo r' (W.putObj (lo + 1) (.loop r')) :=
  ⟨World.putObj_heap_same (Array.getElem?_eq_some_iff.1 h.1).1, (World.putObj_heap_other (by omega)).trans h.2⟩
theorem Book.kept {lo : Nat} {r : Loop} {A : Nat → Prop} {W W' : World} (h : Book lo r W) (hk : Kept A W W') (h0 : A lo) (h1 : A (lo + 1)) : Book lo r W' :=
  ⟨(hk.2 _ h1 (Array.getElem?_eq_some_iff.1 h.1).1).trans h.1, (hk.2 _ h0 (Array.getElem?_eq_some_iff.1 h.2).1).trans h.2⟩
theorem Book.abide {β : Type} {lo n₀ n₁ B : Nat} (hn : n₁ ≤ lo) (hB : lo + 2 ≤ B) (r : Loop) : Abide n₀ n₁ B (fun (_ : β) W => Book lo r W) := by
  intro _ W W' row hs hg hr
  have key : ∀ k, lo ≤ k → k < lo + 2 → k < W.heap.size → W'.heap[k]? = W.heap[k]? := fun k h1 h2 h3 => hg.block k h3 (fun e => by
    rcases hr k e.symm with h | ⟨h, _⟩ <;> omega)
  exact ⟨(key _ (by omega) (by omega) (Array.getElem?_eq_some_iff.1 hs.1).1).trans hs.1, (key _ (by omega) (by omega) (Array.getElem?_eq_some_iff.1 hs.2).1).trans hs.2⟩

theorem range_own {F : Fence} {n : Nat} {P : Program} {α : Type} {g : Operand} {ps : Array Tmp} {assign body : Code} {Q : Exit → Act → World → Prop} {a : Act} {w : World}
    (hro : F.round = none) (hn : 1 ≤ n) {gf : Nat} {lb : Array Value} (hg : a.eval g = .func (.func gf) #[] lb) (hFg : F.fn gf) (eg : ∀ args w, (callFunc gf args).run P w = .ok (.enter gf args) w)
    {encs : α → Array Value} {Rd : α → World → Prop} {A : Nat → Prop} {n₀ n₁ : Nat} {S Sp : List α → Prop} {N : Nat} (hseq : SeqOwn F (n - 1) P gf lb encs Rd A n₀ n₁ S Sp N w)
    (hn₁ : n₁ ≤ w.heap.size) (hA0 : A w.heap.size) (hA1 : A (w.heap.size + 1)) (hps : ∀ x, (encs x).size = ps.size) (hRd : ∀ x, Abide n₀ n₁ w.heap.size (fun (_ : Unit) W => Rd x W))
    (I : List α → World → Prop) (Ix : Code → List α → World → Prop) (hI : Abide n₀ n₁ w.heap.size I) (hIx : ∀ c, Abide n₀ n₁ w.heap.size (Ix c)) (h0 : I [] w) (Ax : α → Act → World → Prop) (hAx : ∀ x a', Abide n₀ n₁ w.heap.size (fun (_ : Unit) W => Ax x a' W))
    (hassign : ∀ (l : Nat) (pre : List α) (x : α) (W : World) (K : Act → World → Prop), I pre W → Rd x W → (∀ a' W', Kept A W W' → I pre W' → Rd x W' → Ax x a' W' → K a' W') →
      assign.wpIn (F.inRound l) (n - 1 - 1) P (Exit.then K (fun _ _ _ => False)) { tmps := (ps.zip (encs x)).foldl (fun t (p, v) => t.setIfInBounds p v) a.tmps, defers := [] } W)
    (hbody : ∀ (l : Nat) (pre : List α) (x : α) (a' : Act) (W : World), I pre W → Rd x W → Ax x a' W → pre.length < N → body.wpIn (F.inRound l) (n - 1 - 1) P (roundEnd A I Ix (pre ++ [x]) W) a' W)
    (hdone : ∀ (D : Nat) (xs : List α) (W : World), w.heap.size ≤ D → S xs → I xs W → W.heap[D]? = some (.deferred (some [])) → Q .normal { a with defers := { target := .collected D, args := #[] } :: a.defers } W)
    (hstop : ∀ (D : Nat) (c : Code) (pre : List α) (W : World), w.heap.size ≤ D → Sp pre → Ix c pre W → W.heap[D]? = some (.deferred (some [])) → c.wpIn F n P Q { a with defers := { target := .collected D, args := #[] } :: a.defers } W) :
    (Code.rangeFunc g ps assign body).wpIn F n P Q a w := by
  refine wpIn_rangeFunc fun fn hfn => ?_
  rw [hro]
  generalize hlo : w.heap.size = lo at *
  have mk : ∀ st pe, ∃ r : Loop, r = { state := st, pending := pe, fn := fn, tmps := a.tmps, params := ps, assign := assign, body := body, defers := lo } := fun _ _ => ⟨_, rfl⟩
  obtain ⟨r0, e0⟩ := mk .ready none
  have hbk : Book lo r0 ((w.alloc (.deferred (some []))).alloc (.loop r0)) := by
    have h1 := World.alloc_heap_new (w.alloc (.deferred (some []))) (.loop r0)
    rw [World.size_alloc, hlo] at h1
    have h2 := World.alloc_heap_new w (.deferred (some []))
    rw [hlo] at h2
    exact ⟨h1, (Below.heap_alloc _ _ _ (by rw [World.size_alloc, hlo]; omega)).trans h2⟩
  have hbw : Below w.heap.size w ((w.alloc (.deferred (some []))).alloc (.loop r0)) := ((Below.refl _ w).alloc (Nat.le_refl _) _).alloc (by simp) _
  have hI1 : I [] ((w.alloc (.deferred (some []))).alloc (.loop r0)) := hI.below h0 hbw
  have hsz : ((w.alloc (.deferred (some []))).alloc (.loop r0)).heap.size = lo + 2 := by rw [World.size_alloc, World.size_alloc, hlo]
  have hent : (Instr.enterLoop fn a.tmps ps assign body none).run P w = .ok (lo + 1, [{ target := .collected lo, args := #[] }]) ((w.alloc (.deferred (some []))).alloc (.loop r0)) := by
    rw [e0, ← hlo]; exact run_enterLoop_outer _ _ _ _ _
  generalize (w.alloc (.deferred (some []))).alloc (.loop r0) = W1 at hbk hbw hI1 hsz hent
  refine ⟨lo + 1, _, W1, { target := .fn (.func gf) lb, args := #[.func (.yield (lo + 1)) #[] #[]] }, W1, gf, #[.func (.yield (lo + 1)) #[] #[]] ++ lb, W1, hent, ?_, ?_, ?_, fun _ => hn, ?_⟩
  · simp only [resolve, hg]
    simp [go_sem]
  · intro f' hf'
    simp [Target.leads] at hf'
    subst hf'
    exact hFg
  · simp [invoke, go_sem, eg]
  have hmn : ∀ r, n₀ ≤ r → r < n₁ → n₀ ≤ r ∧ r < n₁ := fun _ h h' => ⟨h, h'⟩
  have hle : lo ≤ W1.heap.size := by omega
  have hs1 := hseq (lo + 1) (fun pre W => I pre W ∧ Book lo r0 W) (fun pre W => ∃ c, Ix c pre W ∧ Book lo { r0 with state := .done, pending := some c } W) W1 hbw (by rw [hsz, hlo])
    ((hI.mono hmn hle).and (Book.abide hn₁ (by omega) r0))
    (fun s X Y row hs hg hr => by
      obtain ⟨c, h1, h2⟩ := hs
      exact ⟨c, (hIx c).mono hmn hle s X Y row h1 hg hr, Book.abide (β := Unit) hn₁ (by omega) _ () X Y row h2 hg hr⟩) ?_ ⟨hI1, hbk⟩
  · refine hs1.mono ?_
    rintro e W2 ⟨⟨v, rfl⟩, (⟨xs, hS, hi, hb⟩ | ⟨pre, hSp, c, hi, hb⟩)⟩
    · have he := run_endLoop (P := P) hb.1 (by rw [e0]; simp)
      refine ⟨none, _, by rw [he, e0], hdone lo xs _ (Nat.le_refl _) hS (hI.put hi (by omega) hb.1 rfl) (hb.put _).2⟩
    · have he := run_endLoop (P := P) hb.1 (by simp)
      exact ⟨some c, _, he, hstop lo c pre _ (Nat.le_refl _) hSp ((hIx c).put hi (by omega) hb.1 rfl) (hb.put _).2⟩
  · rintro pre x W ⟨hi, hb⟩ hrd hlen
    have hy := run_yield (P := P) (args := encs x) hb.1 (by rw [e0]; exact hps x)
    refine ⟨fn, _, assign, body, by rw [hy, e0], roundIn_of_wpIn hfn ?_⟩
    refine hassign _ pre x W _ hi hrd ?_
    intro a' Wa hka hia hrda hax
    have hba := hb.kept hka hA0 hA1
    refine ⟨_, run_beginRound hba.1 (by rw [e0]), ?_⟩
    have hbb := hba.put { r0 with state := .busy }
    have kp : Kept (fun k => A k ∧ k ≠ w.heap.size ∧ k ≠ w.heap.size + 1) Wa (Wa.putObj (lo + 1) (.loop { r0 with state := .busy })) := Kept.putObj _ _ _ (by rw [hlo]; omega)
    have kw : Kept (fun k => A k ∧ k ≠ w.heap.size ∧ k ≠ w.heap.size + 1) W Wa := hka.mono (fun _ h => h.1)
    have kb := kw.trans kp
    refine wpIn_mono (hbody (lo + 1) pre x a' _ (hI.put hia (by omega) hba.1 rfl) ((hRd x).put (s := ()) hrda (by omega) hba.1 rfl) ((hAx x a').put (s := ()) hax (by omega) hba.1 rfl) hlen) ?_
    generalize (Wa.putObj (lo + 1) (.loop { r0 with state := .busy })) = Wb at hbb kb
    have fin : ∀ (jump : Option Code) (W3 : World), Kept A Wb W3 →
        (Instr.endRound (lo + 1) jump).run P W3 = .ok (.bool jump.isNone) (W3.putObj (lo + 1) (.loop { r0 with state := if jump.isNone then .ready else .done, pending := jump })) ∧
        Book lo { r0 with state := .busy } W3 ∧ Book lo { r0 with state := if jump.isNone then .ready else .done, pending := jump } (W3.putObj (lo + 1) (.loop { r0 with state := if jump.isNone then .ready else .done, pending := jump })) ∧
        Kept (fun k => A k ∧ k ≠ w.heap.size ∧ k ≠ w.heap.size + 1) W (W3.putObj (lo + 1) (.loop { r0 with state := if jump.isNone then .ready else .done, pending := jump })) := by
      intro jump W3 hk3
      have hb3 := hbb.kept hk3 hA0 hA1
      exact ⟨run_endRound (P := P) (r := { r0 with state := .busy }) jump hb3.1, hb3, hb3.put _, (kb.trans (hk3.mono (fun _ h => h.1))).trans (Kept.putObj _ _ _ (by rw [hlo]; omega))⟩
    rintro e a3 W3 hp
    cases e with
    | normal =>
      obtain ⟨hk3, hi3⟩ := hp
      obtain ⟨hr, hl3, hl4, hk4⟩ := fin none W3 hk3
      refine ⟨_, _, hr, .inl ⟨rfl, hI.put hi3 (by omega) hl3.1 rfl, ?_⟩, hk4⟩
      have e1 : ({ r0 with state := if (none : Option Code).isNone then .ready else .done, pending := none } : Loop) = r0 := by rw [e0]; rfl
      rw [e1] at hl4 ⊢
      exact hl4
    | ret =>
      obtain ⟨hk3, hi3⟩ := hp
      obtain ⟨hr, hl3, hl4, hk4⟩ := fin (some .ret) W3 hk3
      exact ⟨_, _, hr, .inr ⟨rfl, .ret, (hIx _).put hi3 (by omega) hl3.1 rfl, hl4⟩, hk4⟩
    | exit id =>
      obtain ⟨hk3, hi3⟩ := hp
      obtain ⟨hr, hl3, hl4, hk4⟩ := fin (some (.exit id)) W3 hk3
      exact ⟨_, _, hr, .inr ⟨rfl, .exit id, (hIx _).put hi3 (by omega) hl3.1 rfl, hl4⟩, hk4⟩
    | goto t =>
      obtain ⟨hk3, hi3⟩ := hp
      obtain ⟨hr, hl3, hl4, hk4⟩ := fin (some (.goto t)) W3 hk3
      exact ⟨_, _, hr, .inr ⟨rfl, .goto t, (hIx _).put hi3 (by omega) hl3.1 rfl, hl4⟩, hk4⟩
    | panic ch => exact hp.elim
    | outgrown => exact hp.elim

/-- The same, where the loop's variables lie in slots. -/
theorem range_own1 {F : Fence} {n : Nat} {P : Program} {α : Type} {g : Operand} {ps : Array Tmp} {assign body : Code} {Q : Exit → Act → World → Prop} {a : Act} {w : World}
    (hro : F.round = none) (hn : 1 ≤ n) {gf : Nat} {lb : Array Value} (hg : a.eval g = .func (.func gf) #[] lb) (hFg : F.fn gf) (eg : ∀ args w, (callFunc gf args).run P w = .ok (.enter gf args) w)
    {encs : α → Array Value} {Rd : α → World → Prop} {A : Nat → Prop} {n₀ n₁ : Nat} {S Sp : List α → Prop} {N : Nat} (hseq : SeqOwn F (n - 1) P gf lb encs Rd A n₀ n₁ S Sp N w)
    (hn₁ : n₁ ≤ w.heap.size) (hA0 : A w.heap.size) (hA1 : A (w.heap.size + 1)) (hps : ∀ x, (encs x).size = ps.size) (hRd : ∀ x, Abide n₀ n₁ w.heap.size (fun (_ : Unit) W => Rd x W))
    (I : List α → World → Prop) (Ix : Code → List α → World → Prop) (hI : Abide n₀ n₁ w.heap.size I) (hIx : ∀ c, Abide n₀ n₁ w.heap.size (Ix c)) (h0 : I [] w) (a₁ : α → Act)
    (hassign : ∀ (l : Nat) (x : α) (W : World) (K : Act → World → Prop), K (a₁ x) W →
      assign.wpIn (F.inRound l) (n - 1 - 1) P (Exit.then K (fun _ _ _ => False)) { tmps := (ps.zip (encs x)).foldl (fun t (p, v) => t.setIfInBounds p v) a.tmps, defers := [] } W)
    (hbody : ∀ (l : Nat) (pre : List α) (x : α) (W : World), I pre W → Rd x W → pre.length < N → body.wpIn (F.inRound l) (n - 1 - 1) P (roundEnd A I Ix (pre ++ [x]) W) (a₁ x) W)
    (hdone : ∀ (D : Nat) (xs : List α) (W : World), w.heap.size ≤ D → S xs → I xs W → W.heap[D]? = some (.deferred (some [])) → Q .normal { a with defers := { target := .collected D, args := #[] } :: a.defers } W)
    (hstop : ∀ (D : Nat) (c : Code) (pre : List α) (W : World), w.heap.size ≤ D → Sp pre → Ix c pre W → W.heap[D]? = some (.deferred (some [])) → c.wpIn F n P Q { a with defers := { target := .collected D, args := #[] } :: a.defers } W) :
    (Code.rangeFunc g ps assign body).wpIn F n P Q a w :=
  range_own hro hn hg hFg eg hseq hn₁ hA0 hA1 hps hRd I Ix hI hIx h0 (fun x a' _ => a' = a₁ x) (fun x a' => Abide.pure _ _ _ _) (fun l pre x W K hi hr h => hassign l x W K (h _ _ (Kept.refl _ _) hi hr rfl))
    (fun l pre x a' W hi hr e hl => by rw [e]; exact hbody l pre x W hi hr hl) hdone hstop
end Go.Proofs.YtfakohoamgogoaaGreatDoor

namespace Go.Proofs.YtfakohoamgogoaaGreatDoor
open Go.RowKit

/-- The slice value with address A and length n reads, in w, as the values vs. -/
def Vals (w : World) (A : Option Addr) (n : Nat) (vs : List Value) : Prop :=
  vs.length = n ∧ (0 < n → ∃ b off, A = some ⟨b, off, none⟩ ∧ b < w.heap.size ∧ ∀ j v, vs[j]? = some v → w.cell? ⟨b, off + j, none⟩ = some v)
theorem Vals.below {w w' : World} {A : Option Addr} {n : Nat} {vs : List Value} (h : Vals w A n vs) (hb : Below w.heap.size w w') : Vals w' A n vs := by
  refine ⟨h.1, fun hn => ?_⟩
  obtain ⟨b, off, rfl, hlt, hc⟩ := h.2 hn
  exact ⟨b, off, rfl, Nat.lt_of_lt_of_le hlt hb.size, fun j v hj => (hb.cell (p := ⟨b, off + j, none⟩) hlt).trans (hc j v hj)⟩
theorem Vals.nil (w : World) (A : Option Addr) : Vals w A 0 [] := ⟨rfl, fun h => absurd h (by omega)⟩
def nums (k : IntKind) (zs : List Int) : List Value := zs.map (Value.int k)
def strs (ls : List (List UInt8)) : List Value := ls.map fun l => Value.string (bs l)
theorem strs_length (ls : List (List UInt8)) : (strs ls).length = ls.length := List.length_map _
theorem strs_get {ls : List (List UInt8)} {j : Nat} (h : j < ls.length) : (strs ls)[j]? = some (.string (bs (ls.getD j []))) := by
  unfold strs
  rw [List.getElem?_map, List.getElem?_eq_getElem h]
  simp [List.getD_eq_getElem?_getD, List.getElem?_eq_getElem h]
theorem nums_get {k : IntKind} {zs : List Int} {j : Nat} (h : j < zs.length) : (nums k zs)[j]? = some (.int k (zs.getD j 0)) := by
  unfold nums
  rw [List.getElem?_map, List.getElem?_eq_getElem h]
  simp [List.getD_eq_getElem?_getD, List.getElem?_eq_getElem h]

theorem own_below {w w' : World} {base B : Nat} {e : TypeId} {size n : Nat} {v : Value} {xs : List Value} (h : w.ownsRow base e size v n xs) (hb : Below B w w') (hB : w.heap.size ≤ B) : w'.ownsRow base e size v n xs := by
  refine ⟨h.1, ?_⟩
  rcases h.2 with hn | ⟨g, cap, cur, rfl, hg, hgg, rest⟩
  · exact .inl hn
  · refine .inr ⟨g, cap, cur, rfl, hg, ?_, rest⟩
    have hlt := (Array.getElem?_eq_some_iff.1 hgg).1
    rw [hb.block g (by omega)]
    exact hgg
theorem add_at (g j : Nat) : (⟨g, 0, none⟩ : Addr).add j = ⟨g, 0 + j, none⟩ := by unfold Addr.add; split <;> simp_all
theorem own_vals {w : World} {base : Nat} {e : TypeId} {n : Nat} {v : Value} {vs : List Value} (h : w.ownsRow base e 1 v n vs) : ∃ A c, v = .slice A n c ∧ n ≤ c ∧ Vals w A n vs ∧ (A = none → c = 0) := by
  have hl : vs.length = n := by have := h.1; simpa using this
  rcases h.2 with ⟨rfl, rfl⟩ | ⟨g, cap, cur, rfl, _, hg, hc, _⟩
  · exact ⟨none, 0, rfl, Nat.le_refl _, ⟨hl, fun h0 => absurd h0 (by omega)⟩, fun _ => rfl⟩
  · refine ⟨some ⟨g, 0, none⟩, cap, rfl, hc, ⟨hl, fun _ => ⟨g, 0, rfl, (Array.getElem?_eq_some_iff.1 hg).1, fun j v hj => ?_⟩⟩, fun h => by cases h⟩
    have := h.cells (g := g) rfl j v hj
    rwa [add_at] at this
/-- What append of one element leaves behind. -/
def Grew (base : Nat) (w w' : World) : Prop := ∀ B w0, Below B w0 w → B ≤ base → Below B w0 w'
theorem grew_of {w w' : World} {base : Nat} {o : Obj} {e : TypeId} {size n : Nat} {v : Value} {xs : List Value} (ho : w.ownsRow base e size v n xs) (hbase : base ≤ w.heap.size) (hg : (w.alloc o).grownBy w' v.ownBlock) : Grew base w w' :=
  fun B w0 h hB => (h.alloc (Nat.le_trans hB hbase) o).grown hg (by simp; omega) (fun g hgv => Nat.le_trans hB (ho.lt g hgv).1)

theorem lit_cells (w : World) (us : List Value) (e : TypeId) : ∀ j u, us[j]? = some u → (w.alloc (.cells us.toArray e)).cell? ((⟨w.heap.size, 0, none⟩ : Addr).add j) = some u := by
  intro j u hj
  rw [add_at, Nat.zero_add]
  simp [hj]
theorem append_lit {P : Program} {w : World} {ops : Array Oper} {rest : List Oper} {o : Oper} {a : Act} {Q : Exit → Act → World → Prop} (hgd : o.guard = none) (s x : Operand) (t : TypeId)
    (ho : o.op = .call { callee := .builtin .append, args := #[s, x], argTypes := #[t, t] })
    (base : Nat) (e : TypeId) (i : TypeInfo) (z : Value) (size bytes : Nat) (ht : P.underlying t = some (.slice e)) (hi : P.info? e = some i) (hz : i.zero = some z)
    (hsize : i.size = size) (hby : i.bytes = bytes) (hzs : z.cells.size = size) (hsz : 0 < size)
    (v : Value) (n : Nat) (xs : List Value) (hs : a.eval s = v) (hown : w.ownsRow base e size v n xs) (us : List Value) (hus : us.length = size) (hone : ∀ u ∈ us, u.oneCell' = true)
    (hx : a.eval x = .slice (some ⟨w.heap.size, 0, none⟩) 1 1) (h63 : n + 1 ≤ maxLen) (hbytes : (n + 1) * bytes ≤ 140737488355328) (hbase : base ≤ w.heap.size)
    (h : ∀ v' w', w'.ownsRow base e size v' (n + 1) (xs ++ us) → Grew base w w' → wpList P ops Q rest (a.put o.dst v') w') : wpList P ops Q (o :: rest) a (w.alloc (.cells us.toArray e)) :=
  wpList_append_own _ hgd s x t ho base e i z size bytes ht hi hz hsize hby hzs hsz v n xs hs (hown.alloc _) ⟨w.heap.size, 0, none⟩ 1 1 us hx (by rw [hus, Nat.one_mul]) (lit_cells w us e) hone h63 hbytes (by simp; omega)
    (fun v' w' h1 h2 _ => h v' w' h1 (grew_of hown hbase h2))
theorem append_lit_in {F : Fence} {m : Nat} {P : Program} {w : World} {ops : Array Oper} {rest : List Oper} {o : Oper} {a : Act} {Q : Exit → Act → World → Prop} (hgd : o.guard = none) (s x : Operand) (t : TypeId)
    (ho : o.op = .call { callee := .builtin .append, args := #[s, x], argTypes := #[t, t] })
    (base : Nat) (e : TypeId) (i : TypeInfo) (z : Value) (size bytes : Nat) (ht : P.underlying t = some (.slice e)) (hi : P.info? e = some i) (hz : i.zero = some z)
    (hsize : i.size = size) (hby : i.bytes = bytes) (hzs : z.cells.size = size) (hsz : 0 < size)
    (v : Value) (n : Nat) (xs : List Value) (hs : a.eval s = v) (hown : w.ownsRow base e size v n xs) (us : List Value) (hus : us.length = size) (hone : ∀ u ∈ us, u.oneCell' = true)
    (hx : a.eval x = .slice (some ⟨w.heap.size, 0, none⟩) 1 1) (h63 : n + 1 ≤ maxLen) (hbytes : (n + 1) * bytes ≤ 140737488355328) (hbase : base ≤ w.heap.size)
    (h : ∀ v' w', w'.ownsRow base e size v' (n + 1) (xs ++ us) → (w.alloc (.cells us.toArray e)).grownBy w' v.ownBlock → Grew base w w' → wpListIn F m P ops Q rest (a.put o.dst v') w') : wpListIn F m P ops Q (o :: rest) a (w.alloc (.cells us.toArray e)) :=
  wpListIn_append_own _ hgd s x t ho base e i z size bytes ht hi hz hsize hby hzs hsz v n xs hs (hown.alloc _) ⟨w.heap.size, 0, none⟩ 1 1 us hx (by rw [hus, Nat.one_mul]) (lit_cells w us e) hone h63 hbytes (by simp; omega)
    (fun v' w' h1 h2 _ => h v' w' h1 h2 (grew_of hown hbase h2))
end Go.Proofs.YtfakohoamgogoaaGreatDoor

namespace Go.Proofs.YtfakohoamgogoaaGreatDoor
open Go.RowKit

theorem noCR_length (s : List UInt8) : (noCR s).length ≤ s.length := by
  unfold noCR
  split
  · rw [List.length_dropLast]; omega
  · exact Nat.le_refl _
theorem cutAll_mem_length (c : UInt8) : ∀ (l : List UInt8) (p : List UInt8), p ∈ cutAll c l → p.length ≤ l.length
  | [], p, h => by simp [cutAll] at h; simp [h]
  | x :: l, p, h => by
    unfold cutAll at h
    split at h
    · simp at h
      rcases h with rfl | h
      · simp
      · have := cutAll_mem_length c l p h
        simp; omega
    · cases e : cutAll c l with
      | nil => exact absurd e (cutAll_ne c l)
      | cons a t =>
        rw [e] at h
        simp [glue] at h
        rcases h with rfl | h
        · have := cutAll_mem_length c l a (by simp [e])
          simp; omega
        · have := cutAll_mem_length c l p (by simp [e, h])
          simp; omega
theorem getD_mem {α : Type} {l : List α} {j : Nat} {d : α} (h : j < l.length) : l.getD j d ∈ l := by
  simp [List.getD_eq_getElem?_getD, List.getElem?_eq_getElem h]
theorem body_length (s : List UInt8) : (bodyOf s).length ≤ s.length := by
  have h1 := noCR_length s
  unfold bodyOf
  cases e : cutAll 35 (noCR s) with
  | nil => simp
  | cons a t =>
    have := cutAll_mem_length 35 (noCR s) a (by simp [e])
    simp
    omega
theorem bs_toList (l : List UInt8) : (bs l).toList = l := by rw [Lib.toList_data, bs_data]
theorem bs_some {l : List UInt8} (h : ¬ l = []) : (bs l).toList.isEmpty = false := by rw [bs_toList]; simp [h]

end Go.Proofs.YtfakohoamgogoaaGreatDoor
