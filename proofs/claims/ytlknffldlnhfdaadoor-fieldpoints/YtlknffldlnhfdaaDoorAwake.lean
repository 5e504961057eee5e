/- The document's examples hold. -/
import Derived.Test.YtlknffldlnhfdaaDoorLines
import Derived.Test.YtlknffldlnhfdaaDoorPoint
import Derived.Test.YtlknffldlnhfdaaDoorSame
import Derived.Lib.SlBytesConst
namespace Go.Proofs.YtlknffldlnhfdaaDoor
open Go.RowKit Go.Shelf
attribute [local go_sem] Oper.semAt_some

def exOct : List UInt8 := [48, 48, 52, 49, 46, 46, 48, 48, 53, 65, 32, 59, 32, 80, 86, 65, 76, 73, 68, 32, 35, 32, 108, 101, 116, 116, 101, 114, 115, 10]
def pval : List UInt8 := [80, 86, 65, 76, 73, 68]
set_option maxRecDepth 100000 in
theorem exLines : linesIn exOct = [(1, [[48, 48, 52, 49, 46, 46, 48, 48, 53, 65], pval])] := by decide
set_option maxRecDepth 100000 in
theorem exRange : rangeOf [48, 48, 52, 49, 46, 46, 48, 48, 53, 65] = (65, 90, 0) := by decide
def good (x : Ln) : Bool := decide (x.1 = 1) && (decide (x.2.length = 2) && decide (x.2.getD 1 [] = pval))
def cnt (xs : List LnV) : Nat := (xs.filter fun x => good (view x)).length
theorem cnt_le (xs : List LnV) : cnt xs ≤ xs.length := List.length_filter_le _ _
theorem cnt_yes {xs : List LnV} {x : LnV} (h : good (view x) = true) : cnt (xs ++ [x]) = cnt xs + 1 := by simp [cnt, h]
theorem cnt_no {xs : List LnV} {x : LnV} (h : good (view x) = false) : cnt (xs ++ [x]) = cnt xs := by simp [cnt, h]
theorem cnt_ex {xs : List LnV} (h : xs.map view = linesIn exOct) : cnt xs = 1 := by
  have e : cnt xs = ((xs.map view).filter good).length := by
    unfold cnt
    rw [List.filter_map, List.length_map]
    rfl
  rw [e, h, exLines]
  decide

theorem frozen_new (w : World) (C : Array Value) (e : TypeId) (j : Nat) : (w.alloc (.cells C e)).frozen? ⟨w.heap.size, j, none⟩ = false := by
  have h := World.alloc_heap_new w (.cells C e)
  simp only [World.frozen?]
  rw [h]
  simp
/-- The loop's variable in a block of its own. -/
def LnBox (x : LnV) (b : Nat) (W : World) : Prop := W.cell? ⟨b, 0, none⟩ = some (.int .i64 x.1) ∧ W.cell? ⟨b, 1, none⟩ = some (.slice x.2.1 x.2.2.length x.2.2.length)
theorem cell_abide {β : Type} {B : Nat} (a : Addr) (v : Value) : Abide 0 0 B (fun (_ : β) W => W.cell? a = some v) := by
  intro _ W W' row hs hg hr
  refine cell_kept hs hg (fun r e => ?_)
  rcases hr r e with h | ⟨_, h⟩
  · omega
  · exact h
theorem lnBox_new (x : LnV) (W : World) : LnBox x W.heap.size (W.alloc (.cells #[.int .i64 x.1, .slice x.2.1 x.2.2.length x.2.2.length] 31)) := by
  refine ⟨?_, ?_⟩ <;> simp
theorem lnBox_abide (x : LnV) (b B : Nat) : Abide 0 0 B (fun (_ : Unit) W => LnBox x b W) := Abide.and (cell_abide _ _) (cell_abide _ _)
def AwI (w : World) (bn : Nat) (xs : List LnV) (W : World) : Prop := (W.cell? ⟨bn, 0, none⟩ = some (.int .i64 (cnt xs)) ∧ W.frozen? ⟨bn, 0, none⟩ = false) ∧ Below w.heap.size w W
theorem awI_abide (w : World) (bn B : Nat) (hB : w.heap.size ≤ B) : Abide 0 0 B (AwI w bn) :=
  Abide.and (abide_cell (fun _ => ⟨bn, 0, none⟩) (fun xs => .int .i64 (cnt xs)) (fun _ => by omega)) (abide_below w (.inr (by omega)) hB (Nat.le_refl _))
theorem aw_yes {w W : World} {bn b0 : Nat} {pre : List LnV} {x : LnV} (h : AwI w bn pre W) (hg : good (view x) = true) (hb : w.heap.size ≤ bn) (h0 : bn ≠ 0) (hlt : bn < b0) :
    Kept (fun k => k = 0 ∨ b0 ≤ k) W (W.setCell ⟨bn, 0, none⟩ (.int .i64 ((cnt pre : Int) + 1))) ∧ AwI w bn (pre ++ [x]) (W.setCell ⟨bn, 0, none⟩ (.int .i64 ((cnt pre : Int) + 1))) := by
  refine ⟨Kept.setCell _ _ _ (by omega), ⟨?_, ?_⟩, h.2.setCell (p := ⟨bn, 0, none⟩) hb _⟩
  · rw [World.cell?_setCell_same' _ _ _ (by rw [h.1.1]; rfl), cnt_yes hg]
    simp
  · rw [World.frozen?_setCell]; exact h.1.2
theorem aw_no {w W : World} {bn b0 : Nat} {pre : List LnV} {x : LnV} (h : AwI w bn pre W) (hg : good (view x) = false) : Kept (fun k => k = 0 ∨ b0 ≤ k) W W ∧ AwI w bn (pre ++ [x]) W :=
  ⟨Kept.refl _ _, ⟨by rw [cnt_no hg]; exact h.1.1, h.1.2⟩, h.2⟩
theorem leave7 {R : Ending → World → Prop} {Wf : World} {D m : Nat} {tmps : Array Value} {v : Value} (ht : tmps[0]?.getD undef = v) (hk : Wf.heap[D]? = some (.deferred (some []))) (h : R (.returned v) (Wf.putObj D (.deferred none))) :
    LeavesInM Fence.wide m Tryd.prog Tryd.f7 tmps R [{ target := .collected D, args := #[] }] .returning Wf := by
  refine ⟨by simp, .inl ⟨_, _, rfl, run_takeDeferred hk, ?_⟩⟩
  refine ⟨v, ?_, h⟩
  simp [results, Tryd.results7, go_sem, ht]

theorem exOcts (w : World) (fz : Nat × Nat) : Octs (w.alloc (.cells #[.int .u8 48, .int .u8 48, .int .u8 52, .int .u8 49, .int .u8 46, .int .u8 46, .int .u8 48, .int .u8 48, .int .u8 53, .int .u8 65, .int .u8 32, .int .u8 59, .int .u8 32, .int .u8 80, .int .u8 86, .int .u8 65, .int .u8 76, .int .u8 73, .int .u8 68, .int .u8 32, .int .u8 35, .int .u8 32, .int .u8 108, .int .u8 101, .int .u8 116, .int .u8 116, .int .u8 101, .int .u8 114, .int .u8 115, .int .u8 10] 5 fz)) (some ⟨w.heap.size, 0, none⟩) 30 exOct := by
  refine ⟨rfl, fun _ => ⟨_, _, rfl, by simp, fun j v hj => ?_⟩⟩
  rw [Nat.zero_add]
  have e : nums .u8 (ints exOct) = [.int .u8 48, .int .u8 48, .int .u8 52, .int .u8 49, .int .u8 46, .int .u8 46, .int .u8 48, .int .u8 48, .int .u8 53, .int .u8 65, .int .u8 32, .int .u8 59, .int .u8 32, .int .u8 80, .int .u8 86, .int .u8 65, .int .u8 76, .int .u8 73, .int .u8 68, .int .u8 32, .int .u8 35, .int .u8 32, .int .u8 108, .int .u8 101, .int .u8 116, .int .u8 116, .int .u8 101, .int .u8 114, .int .u8 115, .int .u8 10] := rfl
  rw [e] at hj
  have h := World.alloc_heap_new w (.cells #[.int .u8 48, .int .u8 48, .int .u8 52, .int .u8 49, .int .u8 46, .int .u8 46, .int .u8 48, .int .u8 48, .int .u8 53, .int .u8 65, .int .u8 32, .int .u8 59, .int .u8 32, .int .u8 80, .int .u8 86, .int .u8 65, .int .u8 76, .int .u8 73, .int .u8 68, .int .u8 32, .int .u8 35, .int .u8 32, .int .u8 108, .int .u8 101, .int .u8 116, .int .u8 116, .int .u8 101, .int .u8 114, .int .u8 115, .int .u8 10] 5 fz)
  unfold World.cell?
  simp only
  rw [h]
  simpa using hj
end Go.Proofs.YtlknffldlnhfdaaDoor
