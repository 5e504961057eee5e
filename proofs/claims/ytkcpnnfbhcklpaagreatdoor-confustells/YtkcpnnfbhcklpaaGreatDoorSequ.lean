/- What the program's Sequence hands back. -/
import Derived.Test.YtkcpnnfbhcklpaaGreatDoorSseq
import Derived.Test.YtkcpnnfbhcklpaaGreatDoorPoint
import Derived.Test.YtkcpnnfbhcklpaaGreatDoorLoop
namespace Go.Proofs.YtkcpnnfbhcklpaaGreatDoor
open Go.RowKit Go.Shelf
attribute [local go_sem] Oper.semAt_some

theorem info3 : (Tryz.prog.info? 3).map (fun i => (i.zero, i.size, i.bytes)) = some (some (.int .i64 0), 1, 8) := by kernel_rfl
def i64s (cs : List Nat) : List Value := nums .i64 (cs.map fun c : Nat => (c : Int))
theorem i64s_length (cs : List Nat) : (i64s cs).length = cs.length := by simp [i64s, nums]
theorem i64s_snoc (cs : List Nat) (c : Nat) : i64s cs ++ [.int .i64 (c : Int)] = i64s (cs ++ [c]) := by simp [i64s, nums]

/-- The results' two boxes, as they were laid. -/
def RBox (w : World) (W : World) : Prop :=
  (W.cell? ⟨w.heap.size, 0, none⟩ = some (.slice none 0 0) ∧ W.frozen? ⟨w.heap.size, 0, none⟩ = false) ∧ (W.cell? ⟨w.heap.size + 1, 0, none⟩ = some (.int .i64 0) ∧ W.frozen? ⟨w.heap.size + 1, 0, none⟩ = false)
/-- Between two rounds: the code points that have come. -/
def SqI (w : World) (base : Nat) (xs : List (List UInt8)) (W : World) : Prop :=
  (∃ cs v, (xs.mapM point = some cs ∧ cs.length ≤ xs.length) ∧ (W.cell? ⟨w.heap.size + 2, 0, none⟩ = some v ∧ W.frozen? ⟨w.heap.size + 2, 0, none⟩ = false) ∧ W.ownsRow base 3 1 v cs.length (i64s cs)) ∧ (RBox w W ∧ Below w.heap.size w W)
/-- A round has left: a text is none's. -/
def SqX (w : World) (c : Code) (xs : List (List UInt8)) (W : World) : Prop :=
  (c = .ret ∧ xs.mapM point = none) ∧ (W.cell? ⟨w.heap.size, 0, none⟩ = some (.slice none 0 0) ∧ W.cell? ⟨w.heap.size + 1, 0, none⟩ = some (.int .i64 13)) ∧ Below w.heap.size w W
theorem own_abide {β : Type} {n₀ n₁ B base : Nat} {v : Value} {n : Nat} {xs : List Value} {e : TypeId} (hb : n₁ ≤ base) : Abide n₀ n₁ B (fun (_ : β) W => W.ownsRow base e 1 v n xs) := by
  intro _ W W' row hs hg hr
  refine ⟨hs.1, ?_⟩
  rcases hs.2 with hn | ⟨g, cap, cur, rfl, hbg, hgg, rest⟩
  · exact .inl hn
  · refine .inr ⟨g, cap, cur, rfl, hbg, ?_, rest⟩
    rw [hg.block g (Array.getElem?_eq_some_iff.1 hgg).1 (fun e => ?_)]
    · exact hgg
    · rcases hr g e.symm with h | ⟨_, o, ho, hc⟩
      · omega
      · rw [hgg] at ho; cases ho; cases hc
theorem cell_abide' {β : Type} {n₀ n₁ B : Nat} (b : Nat) (v : Value) (hb : b < n₀ ∨ n₁ ≤ b) : Abide n₀ n₁ B (fun (_ : β) W => W.cell? ⟨b, 0, none⟩ = some v ∧ W.frozen? ⟨b, 0, none⟩ = false) :=
  abide_cell (fun _ => ⟨b, 0, none⟩) (fun _ => v) (fun _ => by show ¬ (n₀ ≤ b ∧ b < n₁); omega)
theorem cell_abide'' {β : Type} {n₀ n₁ B : Nat} (b : Nat) (v : Value) (hb : b < n₀ ∨ n₁ ≤ b) : Abide n₀ n₁ B (fun (_ : β) W => W.cell? ⟨b, 0, none⟩ = some v) := by
  intro _ W W' row hs hg hr
  obtain ⟨o, ho, hc⟩ := cells_of_cell hs
  refine (World.cell?_of_block (hg.block _ (Array.getElem?_eq_some_iff.1 ho).1 (fun e => ?_))).trans hs
  rcases hr _ e.symm with h | ⟨_, o', ho', hc'⟩
  · have h : n₀ ≤ b ∧ b < n₁ := h
    omega
  · rw [ho] at ho'; cases ho'; rw [hc] at hc'; cases hc'
theorem rbox_abide {β : Type} (w : World) (n₀ n₁ B : Nat) (h : w.heap.size + 1 < n₀) : Abide n₀ n₁ B (fun (_ : β) W => RBox w W) := Abide.and (cell_abide' _ _ (.inl (by omega))) (cell_abide' _ _ (.inl h))
theorem sqi_abide (w : World) (n₀ n₁ B base : Nat) (h : w.heap.size + 2 < n₀) (h1 : n₁ ≤ base) (hB : w.heap.size ≤ B) : Abide n₀ n₁ B (SqI w base) := by
  intro xs W W' row hs hg hr
  obtain ⟨⟨cs, v, h2, h3, h4⟩, h5, h6⟩ := hs
  exact ⟨⟨cs, v, h2, cell_abide' (β := Unit) _ _ (.inl h) () W W' row h3 hg hr, own_abide (β := Unit) h1 () W W' row h4 hg hr⟩, rbox_abide (β := Unit) w n₀ n₁ B (by omega) () W W' row h5 hg hr, abide_below (β := Unit) w (.inl (by omega)) hB (Nat.le_refl _) () W W' row h6 hg hr⟩
theorem sqx_abide (w : World) (n₀ n₁ B : Nat) (h : w.heap.size + 2 < n₀) (hB : w.heap.size ≤ B) (c : Code) : Abide n₀ n₁ B (SqX w c) := by
  intro xs W W' row hs hg hr
  obtain ⟨h1, ⟨h2, h3⟩, h4⟩ := hs
  exact ⟨h1, ⟨cell_abide'' (β := Unit) _ _ (.inl (by omega)) () W W' row h2 hg hr, cell_abide'' (β := Unit) _ _ (.inl (by omega)) () W W' row h3 hg hr⟩, abide_below (β := Unit) w (.inl (by omega)) hB (Nat.le_refl _) () W W' row h4 hg hr⟩

def SeqPost (l : List UInt8) (w : World) (e : Ending) (w' : World) : Prop :=
  Below w.heap.size w w' ∧ ((∃ cs A ca, seqOf l = some cs ∧ e = .returned (.tuple #[.slice A cs.length ca, .int .i64 0]) ∧ Vals w' A cs.length (i64s cs) ∧ (∀ a, A = some a → w.heap.size ≤ a.block)) ∨ (seqOf l = none ∧ e = .returned (.tuple #[.slice none 0 0, .int .i64 13])))
theorem leave15 {R : Ending → World → Prop} {w Wf : World} {D m : Nat} {tmps : Array Value} {v : Value} {e : Int} (ht : tmps[2]?.getD undef = .pointer (some ⟨w.heap.size, 0, none⟩)) (ht' : tmps[3]?.getD undef = .pointer (some ⟨w.heap.size + 1, 0, none⟩)) (hk : Wf.heap[D]? = some (.deferred (some [])))
    (h1 : Wf.cell? ⟨w.heap.size, 0, none⟩ = some v) (h2 : Wf.cell? ⟨w.heap.size + 1, 0, none⟩ = some (.int .i64 e)) (h : R (.returned (.tuple #[v, .int .i64 e])) (Wf.putObj D (.deferred none))) :
    LeavesInM Fence.wide m Tryz.prog Tryz.f33 tmps R [{ target := .collected D, args := #[] }] .returning Wf := by
  refine ⟨by simp, .inl ⟨_, _, rfl, run_takeDeferred hk, ?_⟩⟩
  have k1 := cell_kept h1 (grownBy_putObj' _ D (.deferred none)) (fun r e => by cases e; exact ⟨_, hk, rfl⟩)
  have k2 := cell_kept h2 (grownBy_putObj' _ D (.deferred none)) (fun r e => by cases e; exact ⟨_, hk, rfl⟩)
  refine ⟨.tuple #[v, .int .i64 e], ?_, h⟩
  simp [results, Tryz.results33, go_sem, k1, k2, ht, ht']
theorem leave15_0 {R : Ending → World → Prop} {w Wf : World} {m : Nat} {tmps : Array Value} {v : Value} {e : Int} (ht : tmps[2]?.getD undef = .pointer (some ⟨w.heap.size, 0, none⟩)) (ht' : tmps[3]?.getD undef = .pointer (some ⟨w.heap.size + 1, 0, none⟩))
    (h1 : Wf.cell? ⟨w.heap.size, 0, none⟩ = some v) (h2 : Wf.cell? ⟨w.heap.size + 1, 0, none⟩ = some (.int .i64 e)) (h : R (.returned (.tuple #[v, .int .i64 e])) Wf) :
    LeavesInM Fence.wide m Tryz.prog Tryz.f33 tmps R [] .returning Wf := by
  refine ⟨.tuple #[v, .int .i64 e], ?_, h⟩
  simp [results, Tryz.results33, go_sem, h1, h2, ht, ht']
end Go.Proofs.YtkcpnnfbhcklpaaGreatDoor
