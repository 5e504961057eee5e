/- Plain words for the law that rows rise; what holds between two rows; no walk. -/
import Derived.Test.YtfmkhfjdihfppaaDoorAwk
import Derived.Test.YtfmkhfjdihfppaaDoorQuietin
namespace Go.Proofs.YtfmkhfjdihfppaaDoor
open Go.RowKit Go.Shelf Go.Sort

def lst (ps : List Pr) : Int := (lastB ps).getD (-1)
theorem lst_nil : lst [] = -1 := rfl
theorem lst_snoc (ps : List Pr) (p : Pr) : lst (ps ++ [p]) = p.b := by unfold lst; rw [lastB_snoc]; rfl
theorem lst_max {ps : List Pr} (hg : Good ps) : ∀ s ∈ ps, s.b ≤ lst ps := by
  intro s hs
  unfold lst
  cases hl : lastB ps with
  | none => rw [last_none hl] at hs; cases hs
  | some b => exact last_max hg hl s hs
theorem last_mem : ∀ {ps : List Pr} {b : Int}, lastB ps = some b → ∃ s ∈ ps, s.b = b
  | [], _, h => by cases h
  | [p], b, h => ⟨p, List.mem_cons_self .., by have e : some p.b = some b := h; injection e⟩
  | p :: q :: t, b, h => by
    obtain ⟨s, hs, e⟩ := last_mem (ps := q :: t) (b := b) h
    exact ⟨s, List.mem_cons_of_mem _ hs, e⟩
theorem lst_bound {ps : List Pr} (hg : Good ps) : -1 ≤ lst ps ∧ lst ps ≤ 1114111 := by
  unfold lst
  cases hl : lastB ps with
  | none => exact ⟨Int.le_refl _, by decide⟩
  | some b =>
    obtain ⟨s, hs, e⟩ := last_mem hl
    obtain ⟨h1, h2, h3, -⟩ := hg.2 s hs
    exact ⟨by show -1 ≤ b; omega, by show b ≤ 1114111; omega⟩
theorem good_app {a b : List Pr} (h : Good (a ++ b)) : Good a ∧ ∀ s ∈ a, ∀ t ∈ b, s.b < t.a :=
  ⟨⟨(List.pairwise_append.1 h.1).1, fun s hs => h.2 s (List.mem_append_left _ hs)⟩, (List.pairwise_append.1 h.1).2.2⟩
theorem pat_in : ∀ {ps : List Pr} (_ : Good ps) {p : Pr} (_ : p ∈ ps) {c : Int}, p.a ≤ c → c ≤ p.b → patOf ps c = p
  | [], _, _, hp, _, _, _ => by cases hp
  | q :: t, hg, p, hp, c, h1, h2 => by
    have hg' : Good t := ⟨(List.pairwise_cons.1 hg.1).2, fun s hs => hg.2 s (List.mem_cons_of_mem _ hs)⟩
    unfold patOf
    rcases List.mem_cons.1 hp with rfl | hp
    · rw [List.find?_cons_of_pos (by simpa using ⟨h1, h2⟩)]
      rfl
    · have := (List.pairwise_cons.1 hg.1).1 p hp
      rw [List.find?_cons_of_neg (by simp; omega)]
      exact pat_in hg' hp h1 h2
theorem pat_gap {ps : List Pr} {c : Int} (h : ∀ s ∈ ps, ¬ (s.a ≤ c ∧ c ≤ s.b)) : patOf ps c = pr0 := by
  unfold patOf
  rw [List.find?_eq_none.2 (fun s hs => by simpa using h s hs)]
  rfl
theorem pat_end {ps : List Pr} (hg : Good ps) : patOf ps (lst ps + 1) = pr0 :=
  pat_gap fun s hs h => by have := lst_max hg s hs; omega
/-- The next row. -/
theorem next_row {ps pre : List Pr} {p : Pr} (hg : Good ps) (hp : pre ++ [p] <+: ps) : FitP p ∧ (-1 ≤ lst pre ∧ lst pre ≤ 1114111 ∧ lst pre < p.a) ∧ patOf ps p.a = p ∧ patOf ps p.b = p ∧ (lst pre + 1 < p.a → patOf ps (p.a - 1) = pr0) := by
  obtain ⟨r, rfl⟩ := hp
  have hm : p ∈ pre ++ [p] ++ r := by simp
  have hf := hg.2 p hm
  obtain ⟨h1, h2⟩ := good_app hg
  obtain ⟨h3, h4⟩ := good_app h1
  have hb := lst_bound h3
  have hlt : lst pre < p.a := by
    unfold lst
    cases hl : lastB pre with
    | none => have := hf.1; show (-1 : Int) < p.a; omega
    | some b =>
      obtain ⟨s, hs, e⟩ := last_mem hl
      have := h4 s hs p (List.mem_singleton.2 rfl)
      show b < p.a
      omega
  refine ⟨hf, ⟨hb.1, hb.2, hlt⟩, pat_in hg hm (Int.le_refl _) hf.2.1, pat_in hg hm hf.2.1 (Int.le_refl _), fun hgap => pat_gap fun s hs hc => ?_⟩
  rcases List.mem_append.1 hs with hs | hs
  · rcases List.mem_append.1 hs with hs | hs
    · have := lst_max h3 s hs; omega
    · rw [List.mem_singleton.1 hs] at hc; omega
  · have := h2 p (by simp) s hs
    have := hf.2.1
    omega
theorem tin_kept {A' : Nat → Prop} {w w' : World} {p A : Option Addr} {c : Nat} {ls : List Rw} (h : TIn w p A c ls) (hk : Kept A' w w') (hp : ∀ a, p = some a → A' a.block) (hA : 0 < ls.length → ∀ a, A = some a → A' a.block) : TIn w' p A c ls := by
  rcases h with h | ⟨b, rfl, hlt, hc, hS⟩
  · exact .inl h
  · exact .inr ⟨b, rfl, Nat.lt_of_lt_of_le hlt hk.1, hk.cell (a := ⟨b, 0, none⟩) (hp _ rfl) hc, hS.kept hk hA⟩
/-- Between two rows. -/
def RiI (w W0 : World) (L : Nat) (pre : List RwP) (W : World) : Prop :=
  (W.cell? ⟨L, 0, none⟩ = some (.int .i64 (lst (pre.map Prod.snd))) ∧ W.frozen? ⟨L, 0, none⟩ = false) ∧ ((W.cell? ⟨w.heap.size, 0, none⟩ = some (.bool false) ∧ W.frozen? ⟨w.heap.size, 0, none⟩ = false) ∧ (Kept (fun k => k ≠ w.heap.size ∧ k ≠ L) W0 W ∧ Below w.heap.size w W))
theorem rii_abide (w W0 : World) (L : Nat) (hw : w.heap.size ≤ W0.heap.size) : Abide 0 0 W0.heap.size (RiI w W0 L) :=
  Abide.and (abide_cell (n₀ := 0) (n₁ := 0) (fun (_ : List RwP) => ⟨L, 0, none⟩) (fun (xs : List RwP) => .int .i64 (lst (xs.map Prod.snd))) (fun _ => by omega)) (Abide.and (abide_cell (n₀ := 0) (n₁ := 0) (fun (_ : List RwP) => ⟨w.heap.size, 0, none⟩) (fun _ => .bool false) (fun _ => by omega)) (Abide.and (abide_kept _ W0 (fun k _ hk => ⟨hk, by omega⟩)) (abide_below w (.inr (by omega)) hw (Nat.le_refl _))))
def RwBox (x : RwP) (b : Nat) (W : World) : Prop :=
  W.cell? ⟨b, 0, none⟩ = some (.int .i64 x.1.a) ∧ (W.cell? ⟨b, 1, none⟩ = some (.int .i64 x.1.b) ∧ (W.cell? ⟨b, 2, none⟩ = some (.string (bs x.1.gc)) ∧ (W.cell? ⟨b, 3, none⟩ = some (.int .i64 x.1.ccc) ∧ W.cell? ⟨b, 5, none⟩ = some (.slice x.1.dp x.1.dm x.1.dc))))
theorem rwBox_abide (x : RwP) (b B : Nat) : Abide 0 0 B (fun (_ : Unit) W => RwBox x b W) :=
  Abide.and (cell_abide _ _) (Abide.and (cell_abide _ _) (Abide.and (cell_abide _ _) (Abide.and (cell_abide _ _) (cell_abide _ _))))
theorem rwRd_abide (N0 : Nat) (x : RwP) (B : Nat) : Abide 0 0 B (fun (_ : Unit) W => RwRd N0 x W) := by
  intro _ W W' row ⟨h, hN⟩ hg hr
  refine ⟨⟨h.1, h.2.1, h.2.2.1, h.2.2.2.1, h.2.2.2.2.1, h.2.2.2.2.2.1, h.2.2.2.2.2.2.1, fun hn => ?_⟩, Nat.le_trans hN hg.size⟩
  obtain ⟨b, off, e, hlt, hc⟩ := h.2.2.2.2.2.2.2 hn
  exact ⟨b, off, e, Nat.lt_of_lt_of_le hlt hg.size, fun j v hj => cell_kept (hc j v hj) hg (fun r e => (hr r e).elim (fun h => absurd h.2 (by omega)) (fun h => h.2))⟩
/-- The row has been gone through. -/
theorem ri_next {w W0 W : World} {L : Nat} {pre : List RwP} {x : RwP} (h : RiI w W0 L pre W) (hL : w.heap.size < L) (b : Int) (hb : b = x.2.b) (d : Nat) (os : Array Obj) :
    Kept (fun k => k ≠ w.heap.size ∧ k ≠ L) W ((grow (redrawn W d) os).setCell ⟨L, 0, none⟩ (.int .i64 b)) ∧ RiI w W0 L (pre ++ [x]) ((grow (redrawn W d) os).setCell ⟨L, 0, none⟩ (.int .i64 b)) := by
  have hbl := below_regrown W d os
  have hk1 : Kept (fun k => k ≠ w.heap.size ∧ k ≠ L) W ((grow (redrawn W d) os).setCell ⟨L, 0, none⟩ (.int .i64 b)) := (Kept.of_below hbl).trans (Kept.setCell _ _ _ (by simp))
  obtain ⟨⟨h1, h2⟩, ⟨h3, h4⟩, h5, h6⟩ := h
  have hLl := World.block_lt_of_cell? W _ h1
  have hHl := World.block_lt_of_cell? W _ h3
  have c1 := cell_regrown h1 d os
  have c3 := cell_regrown h3 d os
  have f1 := (hbl.frozen (p := ⟨L, 0, none⟩) hLl).trans h2
  have f3 := (hbl.frozen (p := ⟨w.heap.size, 0, none⟩) hHl).trans h4
  refine ⟨hk1, ⟨?_, ?_⟩, ⟨?_, ?_⟩, h5.trans hk1, (h6.trans (hbl.mono h6.size)).setCell (p := ⟨L, 0, none⟩) (by show w.heap.size ≤ L; omega) _⟩
  · rw [List.map_append, List.map_cons, List.map_nil, lst_snoc, ← hb]
    exact World.cell?_setCell_same' _ _ _ (by rw [c1]; rfl)
  · rw [World.frozen?_setCell]; exact f1
  · exact (World.cell?_of_block (a := ⟨w.heap.size, 0, none⟩) (heap_setCell_other _ ⟨L, 0, none⟩ w.heap.size _ (fun e => by have e : w.heap.size = L := (by simpa using e); omega))).trans c3
  · rw [World.frozen?_setCell]; exact f3
theorem regrown_in {P : Program} {f : FuncId} {args : Array Value} {w : World} {d m lq : Nat} {os : Array Obj} {v : Value}
    (h : Calls P f args (grow (redrawn w d) os) fun e w' => e = .returned v ∧ Below (grow (redrawn w d) os).heap.size (grow (redrawn w d) os) w') :
    CallsIn (Fence.wide.inRound lq) m P f args (grow (redrawn w d) os) fun e w'' => e = .returned v ∧ ∃ p : Regrown, w'' = grow (redrawn w p.d) p.os :=
  CallsIn.inRound lq (callsIn_wide.2 (Calls.regrown_of h))
end Go.Proofs.YtfmkhfjdihfppaaDoor
