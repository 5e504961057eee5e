/- A range over a function whose iterator has cells of its own (captured variables that it writes) or goes through another iterator itself: one law for who goes through. No program is spoken of. -/
import Derived.RangeFuncNested
import Derived.RangeFuncBound
import Derived.RangeFuncCalls
import Derived.RangeFuncLeaves
import Derived.WalkKit
import Derived.Deep.Draws
namespace Go.Proofs.Ytohhkogjphgimaa
open Go.RowKit

/-- The blocks of A that there were are as they were. -/
def Kept (A : Nat → Prop) (W W' : World) : Prop := W.heap.size ≤ W'.heap.size ∧ ∀ k, A k → k < W.heap.size → W'.heap[k]? = W.heap[k]?
theorem Kept.refl (A : Nat → Prop) (W : World) : Kept A W W := ⟨Nat.le_refl _, fun _ _ _ => rfl⟩
theorem Kept.trans {A : Nat → Prop} {W W1 W2 : World} (h : Kept A W W1) (k : Kept A W1 W2) : Kept A W W2 :=
  ⟨Nat.le_trans h.1 k.1, fun i hA hi => (k.2 i hA (Nat.lt_of_lt_of_le hi h.1)).trans (h.2 i hA hi)⟩
theorem Kept.mono {A A' : Nat → Prop} {W W' : World} (h : Kept A W W') (hA : ∀ k, A' k → A k) : Kept A' W W' := ⟨h.1, fun i hi hl => h.2 i (hA i hi) hl⟩
theorem Kept.of_below {A : Nat → Prop} {W W' : World} (h : Below W.heap.size W W') : Kept A W W' := ⟨h.size, fun k _ hk => h.block k hk⟩
theorem Kept.of_drew {A : Nat → Prop} (W : World) (q : Nat) : Kept A W (W.drewN q) := ⟨Nat.le_refl _, fun _ _ _ => rfl⟩
theorem Kept.alloc {A : Nat → Prop} (W : World) (o : Obj) : Kept A W (W.alloc o) := .of_below ((Below.refl _ _).alloc (Nat.le_refl _) _)
theorem Kept.grown {A : Nat → Prop} {W W' : World} {row : Option Nat} (h : W.grownBy W' row) (hr : ∀ r, row = some r → ¬ A r) : Kept A W W' := ⟨h.size, fun k hA hk => h.block k hk (fun e => hr k e.symm hA)⟩
theorem Kept.setCell {A : Nat → Prop} (W : World) (b : Nat) (v : Value) (hb : ¬ A b) : Kept A W (W.setCell ⟨b, 0, none⟩ v) :=
  .grown (grownBy_setCell' W b v) (fun r e => by cases e; exact hb)
theorem Kept.putObj {A : Nat → Prop} (W : World) (l : Nat) (o : Obj) (hb : ¬ A l) : Kept A W (W.putObj l o) :=
  .grown (grownBy_putObj' W l o) (fun r e => by cases e; exact hb)
theorem Kept.cell {A : Nat → Prop} {W W' : World} {a : Addr} {v : Value} (h : Kept A W W') (hA : A a.block) (hc : W.cell? a = some v) : W'.cell? a = some v := by
  obtain ⟨o, ho, _⟩ := cells_of_cell hc
  exact (World.cell?_of_block (h.2 _ hA (Array.getElem?_eq_some_iff.1 ho).1)).trans hc

/-- J is not turned by what the iterator does: new blocks, cells of blocks from n₀ to n₁, and whatever is no cells from B on. -/
def Abide {β : Type} (n₀ n₁ B : Nat) (J : β → World → Prop) : Prop :=
  ∀ s W W' row, J s W → W.grownBy W' row → (∀ r, row = some r → (n₀ ≤ r ∧ r < n₁) ∨ (B ≤ r ∧ ∃ o : Obj, W.heap[r]? = some o ∧ o.isCells = false)) → J s W'
theorem Abide.mono {β : Type} {n₀ n₁ m₀ m₁ B C : Nat} {J : β → World → Prop} (h : Abide n₀ n₁ B J) (hm : ∀ r, m₀ ≤ r → r < m₁ → n₀ ≤ r ∧ r < n₁) (hB : B ≤ C) : Abide m₀ m₁ C J :=
  fun s W W' row hs hg hr => h s W W' row hs hg (fun r e => (hr r e).elim (fun h => .inl (hm r h.1 h.2)) (fun h => .inr ⟨Nat.le_trans hB h.1, h.2⟩))
theorem Abide.and {β : Type} {n₀ n₁ B : Nat} {J K : β → World → Prop} (h : Abide n₀ n₁ B J) (k : Abide n₀ n₁ B K) : Abide n₀ n₁ B (fun s W => J s W ∧ K s W) :=
  fun s W W' row hs hg hr => ⟨h s W W' row hs.1 hg hr, k s W W' row hs.2 hg hr⟩
theorem Abide.pure {β : Type} (n₀ n₁ B : Nat) (p : β → Prop) : Abide n₀ n₁ B (fun s (_ : World) => p s) := fun _ _ _ _ hs _ _ => hs
theorem Abide.below {β : Type} {n₀ n₁ B : Nat} {J : β → World → Prop} (h : Abide n₀ n₁ B J) {s : β} {W W' : World} (hs : J s W) (hb : Below W.heap.size W W') : J s W' :=
  h s W W' none hs ⟨hb.os, hb.tape, hb.output, hb.size, fun k hk _ => hb.block k hk⟩ (fun r e => by cases e)
theorem Abide.put {β : Type} {n₀ n₁ B : Nat} {J : β → World → Prop} (h : Abide n₀ n₁ B J) {s : β} {W : World} {l : Nat} {o o' : Obj} (hs : J s W) (hB : B ≤ l) (hl : W.heap[l]? = some o) (ho : o.isCells = false) : J s (W.putObj l o') :=
  h s W _ (some l) hs (grownBy_putObj' W l o') (fun r e => by cases e; exact .inr ⟨hB, o, hl, ho⟩)
theorem Abide.alloc {β : Type} {n₀ n₁ B : Nat} {J : β → World → Prop} (h : Abide n₀ n₁ B J) {s : β} {W : World} (o : Obj) (hs : J s W) : J s (W.alloc o) :=
  h.below hs ((Below.refl _ _).alloc (Nat.le_refl _) _)
/-- A cell outside of n₀ to n₁. -/
theorem abide_cell {β : Type} {n₀ n₁ B : Nat} (a : β → Addr) (v : β → Value) (ha : ∀ s, ¬ (n₀ ≤ (a s).block ∧ (a s).block < n₁)) : Abide n₀ n₁ B (fun s W => W.cell? (a s) = some (v s) ∧ W.frozen? (a s) = false) := by
  intro s W W' row hs hg hr
  obtain ⟨o, ho, hc⟩ := cells_of_cell hs.1
  have hblk : W'.heap[(a s).block]? = W.heap[(a s).block]? := hg.block _ (Array.getElem?_eq_some_iff.1 ho).1 (fun e => by
    rcases hr _ e.symm with h | ⟨_, o', ho', hc'⟩
    · exact ha s h
    · rw [ho] at ho'; cases ho'; rw [hc] at hc'; cases hc')
  refine ⟨(World.cell?_of_block hblk).trans hs.1, ?_⟩
  have := hs.2
  unfold World.frozen? at this ⊢
  rw [hblk]
  exact this
/-- A slice's cells, or whatever hangs on some blocks alone, where these lie below n₀ (or from n₁ to B). -/
theorem abide_kept {β : Type} {n₀ n₁ B : Nat} (A : Nat → Prop) (w₀ : World) (hA : ∀ k, A k → k < w₀.heap.size → k < B ∧ ¬ (n₀ ≤ k ∧ k < n₁)) : Abide n₀ n₁ B (fun (_ : β) W => Kept A w₀ W) := by
  intro _ W W' row hs hg hr
  refine ⟨Nat.le_trans hs.1 hg.size, fun k hk hl => (hg.block k (Nat.lt_of_lt_of_le hl hs.1) (fun e => ?_)).trans (hs.2 k hk hl)⟩
  obtain ⟨h1, h2⟩ := hA k hk hl
  rcases hr _ e.symm with h | ⟨h, _⟩
  · exact h2 h
  · omega
theorem abide_below {β : Type} {n₀ n₁ B n : Nat} (w₀ : World) (h0 : n ≤ n₀ ∨ n₁ ≤ n₀) (hB : n ≤ B) (hn : n ≤ w₀.heap.size) : Abide n₀ n₁ B (fun (_ : β) W => Below n w₀ W) := by
  intro _ W W' row hs hg hr
  refine hs.grown hg (Nat.le_trans hn hs.size) (fun r e => ?_)
  rcases hr r e with h | ⟨h, _⟩ <;> omega

/-- What an iterator is that has blocks of its own. lo: where the loop's two blocks lie; A: the blocks that a round keeps. Rd: what a round may know of what it is handed. -/
def SeqOwn {α : Type} (F : Fence) (n : Nat) (P : Program) (g : Nat) (lb : Array Value) (encs : α → Array Value) (Rd : α → World → Prop) (A : Nat → Prop) (n₀ n₁ : Nat) (S Sp : List α → Prop) (N : Nat) (w : World) : Prop :=
  ∀ (l : Nat) (J Jx : List α → World → Prop) (W : World), Below w.heap.size w W → W.heap.size = w.heap.size + 2 → Abide n₀ n₁ W.heap.size J → Abide n₀ n₁ W.heap.size Jx →
    (∀ pre x W1, J pre W1 → Rd x W1 → pre.length < N → YieldAt F (n - 1) P l (encs x) W1 fun e W' =>
      ((e = .returned (.bool true) ∧ J (pre ++ [x]) W') ∨ (e = .returned (.bool false) ∧ Jx (pre ++ [x]) W')) ∧ Kept (fun k => A k ∧ k ≠ w.heap.size ∧ k ≠ w.heap.size + 1) W1 W') →
    J [] W →
    CallsIn F n P g (#[.func (.yield l) #[] #[]] ++ lb) W fun e W' => (∃ v, e = .returned v) ∧ ((∃ xs, S xs ∧ J xs W') ∨ (∃ pre, Sp pre ∧ Jx pre W'))

/-- How a round may end. -/
def roundEnd {α : Type} (A : Nat → Prop) (I : List α → World → Prop) (Ix : Code → List α → World → Prop) (xs : List α) (W : World) : Exit → Act → World → Prop
  | .normal, _, W' => Kept A W W' ∧ I xs W'
  | .ret, _, W' => Kept A W W' ∧ Ix .ret xs W'
  | .exit id, _, W' => Kept A W W' ∧ Ix (.exit id) xs W'
  | .goto t, _, W' => Kept A W W' ∧ Ix (.goto t) xs W'
  | .panic _, _, _ => False
  | .outgrown, _, _ => False

/-- The loop's record and the block of its rounds' deferred calls. -/
def Book (lo : Nat) (r : Loop) (W : World) : Prop := W.heap[lo + 1]? = some (.loop r) ∧ W.heap[lo]? = some (.deferred (some []))
theorem Book.put {lo : Nat} {r : Loop} {W : World} (h : Book lo r W) (r' : Loop) : Book lo r' (W.putObj (lo + 1) (.loop r')) :=
  ⟨World.putObj_heap_same (Array.getElem?_eq_some_iff.1 h.1).1, (World.putObj_heap_other (by omega)).trans h.2⟩
theorem Book.kept {lo : Nat} {r : Loop} {A : Nat → Prop} {W W' : World} (h : Book lo r W) (hk : Kept A W W') (h0 : A lo) (h1 : A (lo + 1)) : Book lo r W' :=
  ⟨(hk.2 _ h1 (Array.getElem?_eq_some_iff.1 h.1).1).trans h.1, (hk.2 _ h0 (Array.getElem?_eq_some_iff.1 h.2).1).trans h.2⟩
theorem Book.abide {β : Type} {lo n₀ n₁ B : Nat} (hn : n₁ ≤ lo) (hB : lo + 2 ≤ B) (r : Loop) : Abide n₀ n₁ B (fun (_ : β) W => Book lo r W) := by
  intro _ W W' row hs hg hr
  have key : ∀ k, lo ≤ k → k < lo + 2 → k < W.heap.size → W'.heap[k]? = W.heap[k]? := fun k h1 h2 h3 => hg.block k h3 (fun e => by
    rcases hr k e.symm with h | ⟨h, _⟩ <;> omega)
  exact ⟨(key _ (by omega) (by omega) (Array.getElem?_eq_some_iff.1 hs.1).1).trans hs.1, (key _ (by omega) (by omega) (Array.getElem?_eq_some_iff.1 hs.2).1).trans hs.2⟩

theorem range_own {F : Fence} {n : Nat} {P : Program} {α : Type} {g : Operand} {ps : Array Tmp} {assign body : Code} {Q : Exit → Act → World → Prop} {a : Act} {w : World}
    (hro : F.round = none) (hn : 1 ≤ n) {gf : Nat} {lb : Array Value} (hg : a.eval g = .func (.func gf) #[] lb) (hFg : F.fn gf) (eg : ∀ args w, (callFunc gf args).run P w = .ok (.enter gf args) w)
    {encs : α → Array Value} {Rd : α → World → Prop} {A : Nat → Prop} {n₀ n₁ : Nat} {S Sp : List α → Prop} {N : Nat} (hseq : SeqOwn F (n - 1) P gf lb encs Rd A n₀ n₁ S Sp N w)
    (hn₁ : n₁ ≤ w.heap.size) (hA0 : A w.heap.size) (hA1 : A (w.heap.size + 1)) (hps : ∀ x, (encs x).size = ps.size) (hRd : ∀ x, Abide n₀ n₁ w.heap.size (fun (_ : Unit) W => Rd x W))
    (I : List α → World → Prop) (Ix : Code → List α → World → Prop) (hI : Abide n₀ n₁ w.heap.size I) (hIx : ∀ c, Abide n₀ n₁ w.heap.size (Ix c)) (h0 : I [] w) (Ax : α → Act → World → Prop) (hAx : ∀ x a', Abide n₀ n₁ w.heap.size (fun (_ : Unit) W => Ax x a' W))
    (hassign : ∀ (l : Nat) (pre : List α) (x : α) (W : World) (K : Act → World → Prop), I pre W → Rd x W → (∀ a' W', Kept A W W' → I pre W' → Rd x W' → Ax x a' W' → K a' W') →
      assign.wpIn (F.inRound l) (n - 1 - 1) P (Exit.then K (fun _ _ _ => False)) { tmps := (ps.zip (encs x)).foldl (fun t (p, v) => t.setIfInBounds p v) a.tmps, defers := [] } W)
    (hbody : ∀ (l : Nat) (pre : List α) (x : α) (a' : Act) (W : World), I pre W → Rd x W → Ax x a' W → pre.length < N → body.wpIn (F.inRound l) (n - 1 - 1) P (roundEnd A I Ix (pre ++ [x]) W) a' W)
    (hdone : ∀ (D : Nat) (xs : List α) (W : World), w.heap.size ≤ D → S xs → I xs W → W.heap[D]? = some (.deferred (some [])) → Q .normal { a with defers := { target := .collected D, args := #[] } :: a.defers } W)
    (hstop : ∀ (D : Nat) (c : Code) (pre : List α) (W : World), w.heap.size ≤ D → Sp pre → Ix c pre W → W.heap[D]? = some (.deferred (some [])) → c.wpIn F n P Q { a with defers := { target := .collected D, args := #[] } :: a.defers } W) :
    (Code.rangeFunc g ps assign body).wpIn F n P Q a w := by
  refine wpIn_rangeFunc fun fn hfn => ?_
  rw [hro]
  generalize hlo : w.heap.size = lo at *
  have mk : ∀ st pe, ∃ r : Loop, r = { state := st, pending := pe, fn := fn, tmps := a.tmps, params := ps, assign := assign, body := body, defers := lo } := fun _ _ => ⟨_, rfl⟩
  obtain ⟨r0, e0⟩ := mk .ready none
  have hbk : Book lo r0 ((w.alloc (.deferred (some []))).alloc (.loop r0)) := by
    have h1 := World.alloc_heap_new (w.alloc (.deferred (some []))) (.loop r0)
    rw [World.size_alloc, hlo] at h1
    have h2 := World.alloc_heap_new w (.deferred (some []))
    rw [hlo] at h2
    exact ⟨h1, (Below.heap_alloc _ _ _ (by rw [World.size_alloc, hlo]; omega)).trans h2⟩
  have hbw : Below w.heap.size w ((w.alloc (.deferred (some []))).alloc (.loop r0)) := ((Below.refl _ w).alloc (Nat.le_refl _) _).alloc (by simp) _
  have hI1 : I [] ((w.alloc (.deferred (some []))).alloc (.loop r0)) := hI.below h0 hbw
  have hsz : ((w.alloc (.deferred (some []))).alloc (.loop r0)).heap.size = lo + 2 := by rw [World.size_alloc, World.size_alloc, hlo]
  have hent : (Instr.enterLoop fn a.tmps ps assign body none).run P w = .ok (lo + 1, [{ target := .collected lo, args := #[] }]) ((w.alloc (.deferred (some []))).alloc (.loop r0)) := by
    rw [e0, ← hlo]; exact run_enterLoop_outer _ _ _ _ _
  generalize (w.alloc (.deferred (some []))).alloc (.loop r0) = W1 at hbk hbw hI1 hsz hent
  refine ⟨lo + 1, _, W1, { target := .fn (.func gf) lb, args := #[.func (.yield (lo + 1)) #[] #[]] }, W1, gf, #[.func (.yield (lo + 1)) #[] #[]] ++ lb, W1, hent, ?_, ?_, ?_, fun _ => hn, ?_⟩
  · simp only [resolve, hg]
    simp [go_sem]
  · intro f' hf'
    simp [Target.leads] at hf'
    subst hf'
    exact hFg
  · simp [invoke, go_sem, eg]
  have hmn : ∀ r, n₀ ≤ r → r < n₁ → n₀ ≤ r ∧ r < n₁ := fun _ h h' => ⟨h, h'⟩
  have hle : lo ≤ W1.heap.size := by omega
  have hs1 := hseq (lo + 1) (fun pre W => I pre W ∧ Book lo r0 W) (fun pre W => ∃ c, Ix c pre W ∧ Book lo { r0 with state := .done, pending := some c } W) W1 hbw (by rw [hsz, hlo])
    ((hI.mono hmn hle).and (Book.abide hn₁ (by omega) r0))
    (fun s X Y row hs hg hr => by
      obtain ⟨c, h1, h2⟩ := hs
      exact ⟨c, (hIx c).mono hmn hle s X Y row h1 hg hr, Book.abide (β := Unit) hn₁ (by omega) _ () X Y row h2 hg hr⟩) ?_ ⟨hI1, hbk⟩
  · refine hs1.mono ?_
    rintro e W2 ⟨⟨v, rfl⟩, (⟨xs, hS, hi, hb⟩ | ⟨pre, hSp, c, hi, hb⟩)⟩
    · have he := run_endLoop (P := P) hb.1 (by rw [e0]; simp)
      refine ⟨none, _, by rw [he, e0], hdone lo xs _ (Nat.le_refl _) hS (hI.put hi (by omega) hb.1 rfl) (hb.put _).2⟩
    · have he := run_endLoop (P := P) hb.1 (by simp)
      exact ⟨some c, _, he, hstop lo c pre _ (Nat.le_refl _) hSp ((hIx c).put hi (by omega) hb.1 rfl) (hb.put _).2⟩
  · rintro pre x W ⟨hi, hb⟩ hrd hlen
    have hy := run_yield (P := P) (args := encs x) hb.1 (by rw [e0]; exact hps x)
    refine ⟨fn, _, assign, body, by rw [hy, e0], roundIn_of_wpIn hfn ?_⟩
    refine hassign _ pre x W _ hi hrd ?_
    intro a' Wa hka hia hrda hax
    have hba := hb.kept hka hA0 hA1
    refine ⟨_, run_beginRound hba.1 (by rw [e0]), ?_⟩
    have hbb := hba.put { r0 with state := .busy }
    have kp : Kept (fun k => A k ∧ k ≠ w.heap.size ∧ k ≠ w.heap.size + 1) Wa (Wa.putObj (lo + 1) (.loop { r0 with state := .busy })) := Kept.putObj _ _ _ (by rw [hlo]; omega)
    have kw : Kept (fun k => A k ∧ k ≠ w.heap.size ∧ k ≠ w.heap.size + 1) W Wa := hka.mono (fun _ h => h.1)
    have kb := kw.trans kp
    refine wpIn_mono (hbody (lo + 1) pre x a' _ (hI.put hia (by omega) hba.1 rfl) ((hRd x).put (s := ()) hrda (by omega) hba.1 rfl) ((hAx x a').put (s := ()) hax (by omega) hba.1 rfl) hlen) ?_
    generalize (Wa.putObj (lo + 1) (.loop { r0 with state := .busy })) = Wb at hbb kb
    have fin : ∀ (jump : Option Code) (W3 : World), Kept A Wb W3 →
        (Instr.endRound (lo + 1) jump).run P W3 = .ok (.bool jump.isNone) (W3.putObj (lo + 1) (.loop { r0 with state := if jump.isNone then .ready else .done, pending := jump })) ∧
        Book lo { r0 with state := .busy } W3 ∧ Book lo { r0 with state := if jump.isNone then .ready else .done, pending := jump } (W3.putObj (lo + 1) (.loop { r0 with state := if jump.isNone then .ready else .done, pending := jump })) ∧
        Kept (fun k => A k ∧ k ≠ w.heap.size ∧ k ≠ w.heap.size + 1) W (W3.putObj (lo + 1) (.loop { r0 with state := if jump.isNone then .ready else .done, pending := jump })) := by
      intro jump W3 hk3
      have hb3 := hbb.kept hk3 hA0 hA1
      exact ⟨run_endRound (P := P) (r := { r0 with state := .busy }) jump hb3.1, hb3, hb3.put _, (kb.trans (hk3.mono (fun _ h => h.1))).trans (Kept.putObj _ _ _ (by rw [hlo]; omega))⟩
    rintro e a3 W3 hp
    cases e with
    | normal =>
      obtain ⟨hk3, hi3⟩ := hp
      obtain ⟨hr, hl3, hl4, hk4⟩ := fin none W3 hk3
      refine ⟨_, _, hr, .inl ⟨rfl, hI.put hi3 (by omega) hl3.1 rfl, ?_⟩, hk4⟩
      have e1 : ({ r0 with state := if (none : Option Code).isNone then .ready else .done, pending := none } : Loop) = r0 := by rw [e0]; rfl
      rw [e1] at hl4 ⊢
      exact hl4
    | ret =>
      obtain ⟨hk3, hi3⟩ := hp
      obtain ⟨hr, hl3, hl4, hk4⟩ := fin (some .ret) W3 hk3
      exact ⟨_, _, hr, .inr ⟨rfl, .ret, (hIx _).put hi3 (by omega) hl3.1 rfl, hl4⟩, hk4⟩
    | exit id =>
      obtain ⟨hk3, hi3⟩ := hp
      obtain ⟨hr, hl3, hl4, hk4⟩ := fin (some (.exit id)) W3 hk3
      exact ⟨_, _, hr, .inr ⟨rfl, .exit id, (hIx _).put hi3 (by omega) hl3.1 rfl, hl4⟩, hk4⟩
    | goto t =>
      obtain ⟨hk3, hi3⟩ := hp
      obtain ⟨hr, hl3, hl4, hk4⟩ := fin (some (.goto t)) W3 hk3
      exact ⟨_, _, hr, .inr ⟨rfl, .goto t, (hIx _).put hi3 (by omega) hl3.1 rfl, hl4⟩, hk4⟩
    | panic ch => exact hp.elim
    | outgrown => exact hp.elim

/-- The same, where the loop's variables lie in slots. -/
theorem range_own1 {F : Fence} {n : Nat} {P : Program} {α : Type} {g : Operand} {ps : Array Tmp} {assign body : Code} {Q : Exit → Act → World → Prop} {a : Act} {w : World}
    (hro : F.round = none) (hn : 1 ≤ n) {gf : Nat} {lb : Array Value} (hg : a.eval g = .func (.func gf) #[] lb) (hFg : F.fn gf) (eg : ∀ args w, (callFunc gf args).run P w = .ok (.enter gf args) w)
    {encs : α → Array Value} {Rd : α → World → Prop} {A : Nat → Prop} {n₀ n₁ : Nat} {S Sp : List α → Prop} {N : Nat} (hseq : SeqOwn F (n - 1) P gf lb encs Rd A n₀ n₁ S Sp N w)
    (hn₁ : n₁ ≤ w.heap.size) (hA0 : A w.heap.size) (hA1 : A (w.heap.size + 1)) (hps : ∀ x, (encs x).size = ps.size) (hRd : ∀ x, Abide n₀ n₁ w.heap.size (fun (_ : Unit) W => Rd x W))
    (I : List α → World → Prop) (Ix : Code → List α → World → Prop) (hI : Abide n₀ n₁ w.heap.size I) (hIx : ∀ c, Abide n₀ n₁ w.heap.size (Ix c)) (h0 : I [] w) (a₁ : α → Act)
    (hassign : ∀ (l : Nat) (x : α) (W : World) (K : Act → World → Prop), K (a₁ x) W →
      assign.wpIn (F.inRound l) (n - 1 - 1) P (Exit.then K (fun _ _ _ => False)) { tmps := (ps.zip (encs x)).foldl (fun t (p, v) => t.setIfInBounds p v) a.tmps, defers := [] } W)
    (hbody : ∀ (l : Nat) (pre : List α) (x : α) (W : World), I pre W → Rd x W → pre.length < N → body.wpIn (F.inRound l) (n - 1 - 1) P (roundEnd A I Ix (pre ++ [x]) W) (a₁ x) W)
    (hdone : ∀ (D : Nat) (xs : List α) (W : World), w.heap.size ≤ D → S xs → I xs W → W.heap[D]? = some (.deferred (some [])) → Q .normal { a with defers := { target := .collected D, args := #[] } :: a.defers } W)
    (hstop : ∀ (D : Nat) (c : Code) (pre : List α) (W : World), w.heap.size ≤ D → Sp pre → Ix c pre W → W.heap[D]? = some (.deferred (some [])) → c.wpIn F n P Q { a with defers := { target := .collected D, args := #[] } :: a.defers } W) :
    (Code.rangeFunc g ps assign body).wpIn F n P Q a w :=
  range_own hro hn hg hFg eg hseq hn₁ hA0 hA1 hps hRd I Ix hI hIx h0 (fun x a' _ => a' = a₁ x) (fun x a' => Abide.pure _ _ _ _) (fun l pre x W K hi hr h => hassign l x W K (h _ _ (Kept.refl _ _) hi hr rfl))
    (fun l pre x a' W hi hr e hl => by rw [e]; exact hbody l pre x W hi hr hl) hdone hstop
/-- The same, where the loop's variable lies in a block of its own, laid anew in each round. -/
theorem range_own2 {F : Fence} {n : Nat} {P : Program} {α : Type} {g : Operand} {ps : Array Tmp} {assign body : Code} {Q : Exit → Act → World → Prop} {a : Act} {w : World}
    (hro : F.round = none) (hn : 1 ≤ n) {gf : Nat} {lb : Array Value} (hg : a.eval g = .func (.func gf) #[] lb) (hFg : F.fn gf) (eg : ∀ args w, (callFunc gf args).run P w = .ok (.enter gf args) w)
    {encs : α → Array Value} {Rd : α → World → Prop} {A : Nat → Prop} {n₀ n₁ : Nat} {S Sp : List α → Prop} {N : Nat} (hseq : SeqOwn F (n - 1) P gf lb encs Rd A n₀ n₁ S Sp N w)
    (hn₁ : n₁ ≤ w.heap.size) (hA0 : A w.heap.size) (hA1 : A (w.heap.size + 1)) (hps : ∀ x, (encs x).size = ps.size) (hRd : ∀ x, Abide n₀ n₁ w.heap.size (fun (_ : Unit) W => Rd x W))
    (I : List α → World → Prop) (Ix : Code → List α → World → Prop) (hI : Abide n₀ n₁ w.heap.size I) (hIx : ∀ c, Abide n₀ n₁ w.heap.size (Ix c)) (h0 : I [] w) (Cx : α → Nat → World → Prop) (hCx : ∀ x b, Abide n₀ n₁ w.heap.size (fun (_ : Unit) W => Cx x b W)) (a₁ : α → Nat → Act)
    (hassign : ∀ (l : Nat) (pre : List α) (x : α) (W : World) (K : Act → World → Prop), I pre W → Rd x W → (∀ b W', Kept A W W' → I pre W' → Rd x W' → Cx x b W' → K (a₁ x b) W') →
      assign.wpIn (F.inRound l) (n - 1 - 1) P (Exit.then K (fun _ _ _ => False)) { tmps := (ps.zip (encs x)).foldl (fun t (p, v) => t.setIfInBounds p v) a.tmps, defers := [] } W)
    (hbody : ∀ (l : Nat) (pre : List α) (x : α) (b : Nat) (W : World), I pre W → Rd x W → Cx x b W → pre.length < N → body.wpIn (F.inRound l) (n - 1 - 1) P (roundEnd A I Ix (pre ++ [x]) W) (a₁ x b) W)
    (hdone : ∀ (D : Nat) (xs : List α) (W : World), w.heap.size ≤ D → S xs → I xs W → W.heap[D]? = some (.deferred (some [])) → Q .normal { a with defers := { target := .collected D, args := #[] } :: a.defers } W)
    (hstop : ∀ (D : Nat) (c : Code) (pre : List α) (W : World), w.heap.size ≤ D → Sp pre → Ix c pre W → W.heap[D]? = some (.deferred (some [])) → c.wpIn F n P Q { a with defers := { target := .collected D, args := #[] } :: a.defers } W) :
    (Code.rangeFunc g ps assign body).wpIn F n P Q a w :=
  range_own hro hn hg hFg eg hseq hn₁ hA0 hA1 hps hRd I Ix hI hIx h0 (fun x a' W => ∃ b, a' = a₁ x b ∧ Cx x b W)
    (fun x a' s W W' row hs hg hr => by obtain ⟨b, e, h⟩ := hs; exact ⟨b, e, hCx x b () W W' row h hg hr⟩)
    (fun l pre x W K hi hr h => hassign l pre x W K hi hr (fun b W' hk hi' hr' hc => h _ W' hk hi' hr' ⟨b, rfl, hc⟩))
    (fun l pre x a' W hi hr e hl => by obtain ⟨b, rfl, hc⟩ := e; exact hbody l pre x b W hi hr hc hl) hdone hstop
end Go.Proofs.Ytohhkogjphgimaa
