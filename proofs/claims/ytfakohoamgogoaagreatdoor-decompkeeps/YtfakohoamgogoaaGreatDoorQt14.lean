/- A range over a function whose body keeps all that it does not own itself, where what it owns may move from round to round; no program is spoken of. -/
/- What add of the program's follower leaves behind. -/
import Derived.Test.YtfakohoamgogoaaGreatDoorQt02
import Derived.Shelf.Abstract
import Derived.Test.YtfakohoamgogoaaGreatDoorQt13
import Derived.Test.YtfakohoamgogoaaGreatDoorQt08
import Derived.Deep.AppendLies
import Derived.Deep.RegionHeld3
namespace Go.Proofs.YtfakohoamgogoaaGreatDoor
open Go.RowKit

/-- What was in A is as it was, and still in A. -/
def Hold (A : World → Nat → Prop) (W W' : World) : Prop := W.heap.size ≤ W'.heap.size ∧ ∀ k, A W k → k < W.heap.size → W'.heap[k]? = W.heap[k]? ∧ A W' k
theorem Hold.refl (A : World → Nat → Prop) (W : World) : Hold A W W := ⟨Nat.le_refl _, fun _ h _ => ⟨rfl, h⟩⟩
theorem Hold.trans {A : World → Nat → Prop} {W W1 W2 : World} (h : Hold A W W1) (k : Hold A W1 W2) : Hold A W W2 :=
  ⟨Nat.le_trans h.1 k.1, fun i hA hi => have a := h.2 i hA hi; have b := k.2 i a.2 (Nat.lt_of_lt_of_le hi h.1); ⟨b.1.trans a.1, b.2⟩⟩
/-- A is not turned by growth, nor by what happens to blocks that are no cells. -/
def Lets (A : World → Nat → Prop) : Prop := ∀ W W' row k, A W k → W.grownBy W' row → (∀ r, row = some r → ∃ o : Obj, W.heap[r]? = some o ∧ o.isCells = false) → A W' k
theorem grown_below {w w' : World} (h : Below w.heap.size w w') : w.grownBy w' none := ⟨h.os, h.tape, h.output, h.size, fun k hk _ => h.block k hk⟩
theorem Lets.below {A : World → Nat → Prop} (h : Lets A) {W W' : World} {k : Nat} (ha : A W k) (hb : Below W.heap.size W W') : A W' k := h W W' none k ha (grown_below hb) (fun r e => by cases e)
theorem Lets.put {A : World → Nat → Prop} (h : Lets A) {W : World} {k l : Nat} {o o' : Obj} (ha : A W k) (hl : W.heap[l]? = some o) (ho : o.isCells = false) : A (W.putObj l o') k := h W _ (some l) k ha (grownBy_putObj' W l o') (fun r e => by cases e; exact ⟨o, hl, ho⟩)
theorem Hold.of_below {A : World → Nat → Prop} (hL : Lets A) {W W' : World} (h : Below W.heap.size W W') : Hold A W W' := ⟨h.size, fun k ha hk => ⟨h.block k hk, hL.below ha h⟩⟩
theorem Hold.put {A : World → Nat → Prop} (hL : Lets A) {W : World} {l : Nat} {o o' : Obj} (hl : W.heap[l]? = some o) (ho : o.isCells = false) : Hold (fun W k => A W k ∧ k ≠ l) W (W.putObj l o') :=
  ⟨(grownBy_putObj' W l o').size, fun _ ha _ => ⟨World.putObj_heap_other ha.2, hL.put ha.1 hl ho, ha.2⟩⟩
theorem Hold.cell {A : World → Nat → Prop} {W W' : World} {a : Addr} {v : Value} (h : Hold A W W') (hA : A W a.block) (hc : W.cell? a = some v) : W'.cell? a = some v := by
  obtain ⟨o, ho, _⟩ := cells_of_cell hc
  exact (World.cell?_of_block (h.2 _ hA (Array.getElem?_eq_some_iff.1 ho).1).1).trans hc
theorem Lets.and {A : World → Nat → Prop} (h : Lets A) (p : Nat → Prop) : Lets (fun W k => A W k ∧ p k) := fun W W' row k ha hg hr => ⟨h W W' row k ha.1 hg hr, ha.2⟩
theorem Lets.abide {A : World → Nat → Prop} {β : Type} (h : Lets A) (k B : Nat) : Abide 0 0 B (fun (_ : β) W => A W k) := fun _ W W' row ha hg hr => h W W' row k ha hg (fun r e => (hr r e).elim (fun h => absurd h.2 (by omega)) (fun h => h.2))

def SeqFree {α : Type} (F : Fence) (n : Nat) (P : Program) (g : Nat) (lb : Array Value) (encs : α → Array Value) (Rd : α → World → Prop) (A : World → Nat → Prop) (S Sp : List α → Prop) (N : Nat) (w : World) : Prop :=
  ∀ (l : Nat) (J Jx : List α → World → Prop) (W : World), Below w.heap.size w W → W.heap.size = w.heap.size + 2 → Abide 0 0 W.heap.size J → Abide 0 0 W.heap.size Jx → (∀ s W, J s W → ∀ k, W.heap.size ≤ k → A W k) →
    (∀ pre x W1, J pre W1 → Rd x W1 → pre.length < N → YieldAt F (n - 1) P l (encs x) W1 fun e W' =>
      ((e = .returned (.bool true) ∧ J (pre ++ [x]) W') ∨ (e = .returned (.bool false) ∧ Jx (pre ++ [x]) W')) ∧ Hold (fun W k => A W k ∧ k ≠ w.heap.size ∧ k ≠ w.heap.size + 1) W1 W') →
    J [] W →
    CallsIn F n P g (#[.func (.yield l) #[] #[]] ++ lb) W fun e W' => (∃ v, e = .returned v) ∧ ((∃ xs, S xs ∧ J xs W') ∨ (∃ pre, Sp pre ∧ Jx pre W'))

def freeEnd {α : Type} (A : World → Nat → Prop) (I : List α → World → Prop) (Ix : Code → List α → World → Prop) (xs : List α) (W : World) : Exit → Act → World → Prop
  | .normal, _, W' => Hold A W W' ∧ I xs W'
  | .ret, _, W' => Hold A W W' ∧ Ix .ret xs W'
  | .exit id, _, W' => Hold A W W' ∧ Ix (.exit id) xs W'
  | .goto t, _, W' => Hold A W W' ∧ Ix (.goto t) xs W'
  | .panic _, _, _ => False
  | .outgrown, _, _ => False
theorem Book.hold {lo : Nat} {r : Loop} {A : World → Nat → Prop} {W W' : World} (h : Book lo r W) (hk : Hold A W W') (h0 : A W lo) (h1 : A W (lo + 1)) : Book lo r W' ∧ A W' lo ∧ A W' (lo + 1) :=
  have a := hk.2 _ h1 (Array.getElem?_eq_some_iff.1 h.1).1
  have b := hk.2 _ h0 (Array.getElem?_eq_some_iff.1 h.2).1
  ⟨⟨a.1.trans h.1, b.1.trans h.2⟩, b.2, a.2⟩

theorem range_free {F : Fence} {n : Nat} {P : Program} {α : Type} {g : Operand} {ps : Array Tmp} {assign body : Code} {Q : Exit → Act → World → Prop} {a : Act} {w : World}
    (hro : F.round = none) (hn : 1 ≤ n) {gf : Nat} {lb : Array Value} (hg : a.eval g = .func (.func gf) #[] lb) (hFg : F.fn gf) (eg : ∀ args w, (callFunc gf args).run P w = .ok (.enter gf args) w)
    {encs : α → Array Value} {Rd : α → World → Prop} {A : World → Nat → Prop} {S Sp : List α → Prop} {N : Nat} (hseq : SeqFree F (n - 1) P gf lb encs Rd A S Sp N w)
    (hL : Lets A) (hps : ∀ x, (encs x).size = ps.size) (hRd : ∀ x, Abide 0 0 w.heap.size (fun (_ : Unit) W => Rd x W))
    (I : List α → World → Prop) (Ix : Code → List α → World → Prop) (hI : Abide 0 0 w.heap.size I) (hIx : ∀ c, Abide 0 0 w.heap.size (Ix c)) (hfr : ∀ s W, I s W → ∀ k, W.heap.size ≤ k → A W k) (h0 : I [] w) (Ax : α → Act → World → Prop) (hAx : ∀ x a', Abide 0 0 w.heap.size (fun (_ : Unit) W => Ax x a' W))
    (hassign : ∀ (l : Nat) (pre : List α) (x : α) (W : World) (K : Act → World → Prop), I pre W → Rd x W → (∀ a' W', Hold A W W' → I pre W' → Rd x W' → Ax x a' W' → K a' W') →
      assign.wpIn (F.inRound l) (n - 1 - 1) P (Exit.then K (fun _ _ _ => False)) { tmps := (ps.zip (encs x)).foldl (fun t (p, v) => t.setIfInBounds p v) a.tmps, defers := [] } W)
    (hbody : ∀ (l : Nat) (pre : List α) (x : α) (a' : Act) (W : World), I pre W → Rd x W → Ax x a' W → pre.length < N → body.wpIn (F.inRound l) (n - 1 - 1) P (freeEnd A I Ix (pre ++ [x]) W) a' W)
    (hdone : ∀ (D : Nat) (xs : List α) (W : World), w.heap.size ≤ D → S xs → I xs W → W.heap[D]? = some (.deferred (some [])) → Q .normal { a with defers := { target := .collected D, args := #[] } :: a.defers } W)
    (hstop : ∀ (D : Nat) (c : Code) (pre : List α) (W : World), w.heap.size ≤ D → Sp pre → Ix c pre W → W.heap[D]? = some (.deferred (some [])) → c.wpIn F n P Q { a with defers := { target := .collected D, args := #[] } :: a.defers } W) :
    (Code.rangeFunc g ps assign body).wpIn F n P Q a w := by
  refine wpIn_rangeFunc fun fn hfn => ?_
  rw [hro]
  generalize hlo : w.heap.size = lo at *
  have mk : ∀ st pe, ∃ r : Loop, r = { state := st, pending := pe, fn := fn, tmps := a.tmps, params := ps, assign := assign, body := body, defers := lo } := fun _ _ => ⟨_, rfl⟩
  obtain ⟨r0, e0⟩ := mk .ready none
  have hbk : Book lo r0 ((w.alloc (.deferred (some []))).alloc (.loop r0)) := by
    have h1 := World.alloc_heap_new (w.alloc (.deferred (some []))) (.loop r0)
    rw [World.size_alloc, hlo] at h1
    have h2 := World.alloc_heap_new w (.deferred (some []))
    rw [hlo] at h2
    exact ⟨h1, (Below.heap_alloc _ _ _ (by rw [World.size_alloc, hlo]; omega)).trans h2⟩
  have hbw : Below w.heap.size w ((w.alloc (.deferred (some []))).alloc (.loop r0)) := ((Below.refl _ w).alloc (Nat.le_refl _) _).alloc (by simp) _
  have hI1 : I [] ((w.alloc (.deferred (some []))).alloc (.loop r0)) := hI.below h0 hbw
  have hA0 : A ((w.alloc (.deferred (some []))).alloc (.loop r0)) lo := hL.below (hfr _ _ h0 lo (by omega)) hbw
  have hA1 : A ((w.alloc (.deferred (some []))).alloc (.loop r0)) (lo + 1) := hL.below (hfr _ _ h0 (lo + 1) (by omega)) hbw
  have hsz : ((w.alloc (.deferred (some []))).alloc (.loop r0)).heap.size = lo + 2 := by rw [World.size_alloc, World.size_alloc, hlo]
  have hent : (Instr.enterLoop fn a.tmps ps assign body none).run P w = .ok (lo + 1, [{ target := .collected lo, args := #[] }]) ((w.alloc (.deferred (some []))).alloc (.loop r0)) := by
    rw [e0, ← hlo]; exact run_enterLoop_outer _ _ _ _ _
  generalize (w.alloc (.deferred (some []))).alloc (.loop r0) = W1 at hbk hbw hI1 hsz hent hA0 hA1
  refine ⟨lo + 1, _, W1, { target := .fn (.func gf) lb, args := #[.func (.yield (lo + 1)) #[] #[]] }, W1, gf, #[.func (.yield (lo + 1)) #[] #[]] ++ lb, W1, hent, ?_, ?_, ?_, fun _ => hn, ?_⟩
  · simp only [resolve, hg]
    simp [go_sem]
  · intro f' hf'
    simp [Target.leads] at hf'
    subst hf'
    exact hFg
  · simp [invoke, go_sem, eg]
  have hmn : ∀ r, 0 ≤ r → r < 0 → 0 ≤ r ∧ r < 0 := fun _ h h' => ⟨h, h'⟩
  have hle : lo ≤ W1.heap.size := by omega
  have hs1 := hseq (lo + 1) (fun pre W => I pre W ∧ (Book lo r0 W ∧ (A W lo ∧ A W (lo + 1)))) (fun pre W => ∃ c, Ix c pre W ∧ Book lo { r0 with state := .done, pending := some c } W) W1 hbw (by rw [hsz, hlo])
    ((hI.mono hmn hle).and ((Book.abide (Nat.zero_le _) (by omega) r0).and ((hL.abide lo _).and (hL.abide (lo + 1) _))))
    (fun s X Y row hs hg hr => by
      obtain ⟨c, h1, h2⟩ := hs
      exact ⟨c, (hIx c).mono hmn hle s X Y row h1 hg hr, Book.abide (β := Unit) (Nat.zero_le _) (by omega) _ () X Y row h2 hg hr⟩) (fun s W hs => hfr s W hs.1) ?_ ⟨hI1, hbk, hA0, hA1⟩
  · refine hs1.mono ?_
    rintro e W2 ⟨⟨v, rfl⟩, (⟨xs, hS, hi, hb, -⟩ | ⟨pre, hSp, c, hi, hb⟩)⟩
    · have he := run_endLoop (P := P) hb.1 (by rw [e0]; simp)
      refine ⟨none, _, by rw [he, e0], hdone lo xs _ (Nat.le_refl _) hS (hI.put hi (by omega) hb.1 rfl) (hb.put _).2⟩
    · have he := run_endLoop (P := P) hb.1 (by simp)
      exact ⟨some c, _, he, hstop lo c pre _ (Nat.le_refl _) hSp ((hIx c).put hi (by omega) hb.1 rfl) (hb.put _).2⟩
  · rintro pre x W ⟨hi, hb, ha0, ha1⟩ hrd hlen
    have hy := run_yield (P := P) (args := encs x) hb.1 (by rw [e0]; exact hps x)
    refine ⟨fn, _, assign, body, by rw [hy, e0], roundIn_of_wpIn hfn ?_⟩
    refine hassign _ pre x W _ hi hrd ?_
    intro a' Wa hka hia hrda hax
    obtain ⟨hba, hc0, hc1⟩ := hb.hold hka ha0 ha1
    refine ⟨_, run_beginRound hba.1 (by rw [e0]), ?_⟩
    have hbb := hba.put { r0 with state := .busy }
    have low : ∀ {X Y : World}, Hold (fun W k => A W k) X Y → Hold (fun W k => A W k ∧ k ≠ lo ∧ k ≠ lo + 1) X Y := fun h => ⟨h.1, fun k ha hk => have q := h.2 k ha.1 hk; ⟨q.1, q.2, ha.2⟩⟩
    have kput : ∀ {X : World} {o' : Obj}, (∃ o : Obj, X.heap[lo + 1]? = some o ∧ o.isCells = false) → Hold (fun W k => A W k ∧ k ≠ lo ∧ k ≠ lo + 1) X (X.putObj (lo + 1) o') := fun {X o'} ⟨o, h1, h2⟩ =>
      have q := Hold.put (A := A) (o' := o') hL h1 h2
      ⟨q.1, fun k ha hk => have p := q.2 k ⟨ha.1, ha.2.2⟩ hk; ⟨p.1, p.2.1, ha.2⟩⟩
    have kb : Hold (fun W k => A W k ∧ k ≠ lo ∧ k ≠ lo + 1) W (Wa.putObj (lo + 1) (.loop { r0 with state := .busy })) := (low hka).trans (kput ⟨_, hba.1, rfl⟩)
    have hd0 : A (Wa.putObj (lo + 1) (.loop { r0 with state := .busy })) lo := hL.put hc0 hba.1 rfl
    have hd1 : A (Wa.putObj (lo + 1) (.loop { r0 with state := .busy })) (lo + 1) := hL.put hc1 hba.1 rfl
    rw [hlo]
    refine wpIn_mono (hbody (lo + 1) pre x a' _ (hI.put hia (by omega) hba.1 rfl) ((hRd x).put (s := ()) hrda (by omega) hba.1 rfl) ((hAx x a').put (s := ()) hax (by omega) hba.1 rfl) hlen) ?_
    generalize (Wa.putObj (lo + 1) (.loop { r0 with state := .busy })) = Wb at hbb kb hd0 hd1
    have fin : ∀ (jump : Option Code) (W3 : World), Hold A Wb W3 →
        (Instr.endRound (lo + 1) jump).run P W3 = .ok (.bool jump.isNone) (W3.putObj (lo + 1) (.loop { r0 with state := if jump.isNone then .ready else .done, pending := jump })) ∧
        Book lo { r0 with state := .busy } W3 ∧ Book lo { r0 with state := if jump.isNone then .ready else .done, pending := jump } (W3.putObj (lo + 1) (.loop { r0 with state := if jump.isNone then .ready else .done, pending := jump })) ∧
        Hold (fun W k => A W k ∧ k ≠ lo ∧ k ≠ lo + 1) W (W3.putObj (lo + 1) (.loop { r0 with state := if jump.isNone then .ready else .done, pending := jump })) ∧
        A (W3.putObj (lo + 1) (.loop { r0 with state := if jump.isNone then .ready else .done, pending := jump })) lo ∧ A (W3.putObj (lo + 1) (.loop { r0 with state := if jump.isNone then .ready else .done, pending := jump })) (lo + 1) := by
      intro jump W3 hk3
      obtain ⟨hb3, q0, q1⟩ := hbb.hold hk3 hd0 hd1
      exact ⟨run_endRound (P := P) (r := { r0 with state := .busy }) jump hb3.1, hb3, hb3.put _, (kb.trans (low hk3)).trans (kput ⟨_, hb3.1, rfl⟩), hL.put q0 hb3.1 rfl, hL.put q1 hb3.1 rfl⟩
    rintro e a3 W3 hp
    cases e with
    | normal =>
      obtain ⟨hk3, hi3⟩ := hp
      obtain ⟨hr, hl3, hl4, hk4, q0, q1⟩ := fin none W3 hk3
      have e1 : ({ r0 with state := if (none : Option Code).isNone then .ready else .done, pending := none } : Loop) = r0 := by rw [e0]; rfl
      refine ⟨_, _, hr, .inl ⟨rfl, hI.put hi3 (by omega) hl3.1 rfl, ?_, q0, q1⟩, hk4⟩
      rw [e1] at hl4 ⊢
      exact hl4
    | ret =>
      obtain ⟨hk3, hi3⟩ := hp
      obtain ⟨hr, hl3, hl4, hk4, -⟩ := fin (some .ret) W3 hk3
      exact ⟨_, _, hr, .inr ⟨rfl, .ret, (hIx _).put hi3 (by omega) hl3.1 rfl, hl4⟩, hk4⟩
    | exit id =>
      obtain ⟨hk3, hi3⟩ := hp
      obtain ⟨hr, hl3, hl4, hk4, -⟩ := fin (some (.exit id)) W3 hk3
      exact ⟨_, _, hr, .inr ⟨rfl, .exit id, (hIx _).put hi3 (by omega) hl3.1 rfl, hl4⟩, hk4⟩
    | goto t =>
      obtain ⟨hk3, hi3⟩ := hp
      obtain ⟨hr, hl3, hl4, hk4, -⟩ := fin (some (.goto t)) W3 hk3
      exact ⟨_, _, hr, .inr ⟨rfl, .goto t, (hIx _).put hi3 (by omega) hl3.1 rfl, hl4⟩, hk4⟩
    | panic ch => exact hp.elim
    | outgrown => exact hp.elim
/-- The same, where the loop's variables lie in slots. -/
theorem range_free1 {F : Fence} {n : Nat} {P : Program} {α : Type} {g : Operand} {ps : Array Tmp} {assign body : Code} {Q : Exit → Act → World → Prop} {a : Act} {w : World}
    (hro : F.round = none) (hn : 1 ≤ n) {gf : Nat} {lb : Array Value} (hg : a.eval g = .func (.func gf) #[] lb) (hFg : F.fn gf) (eg : ∀ args w, (callFunc gf args).run P w = .ok (.enter gf args) w)
    {encs : α → Array Value} {Rd : α → World → Prop} {A : World → Nat → Prop} {S Sp : List α → Prop} {N : Nat} (hseq : SeqFree F (n - 1) P gf lb encs Rd A S Sp N w)
    (hL : Lets A) (hps : ∀ x, (encs x).size = ps.size) (hRd : ∀ x, Abide 0 0 w.heap.size (fun (_ : Unit) W => Rd x W))
    (I : List α → World → Prop) (Ix : Code → List α → World → Prop) (hI : Abide 0 0 w.heap.size I) (hIx : ∀ c, Abide 0 0 w.heap.size (Ix c)) (hfr : ∀ s W, I s W → ∀ k, W.heap.size ≤ k → A W k) (h0 : I [] w) (a₁ : α → Act)
    (hassign : ∀ (l : Nat) (x : α) (W : World) (K : Act → World → Prop), K (a₁ x) W →
      assign.wpIn (F.inRound l) (n - 1 - 1) P (Exit.then K (fun _ _ _ => False)) { tmps := (ps.zip (encs x)).foldl (fun t (p, v) => t.setIfInBounds p v) a.tmps, defers := [] } W)
    (hbody : ∀ (l : Nat) (pre : List α) (x : α) (W : World), I pre W → Rd x W → pre.length < N → body.wpIn (F.inRound l) (n - 1 - 1) P (freeEnd A I Ix (pre ++ [x]) W) (a₁ x) W)
    (hdone : ∀ (D : Nat) (xs : List α) (W : World), w.heap.size ≤ D → S xs → I xs W → W.heap[D]? = some (.deferred (some [])) → Q .normal { a with defers := { target := .collected D, args := #[] } :: a.defers } W)
    (hstop : ∀ (D : Nat) (c : Code) (pre : List α) (W : World), w.heap.size ≤ D → Sp pre → Ix c pre W → W.heap[D]? = some (.deferred (some [])) → c.wpIn F n P Q { a with defers := { target := .collected D, args := #[] } :: a.defers } W) :
    (Code.rangeFunc g ps assign body).wpIn F n P Q a w :=
  range_free hro hn hg hFg eg hseq hL hps hRd I Ix hI hIx hfr h0 (fun x a' _ => a' = a₁ x) (fun x a' => Abide.pure _ _ _ _) (fun l pre x W K hi hr h => hassign l x W K (h _ _ (Hold.refl _ _) hi hr rfl))
    (fun l pre x a' W hi hr e hl => by rw [e]; exact hbody l pre x W hi hr hl) hdone hstop
/-- The same, where the loop's variable lies in a block of its own, laid anew in each round. -/
theorem range_free2 {F : Fence} {n : Nat} {P : Program} {α : Type} {g : Operand} {ps : Array Tmp} {assign body : Code} {Q : Exit → Act → World → Prop} {a : Act} {w : World}
    (hro : F.round = none) (hn : 1 ≤ n) {gf : Nat} {lb : Array Value} (hg : a.eval g = .func (.func gf) #[] lb) (hFg : F.fn gf) (eg : ∀ args w, (callFunc gf args).run P w = .ok (.enter gf args) w)
    {encs : α → Array Value} {Rd : α → World → Prop} {A : World → Nat → Prop} {S Sp : List α → Prop} {N : Nat} (hseq : SeqFree F (n - 1) P gf lb encs Rd A S Sp N w)
    (hL : Lets A) (hps : ∀ x, (encs x).size = ps.size) (hRd : ∀ x, Abide 0 0 w.heap.size (fun (_ : Unit) W => Rd x W))
    (I : List α → World → Prop) (Ix : Code → List α → World → Prop) (hI : Abide 0 0 w.heap.size I) (hIx : ∀ c, Abide 0 0 w.heap.size (Ix c)) (hfr : ∀ s W, I s W → ∀ k, W.heap.size ≤ k → A W k) (h0 : I [] w) (Cx : α → Nat → World → Prop) (hCx : ∀ x b, Abide 0 0 w.heap.size (fun (_ : Unit) W => Cx x b W)) (a₁ : α → Nat → Act)
    (hassign : ∀ (l : Nat) (pre : List α) (x : α) (W : World) (K : Act → World → Prop), I pre W → Rd x W → (∀ b W', Hold A W W' → I pre W' → Rd x W' → Cx x b W' → K (a₁ x b) W') →
      assign.wpIn (F.inRound l) (n - 1 - 1) P (Exit.then K (fun _ _ _ => False)) { tmps := (ps.zip (encs x)).foldl (fun t (p, v) => t.setIfInBounds p v) a.tmps, defers := [] } W)
    (hbody : ∀ (l : Nat) (pre : List α) (x : α) (b : Nat) (W : World), I pre W → Rd x W → Cx x b W → pre.length < N → body.wpIn (F.inRound l) (n - 1 - 1) P (freeEnd A I Ix (pre ++ [x]) W) (a₁ x b) W)
    (hdone : ∀ (D : Nat) (xs : List α) (W : World), w.heap.size ≤ D → S xs → I xs W → W.heap[D]? = some (.deferred (some [])) → Q .normal { a with defers := { target := .collected D, args := #[] } :: a.defers } W)
    (hstop : ∀ (D : Nat) (c : Code) (pre : List α) (W : World), w.heap.size ≤ D → Sp pre → Ix c pre W → W.heap[D]? = some (.deferred (some [])) → c.wpIn F n P Q { a with defers := { target := .collected D, args := #[] } :: a.defers } W) :
    (Code.rangeFunc g ps assign body).wpIn F n P Q a w :=
  range_free hro hn hg hFg eg hseq hL hps hRd I Ix hI hIx hfr h0 (fun x a' W => ∃ b, a' = a₁ x b ∧ Cx x b W)
    (fun x a' s W W' row hs hg hr => by obtain ⟨b, e, h⟩ := hs; exact ⟨b, e, hCx x b () W W' row h hg hr⟩)
    (fun l pre x W K hi hr h => hassign l pre x W K hi hr (fun b W' hk hi' hr' hc => h _ W' hk hi' hr' ⟨b, rfl, hc⟩))
    (fun l pre x a' W hi hr e hl => by obtain ⟨b, rfl, hc⟩ := e; exact hbody l pre x b W hi hr hc hl) hdone hstop
end Go.Proofs.YtfakohoamgogoaaGreatDoor

namespace Go.Proofs.YtfakohoamgogoaaGreatDoor
open Go.RowKit Go.Shelf
attribute [local go_sem] Oper.semAt_some

/-- c uses each of these. -/
def addU (us : Int → List Int) (c : Int) (ps : List Int) : Int → List Int := ps.foldl (fun us d => putV us d (us d ++ [c])) us
theorem addU_snoc (us : Int → List Int) (c : Int) (ps : List Int) (d : Int) : addU us c (ps ++ [d]) = putV (addU us c ps) d (addU us c ps d ++ [c]) := by unfold addU; rw [List.foldl_append]; rfl
theorem addU_len (us : Int → List Int) (c : Int) {N : Nat} (h : ∀ d, (us d).length ≤ N) : ∀ (ps : List Int) (d : Int), (addU us c ps d).length ≤ N + ps.length := by
  intro ps
  induction ps generalizing us N with
  | nil => exact fun d => by simpa [addU] using h d
  | cons p ps ih =>
    intro d
    have h2 := ih (us := putV us p (us p ++ [c])) (N := N + 1) (fun x => by
      by_cases e : x = p
      · subst e; rw [putV_same]; have := h x; simp; omega
      · rw [putV_other _ _ e]; have := h x; omega) d
    have e : addU us c (p :: ps) d = addU (putV us p (us p ++ [c])) c ps d := rfl
    rw [e, List.length_cons]
    omega
/-- The blocks that add may turn. -/
def Ofs (M1 M2 : Nat) (val : Int → Value) (k : Nat) : Prop := k ≠ M1 ∧ k ≠ M2 ∧ ∀ x, (val x).ownBlock ≠ some k
def Moved (w : World) (val val' : Int → Value) : Prop := ∀ x, (val' x).ownBlock = (val x).ownBlock ∨ ∃ g, (val' x).ownBlock = some g ∧ w.heap.size ≤ g
theorem Moved.refl (w : World) (val : Int → Value) : Moved w val val := fun _ => .inl rfl
/-- Between two parts. -/
def AdI (w : World) (b M1 M2 n1 n2 base B0 nn : Nat) (D1 : DataW Value) (us : Int → List Int) (val : Int → Value) (c : Int) (A : Option Addr) (ps : List Int) (i : Value) (wr : World) : Prop :=
  ∃ (k m : Nat) (D : DataW Value) (v : Int → Value), (i = .int .i64 k ∧ k ≤ nn) ∧ (F2 wr M2 m base D (addU us c (ps.take k)) v ∧ m ≤ n2 + k) ∧ (wr.ownsMap Tryz.prog 3 Cf.tokE M1 n1 D1 ∧ Vals wr A nn (nums .i64 ps) ∧ wr.cell? ⟨b, 1, none⟩ = some (.map (some M2))) ∧ (Moved w val v ∧ Kept (Ofs M1 M2 val) w wr ∧ Below B0 w wr)
def AddPost (w : World) (M1 M2 n1 n2 base B0 nn : Nat) (D1 : DataW Value) (us : Int → List Int) (val : Int → Value) (c : Int) (ps : List Int) (e : Ending) (w' : World) : Prop :=
  e = .returned (.tuple #[]) ∧ ∃ (m : Nat) (D : DataW Value) (v : Int → Value), (F2 w' M2 m base D (addU us c ps) v ∧ m ≤ n2 + nn) ∧ w'.ownsMap Tryz.prog 3 Cf.tokE M1 n1 D1 ∧ (Moved w val v ∧ Kept (Ofs M1 M2 val) w w' ∧ Below B0 w w')
set_option maxRecDepth 100000 in
theorem look_at {W : World} {M m : Nat} {D : DataW Value} {d : Int} {v : Value} (h : W.ownsMap Tryz.prog 3 Cf.tokE M m D) (hd : (Lit.int .i64 d).wf = true) (hat : D.atKey (key d) nilT = .held v) : (Instr.lookup 175 (.map (some M)) (.int .i64 d) false).run Tryz.prog W = .ok v W := by
  obtain ⟨v', ps, hr, hR⟩ := h.lookup Cf.k3 Tryz.underlying175 (Cf.zero33 W) (zd := nilT) (zp := []) rfl (Cf.key3 hd)
  have e : D.atKey (key d) nilT = .held v' := Cf.tokE_inv hR
  have e2 : v' = v := by rw [hat] at e; injection e with e; exact e.symm
  rw [← e2]
  exact hr
theorem upd_at {W : World} {M m : Nat} {D : DataW Value} {d : Int} {v : Value} (h : W.ownsMap Tryz.prog 3 Cf.tokE M m D) (hd : (Lit.int .i64 d).wf = true) (hm : m ≤ 1000000) : ∃ W', (Instr.mapUpdate 175 (.map (some M)) (.int .i64 d) v).run Tryz.prog W = .ok () W' ∧ W'.ownsMap Tryz.prog 3 Cf.tokE M (m + 1) (D.put (key d) (.held v)) ∧ W.grownBy W' (some M) :=
  h.update Cf.k3 Tryz.underlying175 (by unfold maxLen; omega) (Cf.key3 hd) (val := v) rfl
theorem kept_grown {A : Nat → Prop} {w w' : World} {row : Option Nat} (hg : w.grownBy w' row) (hr : ∀ k, A k → some k ≠ row) : Kept A w w' := ⟨hg.size, fun k ha hk => hg.block k hk (hr k ha)⟩
/-- One part is done. -/
theorem ad_next {w wr W1 W2 : World} {b M1 M2 n1 n2 base B0 nn k m g : Nat} {D1 D : DataW Value} {us : Int → List Int} {val v : Int → Value} {c d : Int} {A : Option Addr} {ps : List Int} {o : Obj} {cap : Nat} (hk : k < nn) (hd : ps[k]? = some d) (hc : (Lit.int .i64 c).wf = true)
    (hne : M1 ≠ M2) (hb : b < base) (hbl : b ≠ M2) (hM1 : M1 < base) (hM2 : M2 < base) (hbw : base ≤ w.heap.size) (hB1 : B0 ≤ M1) (hB2 : B0 ≤ M2) (hA : ∀ a, A = some a → Ofs M1 M2 val a.block ∧ a.block < w.heap.size)
    (hF : F2 wr M2 m base D (addU us c (ps.take k)) v) (hm : m ≤ n2 + k) (ho : wr.ownsMap Tryz.prog 3 Cf.tokE M1 n1 D1) (hV : Vals wr A nn (nums .i64 ps)) (hcl : wr.cell? ⟨b, 1, none⟩ = some (.map (some M2))) (hmv : Moved w val v) (hkp : Kept (Ofs M1 M2 val) w wr) (hbe : Below B0 w wr)
    (hown : W1.ownsRow base 3 1 (.slice (some ⟨g, 0, none⟩) ((addU us c (ps.take k) d).length + 1) cap) ((addU us c (ps.take k) d).length + 1) (nums .i64 (addU us c (ps.take k) d) ++ [.int .i64 c])) (hgr : (wr.alloc o).grownBy W1 (v d).ownBlock) (hat : (v d).ownBlock = some g ∨ g = wr.heap.size + 1)
    (hup : W2.ownsMap Tryz.prog 3 Cf.tokE M2 (m + 1) (D.put (key d) (.held (.slice (some ⟨g, 0, none⟩) ((addU us c (ps.take k) d).length + 1) cap)))) (hg2 : W1.grownBy W2 (some M2)) :
    AdI w b M1 M2 n1 n2 base B0 nn D1 us val c A ps (.int .i64 ((k : Int) + 1)) W2 := by
  have hsw := hkp.1
  have hga : wr.grownBy W1 (v d).ownBlock := (World.grownBy_alloc wr o _).trans hgr
  have hlo : ∀ r, (v d).ownBlock = some r → base ≤ r := fun r e => ((hF.row d).1.lt r e).1
  have hne1 : ∀ j, j < base → some j ≠ (v d).ownBlock := fun j hj e => by have := hlo j e.symm; omega
  have hpt : ps.take (k + 1) = ps.take k ++ [d] := by
    rw [List.take_succ_eq_append_getElem (List.getElem?_eq_some_iff.1 hd).1, (List.getElem?_eq_some_iff.1 hd).2]
  have hofs : ∀ j, Ofs M1 M2 val j → j < w.heap.size → some j ≠ (v d).ownBlock := fun j hj hjw e => by
    rcases hmv d with h1 | ⟨r, h1, h2⟩
    · exact hj.2.2 d (h1.symm.trans e.symm)
    · rw [h1] at e; injection e with e; omega
  refine ⟨k + 1, m + 1, D.put (key d) (.held (.slice (some ⟨g, 0, none⟩) ((addU us c (ps.take k) d).length + 1) cap)), putV v d (.slice (some ⟨g, 0, none⟩) ((addU us c (ps.take k) d).length + 1) cap), ⟨by go_num, by omega⟩, ⟨?_, by omega⟩, ⟨?_, ?_, ?_⟩, fun x => ?_, ?_, ?_⟩
  · rw [hpt, addU_snoc]
    exact f2_put hF hc hga hown (hat.elim (fun e => .inl e.symm) (fun e => .inr ⟨g, rfl, by omega⟩)) hM2 hg2 hup
  · exact (ho.kept hga (hne1 _ hM1)).kept hg2 (fun e => hne (by injection e))
  · exact vals_grown (vals_grown hV hga (fun a e => hofs _ (hA a e).1 (hA a e).2)) hg2 (fun a e e2 => (hA a e).1.2.1 (by injection e2))
  · exact hg2.cell (a := ⟨b, 1, none⟩) (hga.cell (a := ⟨b, 1, none⟩) hcl (hne1 _ hb)) (fun e => hbl (by injection e))
  · by_cases e : x = d
    · subst e
      rw [putV_same]
      rcases hat with h1 | h1
      · rcases hmv x with h2 | ⟨r, h2, h3⟩
        · exact .inl (by rw [← h2, h1]; rfl)
        · exact .inr ⟨g, rfl, by rw [h1] at h2; injection h2 with h2; omega⟩
      · exact .inr ⟨g, rfl, by omega⟩
    · rw [putV_other _ _ e]; exact hmv x
  · refine ⟨Nat.le_trans hsw (Nat.le_trans hga.size hg2.size), fun j hj hjw => ?_⟩
    rw [hg2.block j (Nat.lt_of_lt_of_le hjw (Nat.le_trans hsw hga.size)) (fun e => hj.2.1 (by injection e)), hga.block j (Nat.lt_of_lt_of_le hjw hsw) (hofs j hj hjw)]
    exact hkp.2 j hj hjw
  · exact (hbe.grown hga (by omega) (fun r e => by have := hlo r e; omega)).grown hg2 (by have := hga.size; omega) (fun r e => by injection e with e; omega)
set_option maxRecDepth 100000 in
set_option maxHeartbeats 2000000 in
theorem add97 (b M1 M2 n1 n2 base B0 nn ca : Nat) (D1 D2 : DataW Value) (us : Int → List Int) (val : Int → Value) (c : Int) (A : Option Addr) (ps : List Int) (w : World)
    (h0 : w.cell? ⟨b, 0, none⟩ = some (.map (some M1))) (h1 : w.cell? ⟨b, 1, none⟩ = some (.map (some M2))) (hO : w.ownsMap Tryz.prog 3 Cf.tokE M1 n1 D1) (hF : F2 w M2 n2 base D2 us val) (hc : (Lit.int .i64 c).wf = true) (hw : ∀ d ∈ ps, (Lit.int .i64 d).wf = true)
    (hV : Vals w A nn (nums .i64 ps)) (hA : ∀ a, A = some a → Ofs M1 M2 val a.block ∧ a.block < w.heap.size) (hne : M1 ≠ M2) (hb : b < base) (hbl : b ≠ M1 ∧ b ≠ M2) (hM1 : M1 < base) (hM2 : M2 < base) (hbw : base ≤ w.heap.size) (hB1 : B0 ≤ M1) (hB2 : B0 ≤ M2) (hn : nn ≤ 1000) (hn1 : n1 ≤ 100000) (hn2 : n2 ≤ 100000) (hu : ∀ d, (us d).length ≤ 100000) :
    Calls Tryz.prog 104 #[.pointer (some ⟨b, 0, none⟩), .int .i64 c, .slice A nn ca] w (AddPost w M1 M2 (n1 + 1) n2 base B0 nn (D1.put (key c) (.held (.slice A nn ca))) us val c ps) := by
  obtain ⟨i0, hi, hz0, hz1, hz2⟩ := info_parts infoI
  obtain ⟨w1, hr1, ho1, hg1⟩ := upd_at (v := .slice A nn ca) hO hc (by omega)
  have hl : ps.length = nn := by have := hV.1; rwa [nums_len] at this
  have HI0 : Hid (AdI w b M1 M2 (n1 + 1) n2 base B0 nn (D1.put (key c) (.held (.slice A nn ca))) us val c A ps (.int .i64 (0 : Nat)) w1) := Lib.hid ⟨0, n2, D2, val, ⟨rfl, Nat.zero_le _⟩, ⟨hF.kept hg1 (fun e => hne (by injection e with e; exact e.symm)) (fun x => by
      cases hx : (val x).ownBlock with
      | none => exact .inl rfl
      | some g => exact .inr (fun e => by injection e with e; have := ((hF.row x).1.lt g hx).1; omega)), by omega⟩, ⟨ho1, vals_grown hV hg1 (fun a e e2 => (hA a e).1.1 (by injection e2)), hg1.cell (a := ⟨b, 1, none⟩) h1 (fun e => hbl.1 (by injection e))⟩, Moved.refl _ _, kept_grown hg1 (fun k hk e => hk.1 (by injection e)), (Below.refl _ w).grown hg1 (by omega) (fun r e => by injection e with e; omega)⟩
  have HNX := Lib.hid (fun (wr W1 W2 : World) (k m g : Nat) (D : DataW Value) (v : Int → Value) (d : Int) (o : Obj) (cap : Nat) => @ad_next w wr W1 W2 b M1 M2 (n1 + 1) n2 base B0 nn k m g (D1.put (key c) (.held (.slice A nn ca))) D us val v c d A ps o cap)
  have HSD := Lib.hid (And.intro hc (And.intro hne (And.intro hb (And.intro hbl.2 (And.intro hM1 (And.intro hM2 (And.intro hbw (And.intro hB1 (And.intro hB2 hA)))))))))
  have HL := Lib.hid hl
  have HW := Lib.hid hw
  have HU := Lib.hid hu
  have HI := Lib.hid hi
  clear hO hF hw hV hA hne hb hbl hM1 hM2 hbw hB1 hB2 ho1 hg1 hl hu hc h1
  go_enter Tryz.func104, Tryz.ntmps104
  go_wp2
  go_loopw [16] (fun i wr => AdI w b M1 M2 (n1 + 1) n2 base B0 nn (D1.put (key c) (.held (.slice A nn ca))) us val c A ps i wr) (fun i _ => nn - (intOf i).toNat)
  case atStart => exact HI0.out
  case round =>
    clear HI0 hr1 h0
    obtain ⟨k, m, D, v, ⟨rfl, hk⟩, ⟨hF, hm⟩, ⟨ho, hV, hcl⟩, hmv, hkp, hbe⟩ := hrel
    by_cases hlt : k < nn
    · obtain ⟨d, hd⟩ : ∃ d, ps[k]? = some d := ⟨_, List.getElem?_eq_getElem (by have := HL.out; omega)⟩
      obtain ⟨b2, off, rfl, -, hcc⟩ := hV.2 (by omega)
      have k1 : wr.cell? ⟨b2, off + k, none⟩ = some (.int .i64 d) := hcc k _ (by unfold nums; rw [List.getElem?_map, hd]; rfl)
      have hwd := HW.out d (List.mem_of_getElem? hd)
      have hul := addU_len us c HU.out (ps.take k) d
      rw [List.length_take] at hul
      obtain ⟨hc, hne, hb, hbl, hM1, hM2, hbw, hB1, hB2, hA⟩ := HSD.out
      have HE := Lib.hid (fun (W1 W2 : World) (g : Nat) (o : Obj) (cap : Nat) => HNX.out wr W1 W2 k m g D v d o cap hlt hd hc hne hb hbl hM1 hM2 hbw hB1 hB2 hA hF hm ho hV hcl hmv hkp hbe)
      have hlk : ∀ W : World, W.ownsMap Tryz.prog 3 Cf.tokE M2 m D → (Instr.lookup 175 (.map (some M2)) (.int .i64 d) false).run Tryz.prog W = .ok (v d) W := fun W h => look_at h hwd (hF.at2 d)
      have hup : ∀ (W : World) (z : Value), W.ownsMap Tryz.prog 3 Cf.tokE M2 m D → _ := fun W z h => upd_at (v := z) h hwd (by omega)
      have l0 := hlk wr hF.own
      have l0d := hlk wr.drew hF.own.drew
      have l1 : ∀ W : World, Below wr.heap.size wr W → (Instr.lookup 175 (.map (some M2)) (.int .i64 d) false).run Tryz.prog W = .ok (v d) W := fun W hb => hlk W (hF.own.kept (grown_below hb) (by simp))
      have l2 : ∀ (o : Obj) (W : World), (wr.alloc o).grownBy W (v d).ownBlock → (Instr.lookup 175 (.map (some M2)) (.int .i64 d) false).run Tryz.prog W = .ok (v d) W := fun o W hg => hlk W ((hF.own.alloc o).kept hg (fun e => by have := ((hF.row d).1.lt M2 e.symm).1; omega))
      have l4 : ∀ (o : Obj) (W : World), (wr.alloc o).grownBy W (v d).ownBlock → W.ownsMap Tryz.prog 3 Cf.tokE M2 m D := fun o W hg => (hF.own.alloc o).kept hg (fun e => by have := ((hF.row d).1.lt M2 e.symm).1; omega)
      have l3 : ∀ (o : Obj) (W : World), (wr.alloc o).grownBy W (v d).ownBlock → W.cell? ⟨b, 1, none⟩ = some (.map (some M2)) := fun o W hg => hg.cell (a := ⟨b, 1, none⟩) ((World.cell?_alloc_past _ _ _ (World.block_lt_of_cell? wr _ hcl)).trans hcl) (fun e => by have := ((hF.row d).1.lt b e.symm).1; omega)
      have hrow := (hF.row d).1
      have hrl := (hF.row d).1.1
      have hbase : base ≤ wr.heap.size := Nat.le_trans hbw hkp.1
      have hbb : b < wr.heap.size := World.block_lt_of_cell? wr _ hcl
      obtain ⟨L, hL⟩ : ∃ L, addU us c (ps.take k) d = L := ⟨_, rfl⟩
      rw [hL] at hrow hul HE
      have HUP := Lib.hid hup
      have HROW := Lib.hid hrow
      have HOWN := Lib.hid hF.own
      obtain ⟨vd, hvd⟩ : ∃ x, v d = x := ⟨_, rfl⟩
      rw [hvd] at HROW l0 l0d l1 l2 l3 l4 HE
      have HC := Lib.hid hc
      have HM := Lib.hid (And.intro hM2 hb)
      have l1a : ∀ o, (Instr.lookup 175 (.map (some M2)) (.int .i64 d) false).run Tryz.prog (wr.alloc o) = .ok vd (wr.alloc o) := fun o => l1 _ ((Below.refl _ _).alloc (Nat.le_refl _) o)
      have l1d : ∀ o, (Instr.lookup 175 (.map (some M2)) (.int .i64 d) false).run Tryz.prog (wr.alloc o).drew = .ok vd (wr.alloc o).drew := fun o => l1 _ (below_drew ((Below.refl _ _).alloc (Nat.le_refl _) o))
      have HBN : Hid (b ≠ M2) := Lib.hid hbl
      have L2 := Lib.hid (And.intro l2 (And.intro l3 l4))
      clear hV hcc hd ho hF hmv hkp hbe hne hbl hM1 hM2 hbw hB1 hB2 hA hlk hup hL hrow hvd hrl hwd hc l1 l2 l3 l4 hb
      go_wp2
      go_region_held3 (fun w' => w'.cell? ⟨b, 1, none⟩ = some (.map (some M2)))
        (first | exact hcl | exact (World.cell?_alloc_past _ _ _ hbb).trans hcl | exact L2.out.2.1 _ _ hgr | exact hg2.cell (a := ⟨b, 1, none⟩) (L2.out.2.1 _ _ hgr) (fun e => HBN.out (by injection e)))
        ((refine step_append_lies _ (by rfl) _ _ _ (by rfl) base 3 i0 (.int .i64 0) 1 8 Tryz.underlying25 HI.out hz0 hz1 hz2 (by rfl) (by decide) vd L.length (nums .i64 L) (by rfl) (HROW.out.alloc _) ⟨wr.heap.size, 0, none⟩ 1 1 [.int .i64 c] (by rfl) (by rfl) (fun j u hj => lit_cells wr [.int .i64 c] 3 j u hj) (by simp [Value.oneCell']) (by omega) (by unfold maxLen; omega) (by omega) (by simp; omega) (wr.heap.size + 1) (by simp) ?_; intro g cap W1 hown1 hgd hat hlt1; have hgr : (wr.alloc (.cells #[.int .i64 c] 3)).grownBy W1 vd.ownBlock := ⟨hgd.os, hgd.tape, hgd.output, hgd.size, hgd.block⟩; obtain ⟨W2, hu2, ho2, hg2⟩ := HUP.out W1 (.slice (some ⟨g, 0, none⟩) (L.length + 1) cap) (L2.out.2.2 _ _ hgr)))
      all_goals
        have R := Lib.hid (HE.out W1 W2 g (.cells #[.int .i64 c] 3) cap hown1 hgr hat ho2 hg2)
        clear HE hown1 hgr hgd hat ho2 hg2 hu2 hlt1 l0 l0d l1a l1d L2 HNX HUP HROW HOWN
        go_wp2_with fail
        go_roundw
        case rel => exact R.out
        case measure => simp [intOf]; omega
    · have hke : k = nn := by omega
      subst hke
      have R : Hid (AddPost w M1 M2 (n1 + 1) n2 base B0 k (D1.put (key c) (.held (.slice A k ca))) us val c ps (.returned (.tuple #[])) wr) := Lib.hid ⟨rfl, m, D, v, ⟨by rw [List.take_of_length_le (by rw [HL.out]; exact Nat.le_refl _)] at hF; exact hF, hm⟩, ho, hmv, hkp, hbe⟩
      clear hF hm ho hV hcl hmv hkp hbe
      go_wp2
      go_end0
      exact R.out
end Go.Proofs.YtfakohoamgogoaaGreatDoor
