/- The program's table of confusables: prototypes in a map, and the sources in their order; what Len hands back. -/
import Derived.Test.YtkcpnnfbhcklpaaGreatDoorPat
import Derived.Test.YtkcpnnfbhcklpaaGreatDoorProg
import Derived.Lib.Hide
import Derived.WalkKit
import Derived.Maps.OwnIn
import Derived.Maps.Views
import Derived.Shelf.Abstract
namespace Go.Proofs.YtkcpnnfbhcklpaaGreatDoor
open Go.RowKit Go.Shelf
attribute [local go_sem] Oper.semAt_some

/-- A prototype's slice in the map, as it stands. -/
def tokE (v : Value) : Option (DataW Value × List MemPlace) := some (.held v, [])
theorem tokE_inv {v : Value} {d : DataW Value} {q : List MemPlace} (h : tokE v = some (d, q)) : d = .held v := by
  unfold tokE at h
  injection h with h
  injection h with h1 h2
  exact h1.symm
theorem k3 : Maps.Keyed Tryz.prog 3 := Maps.int_keyed Tryz.underlying3
theorem zero33 (w : World) : (zeroValue 33).run Tryz.prog w = .ok (.slice none 0 0) w := by kernel_rfl
theorem key3 {c : Int} (h : (Lit.int .i64 c).wf = true) : keyOf Tryz.prog 3 (.int .i64 c) = some (.int .i64 c) := Maps.keyOf_int_mk Tryz.underlying3 h
theorem look_tok {w : World} {ops : Array Oper} {rest : List Oper} {o : Oper} {a : Act} {Q : Exit → Act → World → Prop} (hg : o.guard = none) (m x : Operand) (hop : o.op = Op.lookup 45 m x true)
    (b n : Nat) (D : DataW Value) (hm : a.eval m = .map (some b)) (hown : w.ownsMap Tryz.prog 3 tokE b n D) (c : Int) (hx : a.eval x = .int .i64 c) (hc : (Lit.int .i64 c).wf = true) (v : Value) (f : Bool)
    (hat : D.atKey (.int .i64 c) (.held (.slice none 0 0)) = .held v) (hf : Maps.has D (.int .i64 c) = f) (hK : wpList Tryz.prog ops Q rest (a.put o.dst (.tuple #[v, .bool f])) w) : wpList Tryz.prog ops Q (o :: rest) a w :=
  wpList_lookup_own_ok w hg m x 45 hop 3 33 k3 Tryz.underlying45 tokE (zero33 _) (.held (.slice none 0 0)) [] rfl b n D hm hown _ _ hx (key3 hc) (fun v' ps hv => by
    have e := tokE_inv hv
    rw [hat] at e
    injection e with e
    rw [← e, hf]
    exact hK)
theorem look_tok_in {F : Fence} {nF : Nat} {w : World} {ops : Array Oper} {rest : List Oper} {o : Oper} {a : Act} {Q : Exit → Act → World → Prop} (hg : o.guard = none) (m x : Operand) (hop : o.op = Op.lookup 45 m x true)
    (b n : Nat) (D : DataW Value) (hm : a.eval m = .map (some b)) (hown : w.ownsMap Tryz.prog 3 tokE b n D) (c : Int) (hx : a.eval x = .int .i64 c) (hc : (Lit.int .i64 c).wf = true) (v : Value) (f : Bool)
    (hat : D.atKey (.int .i64 c) (.held (.slice none 0 0)) = .held v) (hf : Maps.has D (.int .i64 c) = f) (hK : wpListIn F nF Tryz.prog ops Q rest (a.put o.dst (.tuple #[v, .bool f])) w) : wpListIn F nF Tryz.prog ops Q (o :: rest) a w :=
  wpListIn_lookup_own_ok w hg m x 45 hop 3 33 k3 Tryz.underlying45 tokE (zero33 _) (.held (.slice none 0 0)) [] rfl b n D hm hown _ _ hx (key3 hc) (fun v' ps hv => by
    have e := tokE_inv hv
    rw [hat] at e
    injection e with e
    rw [← e, hf]
    exact hK)

/-- The map reads as these pairs; the prototypes lie from block lo on. -/
def MapIs (lo : Nat) (D : DataW Value) (ps : List Pp) (W : World) : Prop :=
  (∀ c : Int, Maps.has D (.int .i64 c) = hasS ps c) ∧ ∀ r ∈ ps, ∃ A k, D.atKey (.int .i64 r.c) (.held (.slice none 0 0)) = .held (.slice A r.p.length k) ∧ Vals W A r.p.length (nums .i64 r.p) ∧ ∀ a, A = some a → lo ≤ a.block
def Small (r : Pp) : Prop := r.p.length ≤ 1000 ∧ (Lit.int .i64 r.c).wf = true
def CTab (w : World) (b mb n : Nat) (A : Option Addr) (k : Nat) (D : DataW Value) (ps : List Pp) : Prop :=
  (w.cell? ⟨b, 0, none⟩ = some (.map (some mb)) ∧ w.cell? ⟨b, 1, none⟩ = some (.slice A ps.length k)) ∧ (Vals w A ps.length (nums .i64 (ps.map Pp.c)) ∧ (w.ownsMap Tryz.prog 3 tokE mb n D ∧ MapIs 0 D ps w)) ∧ (Rise ps ∧ ∀ r ∈ ps, Small r)
/-- The table at p reads as these pairs; the sources' slice. -/
def CTx (w : World) (p : Option Addr) (A : Option Addr) (k : Nat) (ps : List Pp) : Prop :=
  ((p = none ∧ A = none) ∧ (k = 0 ∧ ps = [])) ∨ ∃ b mb n D, p = some ⟨b, 0, none⟩ ∧ CTab w b mb n A k D ps
def CT (w : World) (p : Option Addr) (ps : List Pp) : Prop := ∃ A k, CTx w p A k ps
/-- All that stood there stands there. -/
def Stays (w w' : World) : Prop := w.heap.size ≤ w'.heap.size ∧ ∀ k, k < w.heap.size → w'.heap[k]? = w.heap[k]?
theorem Stays.of_below {w w' : World} (h : Below w.heap.size w w') : Stays w w' := ⟨h.size, fun k hk => h.block k hk⟩
theorem Stays.cell {w w' : World} (h : Stays w w') {a : Addr} {v : Value} (hc : w.cell? a = some v) : w'.cell? a = some v := (World.cell?_of_block (h.2 _ (World.block_lt_of_cell? w a hc))).trans hc
theorem Stays.trans {w w' w'' : World} (h : Stays w w') (h' : Stays w' w'') : Stays w w'' := ⟨Nat.le_trans h.1 h'.1, fun k hk => (h'.2 k (Nat.lt_of_lt_of_le hk h.1)).trans (h.2 k hk)⟩
theorem Stays.vals {w w' : World} (h : Stays w w') {A : Option Addr} {n : Nat} {vs : List Value} (hv : Vals w A n vs) : Vals w' A n vs := by
  refine ⟨hv.1, fun hn => ?_⟩
  obtain ⟨b, off, rfl, hlt, hc⟩ := hv.2 hn
  exact ⟨b, off, rfl, Nat.lt_of_lt_of_le hlt h.1, fun j v hj => h.cell (hc j v hj)⟩
theorem Stays.owns {w w' : World} (h : Stays w w') {mb n : Nat} {D : DataW Value} (ho : w.ownsMap Tryz.prog 3 tokE mb n D) : w'.ownsMap Tryz.prog 3 tokE mb n D := by
  have hlt := ho.lt
  obtain ⟨es, clock, hb, F, hs, hD⟩ := ho
  exact ⟨es, clock, (h.2 mb hlt).trans hb, F, hs, hD⟩
theorem MapIs.stays {w w' : World} {lo : Nat} {D : DataW Value} {ps : List Pp} (h : MapIs lo D ps w) (hs : Stays w w') : MapIs lo D ps w' :=
  ⟨h.1, fun r hr => by obtain ⟨A, k, h1, h2, h3⟩ := h.2 r hr; exact ⟨A, k, h1, hs.vals h2, h3⟩⟩
theorem CTx.stays {w w' : World} {p A : Option Addr} {k : Nat} {ps : List Pp} (h : CTx w p A k ps) (hs : Stays w w') : CTx w' p A k ps := by
  rcases h with h | ⟨b, mb, n, D, rfl, ⟨h1, h2⟩, ⟨h3, h4, h5⟩, h6⟩
  · exact .inl h
  · exact .inr ⟨b, mb, n, D, rfl, ⟨hs.cell h1, hs.cell h2⟩, ⟨hs.vals h3, hs.owns h4, h5.stays hs⟩, h6⟩
theorem CT.below {w w' : World} {p : Option Addr} {ps : List Pp} (h : CT w p ps) (hb : Below w.heap.size w w') : CT w' p ps := by
  obtain ⟨A, k, h⟩ := h
  exact ⟨A, k, h.stays (.of_below hb)⟩
theorem ct_nil (w : World) : CT w none [] := ⟨none, 0, .inl ⟨⟨rfl, rfl⟩, rfl, rfl⟩⟩
theorem CTx.vals {w : World} {p A : Option Addr} {k : Nat} {ps : List Pp} (h : CTx w p A k ps) : Vals w A ps.length (nums .i64 (ps.map Pp.c)) := by
  rcases h with ⟨⟨rfl, rfl⟩, rfl, rfl⟩ | ⟨b, mb, n, D, rfl, -, ⟨h3, -⟩, -⟩
  · exact Vals.nil _ _
  · exact h3
theorem CTx.rise {w : World} {p A : Option Addr} {k : Nat} {ps : List Pp} (h : CTx w p A k ps) : Rise ps ∧ ∀ r ∈ ps, Small r := by
  rcases h with ⟨⟨rfl, rfl⟩, rfl, rfl⟩ | ⟨b, mb, n, D, rfl, -, -, h6⟩
  · exact ⟨List.Pairwise.nil, fun r h => by cases h⟩
  · exact h6
theorem list26 (p A : Option Addr) (k : Nat) (ps : List Pp) (w : World) (h : CTx w p A k ps) : Calls Tryz.prog 26 #[.pointer p] w fun e w' => e = .returned (.slice A ps.length k) ∧ w = w' := by
  rcases h with ⟨⟨rfl, rfl⟩, rfl, rfl⟩ | ⟨b, mb, n, D, rfl, ⟨-, h2⟩, -⟩
  · go_enter Tryz.func26, Tryz.ntmps26
    go_wp2
    go_ret
    exact ⟨rfl, rfl⟩
  · obtain ⟨m, hm⟩ : ∃ m, ps.length = m := ⟨_, rfl⟩
    rw [hm] at h2 ⊢
    clear hm
    go_enter Tryz.func26, Tryz.ntmps26
    go_wp2
    go_ret
    exact ⟨rfl, rfl⟩
theorem clen13 (p : Option Addr) (ps : List Pp) (w : World) (h : CT w p ps) (_hl : ps.length ≤ 100000) : Calls Tryz.prog 13 #[.pointer p] w fun e w' => e = .returned (.int .i64 (ps.length : Nat)) ∧ w = w' := by
  obtain ⟨A, k, h⟩ := h
  have c26 := list26 p A k ps w h
  obtain ⟨m, hm⟩ : ∃ m, ps.length = m := ⟨_, rfl⟩
  rw [hm] at c26 ⊢
  clear hm h _hl
  go_enter Tryz.func13, Tryz.ntmps13
  go_wp2_with (go_at_call 26; (with_reducible refine c26.mono ?_); rintro e w1 ⟨rfl, rfl⟩)
  go_ret
  exact ⟨rfl, rfl⟩
end Go.Proofs.YtkcpnnfbhcklpaaGreatDoor
