/- What run of the program's follower hands back. -/
/- What run of the program's follower hands back: walked. -/
import Derived.Test.YtfakohoamgogoaaGreatDoorQt14
import Derived.Lib.AppendZeros
namespace Go.Proofs.YtfakohoamgogoaaGreatDoor
open Go.RowKit Go.Shelf
attribute [local go_sem] Oper.semAt_some

def lenV : Value → Nat
  | .slice _ n _ => n
  | _ => 0
theorem own_unique {H : Type} {W : World} {P : Program} {k : TypeId} {R : Value → Option (DataW H × List MemPlace)} {b n n' : Nat} {D D' : DataW H} (h : W.ownsMap P k R b n D) (h' : W.ownsMap P k R b n' D') : D = D' := by
  obtain ⟨es, clock, hb, -, -, rfl⟩ := h
  obtain ⟨es', clock', hb', -, -, rfl⟩ := h'
  rw [hb] at hb'
  cases hb'
  rfl
theorem toDo_perm {us : Int → List Int} {O O' : List Int} (h : O.Perm O') : toDo us O = toDo us O' := by
  induction h with
  | nil => rfl
  | cons x _ ih => rw [toDo, toDo, ih]
  | swap x y l => rw [toDo, toDo, toDo, toDo]; omega
  | trans _ _ h1 h2 => rw [h1, h2]
theorem f1_same {W : World} {M n n' : Nat} {D D' : DataW Value} {O O' : List Int} (h : F1 W M n D O) (h' : F1 W M n' D' O') : O.Perm O' := by
  have e := own_unique h.1 h'.1
  subst e
  refine (List.perm_ext_iff_of_nodup h.2.2.2 h'.2.2.2).2 fun c => ?_
  have h1 := h.2.1 c
  rw [h'.2.1 c] at h1
  exact (decide_eq_decide.1 h1).symm
/-- How much what is open still brings, as the world tells it. -/
noncomputable def muW (us : Int → List Int) (M : Nat) (W : World) : Nat := by
  classical
  exact if h : ∃ O n D, F1 W M n D O then toDo us h.choose else 0
theorem muW_is {us : Int → List Int} {M n : Nat} {W : World} {D : DataW Value} {O : List Int} (h : F1 W M n D O) : muW us M W = toDo us O := by
  have hx : ∃ O n D, F1 W M n D O := ⟨O, n, D, h⟩
  unfold muW
  rw [dif_pos hx]
  obtain ⟨n', D', h'⟩ := hx.choose_spec
  exact toDo_perm (f1_same h' h)
/-- What does not turn while run goes on. -/
structure RnF (dec : Int → List Int) (K : List Int) (us : Int → List Int) : Prop where
  all : ∀ c, dec c ≠ [] → c ∈ K
  has : ∀ c ∈ K, dec c ≠ []
  use : ∀ c, ∀ x ∈ K, c ∈ dec x → x ∈ us c
  few : ∀ c, (dec c).length ≤ 1000
  wfd : ∀ c, ∀ d ∈ dec c, (Lit.int .i64 d).wf = true
  wfk : ∀ c ∈ K, (Lit.int .i64 c).wf = true
  low : ∀ c, (us c).length ≤ 100000
/-- Between two steps. -/
structure RnS (w : World) (b M1 M2 M3 base B0 n2 T N : Nat) (D2 : DataW Value) (dec : Int → List Int) (K : List Int) (us : Int → List Int) (val : Int → Value) (wr : World) (n1 n3 : Nat) (D1 D3 : DataW Value) (O wk : List Int) (sz : Int → Nat) (lg : Nat) (wv : Value) : Prop where
  f1 : F1 wr M1 n1 D1 O
  a1 : A1 wr D1 dec O (fun k => wv.ownBlock = some k)
  f2 : F2 wr M2 n2 base D2 us val
  sep : ∀ c, (val c).ownBlock = none ∨ (val c).ownBlock ≠ wv.ownBlock
  f3 : F3 wr M3 n3 D3 sz
  row : wr.ownsRow base 3 1 wv wk.length (nums .i64 wk)
  fi : FI dec K O wk sz lg
  cel : wr.cell? ⟨b, 0, none⟩ = some (.map (some M1)) ∧ wr.cell? ⟨b, 1, none⟩ = some (.map (some M2)) ∧ wr.cell? ⟨b, 2, none⟩ = some (.map (some M3))
  wfw : ∀ c ∈ wk, (Lit.int .i64 c).wf = true
  few : wk.length + toDo us O ≤ T
  fe3 : n3 + O.length ≤ N
  bel : Below B0 w wr
  oth : ∀ k o, w.heap[k]? = some o → o.isCells = false → k ≠ M1 → k ≠ M3 → wr.heap[k]? = some o
def RnI (w : World) (b M1 M2 M3 base B0 n2 T N : Nat) (D2 : DataW Value) (dec : Int → List Int) (K : List Int) (us : Int → List Int) (val : Int → Value) (v l : Value) (wr : World) : Prop :=
  ∃ (n1 n3 : Nat) (D1 D3 : DataW Value) (O wk : List Int) (sz : Int → Nat) (lg : Nat), l = .int .i64 (lg : Nat) ∧ RnS w b M1 M2 M3 base B0 n2 T N D2 dec K us val wr n1 n3 D1 D3 O wk sz lg v
def RunPost (w : World) (b M1 M3 B0 : Nat) (dec : Int → List Int) (K : List Int) (e : Ending) (w' : World) : Prop :=
  ∃ (n1 : Nat) (D1 : DataW Value) (O : List Int) (sz : Int → Nat) (lg : Nat), e = .returned (.int .i64 (lg : Nat)) ∧ (F1 w' M1 n1 D1 O ∧ FI dec K O [] sz lg) ∧ w'.cell? ⟨b, 0, none⟩ = some (.map (some M1)) ∧ Below B0 w w' ∧ ∀ k o, w.heap[k]? = some o → o.isCells = false → k ≠ M1 → k ≠ M3 → w'.heap[k]? = some o
section
variable {w : World} {b M1 M2 M3 base B0 n2 T N : Nat} {D2 : DataW Value} {dec : Int → List Int} {K : List Int} {us : Int → List Int} {val : Int → Value} {wr : World} {n1 n3 : Nat} {D1 D3 : DataW Value} {O wk : List Int} {sz : Int → Nat} {lg : Nat}
theorem RnS.gone {g n cap : Nat} {c : Int} (h : RnS w b M1 M2 M3 base B0 n2 T N D2 dec K us val wr n1 n3 D1 D3 O (wk ++ [c]) sz lg (.slice (some ⟨g, 0, none⟩) (n + 1) cap)) (hl : wk.length = n) (hfi : FI dec K O wk sz lg) :
    RnS w b M1 M2 M3 base B0 n2 T N D2 dec K us val wr n1 n3 D1 D3 O wk sz lg (.slice (some ⟨g, 0, none⟩) n cap) := by
  have hr := h.row
  rw [List.length_append, List.length_singleton, hl] at hr
  refine ⟨h.f1, h.a1, h.f2, h.sep, h.f3, ?_, hfi, h.cel, fun x hx => h.wfw x (List.mem_append_left _ hx), by have := h.few; simp at this; omega, h.fe3, h.bel, h.oth⟩
  rw [hl]
  exact own_pop (z := .int .i64 c) (by simpa [nums] using hr)
/-- Where things lie. -/
structure RnB (w : World) (b M1 M2 M3 base B0 : Nat) : Prop where
  m1 : M1 < base
  m2 : M2 < base
  m3 : M3 < base
  b1 : b < base
  ne : (M1 ≠ M2 ∧ M1 ≠ M3 ∧ M2 ≠ M3) ∧ (b ≠ M1 ∧ b ≠ M2 ∧ b ≠ M3)
  lo : B0 ≤ M1 ∧ B0 ≤ M2 ∧ B0 ≤ M3
  top : base ≤ w.heap.size
theorem none_ne {base j : Nat} {W : World} {e : TypeId} {s n : Nat} {v : Value} {xs : List Value} (h : W.ownsRow base e s v n xs) (hj : j < base) : v.ownBlock = none ∨ v.ownBlock ≠ some j := by
  cases hv : v.ownBlock with
  | none => exact .inl rfl
  | some g => exact .inr (fun e => by injection e with e; have := (h.lt g hv).1; omega)
theorem ne_row {base j : Nat} {W : World} {e : TypeId} {s n : Nat} {v : Value} {xs : List Value} (h : W.ownsRow base e s v n xs) (hj : j < base) : some j ≠ v.ownBlock := fun e2 => by have := (h.lt j e2.symm).1; omega
/-- One is followed to its end. -/
theorem RnS.done {W2 W3 W4 : World} {c : Int} {wv wv' v' : Value} (hB : RnB w b M1 M2 M3 base B0) (hR : RnF dec K us) (h : RnS w b M1 M2 M3 base B0 n2 T N D2 dec K us val wr n1 n3 D1 D3 O (wk ++ [c]) sz lg wv) (hrow : wr.ownsRow base 3 1 wv' wk.length (nums .i64 wk)) (hwv : wv'.ownBlock = wv.ownBlock) (hc : c ∈ O) (hno : ∀ d ∈ dec c, d ∉ O)
    (ho2 : W2.ownsMap Tryz.prog 3 (plainElem Tryz.prog 3) M3 (n3 + 1) (D3.put (key c) (.lit (.int .i64 (sizeS sz (dec c) : Nat))))) (hg2 : wr.grownBy W2 (some M3))
    (ho3 : W3.ownsMap Tryz.prog 3 Cf.tokE M1 n1 (D1.del (key c))) (hg3 : W2.grownBy W3 (some M1))
    (ho4 : W4.ownsRow base 3 1 v' (wk.length + (us c).length) (nums .i64 wk ++ nums .i64 (us c))) (hg4 : W3.grownBy W4 wv.ownBlock) (hl4 : v'.ownBlock = wv.ownBlock ∨ v'.ownBlock = some W3.heap.size) :
    RnS w b M1 M2 M3 base B0 n2 T N D2 dec K us val W4 n1 (n3 + 1) (D1.del (key c)) (D3.put (key c) (.lit (.int .i64 (sizeS sz (dec c) : Nat)))) (cutO O c) (wk ++ us c) (putS sz c (sizeS sz (dec c))) (max lg (sizeS sz (dec c))) v' := by
  obtain ⟨⟨n12, n13, n23⟩, nb1, nb2, nb3⟩ := hB.ne
  have r4 : ∀ j, j < base → some j ≠ wv.ownBlock := fun j hj => by rw [← hwv]; exact ne_row hrow hj
  have hs3 : wr.heap.size ≤ W3.heap.size := Nat.le_trans hg2.size hg3.size
  have keepB : ∀ (j : Nat) (v : Value), j < base → j ≠ M1 → j ≠ M3 → ∀ k, wr.cell? ⟨j, k, none⟩ = some v → W4.cell? ⟨j, k, none⟩ = some v := fun j v hj h1 h3 k hk =>
    hg4.cell (a := ⟨j, k, none⟩) (hg3.cell (a := ⟨j, k, none⟩) (hg2.cell (a := ⟨j, k, none⟩) hk (fun e => h3 (by injection e))) (fun e => h1 (by injection e))) (r4 j hj)
  have hf1' := f1_del h.f1 hc ho3
  have hf2 : F2 W4 M2 n2 base D2 us val := ((h.f2.kept hg2 (fun e => n23 (by injection e)) (fun x => none_ne (h.f2.row x).1 hB.m3)).kept hg3 (fun e => n12 (by injection e with e; exact e.symm)) (fun x => none_ne (h.f2.row x).1 hB.m1)).kept hg4 (r4 _ hB.m2) h.sep
  have hlow : ∀ x, (val x).ownBlock = none ∨ (val x).ownBlock ≠ v'.ownBlock := fun x => by
    rcases hl4 with e | e
    · rw [e]; exact h.sep x
    · cases hx : (val x).ownBlock with
      | none => exact .inl rfl
      | some g => exact .inr (fun e2 => by rw [e] at e2; injection e2 with e2; have := ((h.f2.row x).1.lt g hx).2; omega)
  refine ⟨hf1'.kept hg4 (r4 _ hB.m1), ?_, hf2, hlow, (f3_put ((h.f3)) ho2 |>.kept hg3 (fun e => n13 (by injection e with e; exact e.symm))).kept hg4 (r4 _ hB.m3), ?_, ?_, ⟨keepB b _ hB.b1 nb1 nb3 0 h.cel.1, keepB b _ hB.b1 nb1 nb3 1 h.cel.2.1, keepB b _ hB.b1 nb1 nb3 2 h.cel.2.2⟩, ?_, ?_, ?_, ?_, ?_⟩
  · have ha := a1_del (c := c) h.a1
    have hav : A1 W4 (D1.del (key c)) dec (cutO O c) (fun k => wv.ownBlock = some k) := by
      have hM : ∀ j : Nat, (∃ o, wr.heap[j]? = some o ∧ o.isCells = false) → ∀ (A : Option Addr) (n : Nat) (zs : List Int), 0 < n → Vals wr A n (nums .i64 zs) → ∀ a, A = some a → a.block ≠ j := by
        intro j ⟨o, ho, hcl⟩ A n zs hn hv a ha e
        obtain ⟨b', off, e', -, hcc⟩ := hv.2 hn
        rw [ha] at e'
        cases e'
        obtain ⟨z, hz⟩ : ∃ z, (nums .i64 zs)[0]? = some z := ⟨_, List.getElem?_eq_getElem (by have := hv.1; omega)⟩
        obtain ⟨o', ho', hc'⟩ := cells_of_cell (hcc 0 z hz)
        have e : b' = j := e
        rw [e, ho] at ho'
        cases ho'
        rw [hcl] at hc'
        cases hc'
      have hm1 : ∃ o, wr.heap[M1]? = some o ∧ o.isCells = false := by obtain ⟨es, clock, hb, -⟩ := h.f1.1; exact ⟨_, hb, rfl⟩
      have hm3 : ∃ o, wr.heap[M3]? = some o ∧ o.isCells = false := by obtain ⟨es, clock, hb, -⟩ := h.f3.1; exact ⟨_, hb, rfl⟩
      intro x hx
      obtain ⟨A, k, q1, q2, q3⟩ := ha x hx
      have hpos : 0 < (dec x).length := List.length_pos_iff.2 (hR.has x (h.fi.sub x (cutO_mem.1 hx).1))
      refine ⟨A, k, q1, vals_grown (vals_grown (vals_grown q2 hg2 (fun a e e2 => hM _ hm3 A _ _ hpos q2 a e (by injection e2))) hg3 (fun a e e2 => hM _ hm1 A _ _ hpos q2 a e (by injection e2))) hg4 (fun a e e2 => (q3 a e).2 e2.symm), fun a e => ⟨Nat.lt_of_lt_of_le (q3 a e).1 (Nat.le_trans hs3 hg4.size), (q3 a e).2⟩⟩
    intro x hx
    obtain ⟨A, k, q1, q2, q3⟩ := hav x hx
    obtain ⟨A0, k0, p1, p2, p3⟩ := ha x hx
    refine ⟨A, k, q1, q2, fun a e => ⟨(q3 a e).1, fun e2 => ?_⟩⟩
    rcases hl4 with e3 | e3
    · exact (q3 a e).2 (e3.symm.trans e2)
    · rw [e3] at e2
      injection e2 with e2
      rw [p1] at q1
      injection q1 with q1
      injection q1 with q1 _ _
      subst q1
      have := (p3 a e).1
      omega
  · rw [List.length_append]
    have e : nums .i64 (wk ++ us c) = nums .i64 wk ++ nums .i64 (us c) := by unfold nums; rw [List.map_append]
    rw [e]
    exact ho4
  · exact fi_done h.fi hR.all hR.has hc hno (fun x hx hd => hR.use c x hx hd)
  · intro x hx
    rcases List.mem_append.1 hx with hx | hx
    · exact h.wfw x (List.mem_append_left _ hx)
    · exact (h.f2.row c).2 x hx
  · have h1 := h.few
    have h2 := toDo_cut (us := us) hc
    rw [List.length_append, List.length_singleton] at h1
    rw [List.length_append]
    omega
  · have h1 := h.fe3
    have h2 := cutO_len h.f1.2.2.2 hc
    omega
  · have hb1 := h.bel.grown hg2 (by have := h.bel.size; have := hB.top; have := hB.lo; have := hB.m1; omega) (fun r e => by injection e with e; have := hB.lo; omega)
    have hb2 := hb1.grown hg3 (by have := hb1.size; have := hB.top; have := hB.lo; have := hB.m1; omega) (fun r e => by injection e with e; have := hB.lo; omega)
    exact hb2.grown hg4 (by have := hb2.size; have := hB.top; have := hB.lo; have := hB.m1; omega) (fun r e => by have := (hrow.lt r (hwv.trans e)).1; have := hB.lo; have := hB.m1; omega)
  · intro k o hk hc0 hk1 hk3
    have q0 := h.oth k o hk hc0 hk1 hk3
    have l0 := (Array.getElem?_eq_some_iff.1 q0).1
    have q2 := (hg2.block k l0 (fun e => hk3 (by injection e))).trans q0
    have l2 := (Array.getElem?_eq_some_iff.1 q2).1
    have q3 := (hg3.block k l2 (fun e => hk1 (by injection e))).trans q2
    have l3 := (Array.getElem?_eq_some_iff.1 q3).1
    refine (hg4.block k l3 (fun e => ?_)).trans q3
    rw [← hwv] at e
    rcases hrow.2 with ⟨e2, -⟩ | ⟨g, cap, cur, e2, -, hg, -⟩
    · rw [e2] at e; cases e
    · rw [e2] at e
      have e : k = g := by injection e
      rw [← e, q0] at hg
      cases hg
      cases hc0
end
end Go.Proofs.YtfakohoamgogoaaGreatDoor

namespace Go.Proofs.YtfakohoamgogoaaGreatDoor
open Go.RowKit Go.Shelf
attribute [local go_sem] Oper.semAt_some

theorem upd_sz {W : World} {M m : Nat} {D : DataW Value} {d : Int} {k : Nat} (h : W.ownsMap Tryz.prog 3 (plainElem Tryz.prog 3) M m D) (hd : (Lit.int .i64 d).wf = true) (hm : m ≤ 1000000) (hk : k ≤ 1000000) : ∃ W', (Instr.mapUpdate 187 (.map (some M)) (.int .i64 d) (.int .i64 (k : Nat))).run Tryz.prog W = .ok () W' ∧ W'.ownsMap Tryz.prog 3 (plainElem Tryz.prog 3) M (m + 1) (D.put (key d) (.lit (.int .i64 (k : Nat)))) ∧ W.grownBy W' (some M) :=
  h.update Cf.k3 Tryz.underlying187 (by unfold maxLen; omega) (keyI hd) (plainElem_int Tryz.underlying3 (wf_nat k (by omega)))
theorem fi_open {O : List Int} {ps : List Int} (h : isOpen O ps = false) : ∀ d ∈ ps, d ∉ O := fun d hd hO => by
  unfold isOpen at h
  rw [List.any_eq_false] at h
  exact h d hd (decide_eq_true hO)
theorem fi_shut {O : List Int} {ps : List Int} (h : isOpen O ps = true) : ∃ d ∈ ps, d ∈ O := by
  unfold isOpen at h
  rw [List.any_eq_true] at h
  obtain ⟨d, h1, h2⟩ := h
  exact ⟨d, h1, of_decide_eq_true h2⟩
theorem look_szk {w : World} {ops : Array Oper} {rest : List Oper} {o : Oper} {a : Act} {Q : Exit → Act → World → Prop} (hg : o.guard = none) (m x : Operand) (hop : o.op = Op.lookup 187 m x false)
    (b n : Nat) (D : DataW Value) (sz : Int → Nat) (hm : a.eval m = .map (some b)) (hF : F3 w b n D sz) (c : Int) (hx : a.eval x = .int .i64 c) (hc : (Lit.int .i64 c).wf = true) (k : Nat) (hk : sz c = k)
    (hK : wpList Tryz.prog ops Q rest (a.put o.dst (.int .i64 (k : Nat))) w) : wpList Tryz.prog ops Q (o :: rest) a w :=
  look_sz hg m x hop b n D sz hm hF c hx hc (by rw [hk]; exact hK)
theorem lenV_own {W : World} {base : Nat} {e : TypeId} {n : Nat} {v : Value} {vs : List Value} (h : W.ownsRow base e 1 v n vs) : lenV v = n := by
  obtain ⟨A, c, rfl, -⟩ := own_vals h
  rfl
theorem undrew_grown {W W' : World} {r : Option Nat} (h : W.drew.grownBy W' r) : W.grownBy W' r := ⟨h.os, h.tape, h.output, h.size, h.block⟩
theorem snoc_of {l : List Int} (h : 0 < l.length) : ∃ wk c, l = wk ++ [c] := ⟨l.dropLast, l.getLast (List.ne_nil_of_length_pos h), (List.dropLast_concat_getLast _).symm⟩
set_option maxRecDepth 100000 in
set_option maxHeartbeats 4000000 in
theorem run98 (w : World) (b M1 M2 M3 base B0 n2 T N : Nat) (D2 : DataW Value) (dec : Int → List Int) (K : List Int) (us : Int → List Int) (val : Int → Value) (n1 n3 : Nat) (D1 D3 : DataW Value) (O wk : List Int) (sz : Int → Nat) (wv : Value)
    (hB : RnB w b M1 M2 M3 base B0) (hR : RnF dec K us) (hS : RnS w b M1 M2 M3 base B0 n2 T N D2 dec K us val w n1 n3 D1 D3 O wk sz 0 wv) (hT : T ≤ 100000000) (hN : N ≤ 100000) :
    Calls Tryz.prog 105 #[.pointer (some ⟨b, 0, none⟩), wv] w (RunPost w b M1 M3 B0 dec K) := by
  have HI0 : Hid (RnI w b M1 M2 M3 base B0 n2 T N D2 dec K us val wv (.int .i64 (0 : Nat)) w) := Lib.hid ⟨n1, n3, D1, D3, O, wk, sz, 0, rfl, hS⟩
  have HB := Lib.hid hB
  have HR := Lib.hid hR
  clear hS hB hR
  go_enter Tryz.func105, Tryz.ntmps105
  go_wp2
  go_loopw [1, 5] (fun v l wr => RnI w b M1 M2 M3 base B0 n2 T N D2 dec K us val v l wr) (fun v _ wr => lenV v + muW us M1 wr)
  case atStart => exact HI0.out
  case round =>
    clear HI0
    obtain ⟨n1, n3, D1, D3, O, wk0, sz, lg, rfl, hS⟩ := hrel
    have hlg := hS.fi.lg5
    have h5 := hS.fi.five
    have hmu := muW_is (us := us) hS.f1
    rcases Nat.eq_zero_or_pos wk0.length with h0 | hpos
    · obtain rfl : wk0 = [] := List.eq_nil_of_length_eq_zero h0
      obtain ⟨A, ca, rfl, -⟩ := own_vals hS.row
      have R : Hid (RunPost w b M1 M3 B0 dec K (.returned (.int .i64 (lg : Nat))) wr) := Lib.hid ⟨n1, D1, O, sz, lg, rfl, ⟨hS.f1, hS.fi⟩, hS.cel.1, hS.bel, hS.oth⟩
      clear hS hmu h5
      simp only [List.length_nil]
      go_wp2
      go_ret
      exact R.out
    · obtain ⟨wk, c, rfl⟩ := snoc_of hpos
      clear hpos
      obtain ⟨n, hn⟩ : ∃ n, wk.length = n := ⟨_, rfl⟩
      have hrow := hS.row
      rw [List.length_append, List.length_singleton, hn] at hrow
      have hsep := hS.sep
      obtain ⟨g, cap, rfl, hg, hcap⟩ : ∃ g cap, u1 = .slice (some ⟨g, 0, none⟩) (n + 1) cap ∧ g < wr.heap.size ∧ n + 1 ≤ cap := by
        rcases hrow.2 with ⟨-, h⟩ | ⟨g, cap, cur, e, -, h2, h3, -⟩
        · omega
        · exact ⟨g, cap, e, (Array.getElem?_eq_some_iff.1 h2).1, h3⟩
      have kc : wr.cell? ⟨g, n, none⟩ = some (.int .i64 c) := by
        have := hrow.cells (g := g) rfl n (.int .i64 c) (by unfold nums; rw [List.map_append, List.getElem?_append_right (by simp [hn])]; simp [hn])
        rwa [add_at, Nat.zero_add] at this
      have hfew := hS.few
      have hfe3 := hS.fe3
      rw [List.length_append, List.length_singleton, hn] at hfew
      have hnT : n ≤ 100000000 := by omega
      have hwc := hS.wfw c (by simp)
      obtain ⟨c0, c1, c2⟩ := hS.cel
      have HWC := Lib.hid hwc
      by_cases hcO : c ∈ O
      · obtain ⟨A, ka, hat, hv, hA⟩ := hS.a1 c hcO
        have HHS : Hid (Maps.has D1 (.int .i64 c) = true) := Lib.hid (by rw [show Maps.has D1 (.int .i64 c) = decide (c ∈ O) from hS.f1.2.1 c]; exact decide_eq_true hcO)
        have HAT : Hid (D1.atKey (.int .i64 c) (.held (.slice none 0 0)) = .held (.slice A (dec c).length ka)) := Lib.hid hat
        have c131 := any131 b M1 n1 (dec c).length ka D1 dec O (dec c) _ A wr c0 hS.f1 hS.a1 hv (HR.out.few c) (HR.out.wfd c)
        have HO1 := Lib.hid hS.f1.1
        by_cases hop : isOpen O (dec c) = true
        · rw [hop] at c131
          have R : Hid (RnI w b M1 M2 M3 base B0 n2 T N D2 dec K us val (.slice (some ⟨g, 0, none⟩) n cap) (.int .i64 (lg : Nat)) wr) := Lib.hid ⟨n1, n3, D1, D3, O, wk, sz, lg, rfl, hS.gone hn (fi_later hS.fi (fi_shut hop))⟩
          obtain ⟨dl, hdl⟩ : ∃ x, (dec c).length = x := ⟨_, rfl⟩
          rw [hdl] at HAT c131
          clear hS hat hv hA hcO hop hmu h5 hrow hsep hdl hwc hfew hfe3
          go_wp2_with (first
            | (at_lookup; refine Cf.look_tok rfl _ _ rfl M1 n1 D1 rfl HO1.out c rfl HWC.out _ true HAT.out HHS.out ?_)
            | (go_at_call 140; (with_reducible refine c131.mono ?_); rintro e w1 ⟨rfl, rfl⟩))
          go_roundw
          case rel => exact R.out
          case measure => simp [lenV]
        · have hop0 : isOpen O (dec c) = false := by simpa using hop
          rw [hop0] at c131
          have hno := fi_open hop0
          obtain ⟨s, hs⟩ : ∃ s, sizeS sz (dec c) = s := ⟨_, rfl⟩
          have hs5 : s ≤ 5 := by rw [← hs]; unfold sizeS; omega
          have c132 : Calls Tryz.prog 141 #[.pointer (some ⟨b, 0, none⟩), .slice A (dec c).length ka] wr.drew fun e w' => e = .returned (.int .i64 (s : Nat)) ∧ wr.drew = w' := by
            rw [← hs]
            exact size132 b M3 n3 (dec c).length ka D3 sz (dec c) A wr.drew c2 ⟨hS.f3.1.drew, hS.f3.2⟩ h5 (hv.below (below_drew (Below.refl _ _))) (HR.out.few c) (HR.out.wfd c)
          obtain ⟨W2, hu2, ho2, hg2d⟩ := upd_sz (W := wr.drew) (d := c) (k := s) hS.f3.1.drew hwc (by omega) (by omega)
          have hg2 : wr.grownBy W2 (some M3) := undrew_grown hg2d
          obtain ⟨⟨n12, n13, n23⟩, nb1, nb2, nb3⟩ := HB.out.ne
          have d0 : W2.cell? ⟨b, 0, none⟩ = some (.map (some M1)) := hg2.cell (a := ⟨b, 0, none⟩) c0 (fun e => nb3 (by injection e))
          have d1 : W2.cell? ⟨b, 1, none⟩ = some (.map (some M2)) := hg2.cell (a := ⟨b, 1, none⟩) c1 (fun e => nb3 (by injection e))
          have d2 : W2.cell? ⟨b, 2, none⟩ = some (.map (some M3)) := hg2.cell (a := ⟨b, 2, none⟩) c2 (fun e => nb3 (by injection e))
          have HF3 : Hid (F3 W2 M3 (n3 + 1) (D3.put (key c) (.lit (.int .i64 (s : Nat)))) (putS sz c s) ∧ putS sz c s c = s) := Lib.hid ⟨f3_put hS.f3 ho2, putS_same _ _ _⟩
          have HO2 : Hid (W2.ownsMap Tryz.prog 3 Cf.tokE M1 n1 D1) := Lib.hid (hS.f1.1.kept hg2 (fun e => n13 (by injection e)))
          obtain ⟨A', ca', hval, -, -, -⟩ := own_vals (hS.f2.row c).1
          have HX : Hid (∀ W3 : World, W3.ownsMap Tryz.prog 3 Cf.tokE M1 n1 (D1.del (key c)) → W2.mapTurned W3 M1 → W3.cell? ⟨b, 1, none⟩ = some (.map (some M2)) ∧ (Instr.lookup 175 (.map (some M2)) (.int .i64 c) false).run Tryz.prog W3 = .ok (.slice A' (us c).length ca') W3 ∧
              ∃ v' W4, (Builtin.append_ #[25, 25] 31 #[.slice (some ⟨g, 0, none⟩) n cap, .slice A' (us c).length ca']).run Tryz.prog W3 = .ok v' W4 ∧ Hid (RnI w b M1 M2 M3 base B0 n2 T N D2 dec K us val v' (.int .i64 (max lg s : Nat)) W4 ∧ lenV v' + muW us M1 W4 < n + 1 + muW us M1 wr)) := Lib.hid (by
            intro W3 ho3 ht3
            have hg3 := ht3.grown
            have hf2 : F2 W3 M2 n2 base D2 us val := (hS.f2.kept hg2 (fun e => n23 (by injection e)) (fun x => none_ne (hS.f2.row x).1 HB.out.m3)).kept hg3 (fun e => n12 (by injection e with e; exact e.symm)) (fun x => none_ne (hS.f2.row x).1 HB.out.m1)
            refine ⟨hg3.cell (a := ⟨b, 1, none⟩) d1 (fun e => nb1 (by injection e)), by rw [← hval]; exact look_at hf2.own hwc (hf2.at2 c), ?_⟩
            have hpop : wr.ownsRow base 3 1 (.slice (some ⟨g, 0, none⟩) n cap) n (nums .i64 wk) := own_pop (z := .int .i64 c) (by have := hrow; simpa [nums] using this)
            have hpop3 := (hpop.kept hg2 (none_ne hpop HB.out.m3)).kept hg3 (none_ne hpop HB.out.m1)
            have hrc := (hf2.row c).1
            rw [hval] at hrc
            obtain ⟨A2, c2', e2, -, hvv, -⟩ := own_vals hrc
            cases e2
            have hul := HR.out.low c
            obtain ⟨v', W4, hr4, ho4, hg4, hl4⟩ := run_append_ints_at (W := W3) base _ n _ hpop3 A' (us c).length ca' (us c) hvv (by omega) (by have h1 := HB.out.top; have h2 := hS.bel.size; have h3 := hg2.size; have h4 := hg3.size; exact Nat.le_trans (Nat.le_trans h1 h2) (Nat.le_trans h3 h4)) 31
            have hD := RnS.done (W2 := W2) (W3 := W3) (W4 := W4) (v' := v') (wv' := .slice (some ⟨g, 0, none⟩) n cap) HB.out HR.out hS (by rw [hn]; exact hpop) rfl hcO hno (by rw [hs]; exact ho2) hg2 ho3 hg3 (by rw [hn]; exact ho4) hg4 hl4
            rw [hs] at hD
            refine ⟨v', W4, hr4, Lib.hid ⟨⟨n1, n3 + 1, _, _, _, _, _, _, rfl, hD⟩, ?_⟩⟩
            rw [muW_is hD.f1, hmu, lenV_own ho4]
            have := toDo_cut (us := us) hcO
            omega)
          obtain ⟨dl, hdl⟩ : ∃ x, (dec c).length = x := ⟨_, rfl⟩
          obtain ⟨ul, hul⟩ : ∃ x, (us c).length = x := ⟨_, rfl⟩
          rw [hdl] at HAT c131 c132
          rw [hul] at HX
          clear hS hat hv hA hcO hop hop0 hmu h5 hrow hsep hdl hul hwc hfew hfe3 hno hs ho2 hg2 hg2d hval n12 n13 n23 nb1 nb2 nb3
          have hcd2 : wr.drew.cell? ⟨b, 2, none⟩ = some (.map (some M3)) := c2
          have HM : Hid (max (lg : Int) (s : Int) = ((max lg s : Nat) : Int)) := Lib.hid (by omega)
          go_wp2_with (first
            | (at_lookup; refine Cf.look_tok rfl _ _ rfl M1 n1 D1 rfl HO1.out c rfl HWC.out _ true HAT.out HHS.out ?_)
            | (go_at_call 140; (with_reducible refine c131.mono ?_); rintro e w1 ⟨rfl, rfl⟩))
          go_region_held3 (fun w' => w'.cell? ⟨b, 2, none⟩ = some (.map (some M3))) (first | exact hcd2 | exact d2)
            ((go_simp; go_at_call 141; (with_reducible refine c132.mono ?_); rintro e w1 ⟨rfl, rfl⟩))
          all_goals
            go_wp2_with (first
              | (at_lookup; refine look_szk rfl _ _ rfl M3 (n3 + 1) _ _ rfl HF3.out.1 c rfl HWC.out s HF3.out.2 ?_)
              | (at_delete; refine wpList_delete_own _ rfl _ _ 175 3 rfl 25 Cf.k3 Tryz.underlying175 Cf.tokE M1 n1 D1 rfl HO2.out _ _ rfl (Cf.key3 HWC.out) ?_; intro W3 ho3 ht3; obtain ⟨e1, lk3, v', W4, hr4, HE⟩ := HX.out W3 ho3 ht3; clear HX ho3 ht3)
              | (at_builtin; refine Lib.wpList_append_run _ rfl _ _ _ _ rfl _ _ rfl rfl _ _ hr4 ?_))
            go_roundw
            case rel => rw [HM.out]; exact HE.out.1
            case measure => exact HE.out.2
      · have hh0 : Maps.has D1 (.int .i64 c) = false := by rw [show Maps.has D1 (.int .i64 c) = decide (c ∈ O) from hS.f1.2.1 c]; exact decide_eq_false hcO
        have HAT := Lib.hid (Maps.atKey_of_not_has hh0 (.held (.slice none 0 0)))
        have HHS := Lib.hid hh0
        have HO1 := Lib.hid hS.f1.1
        have R : Hid (RnI w b M1 M2 M3 base B0 n2 T N D2 dec K us val (.slice (some ⟨g, 0, none⟩) n cap) (.int .i64 (lg : Nat)) wr) := Lib.hid ⟨n1, n3, D1, D3, O, wk, sz, lg, rfl, hS.gone hn (fi_gone hS.fi hcO)⟩
        clear hS hcO hmu h5 hrow hsep hwc hfew hfe3 hh0
        go_wp2_with (at_lookup; refine Cf.look_tok rfl _ _ rfl M1 n1 D1 rfl HO1.out c rfl HWC.out _ false HAT.out HHS.out ?_)
        go_roundw
        case rel => exact R.out
        case measure => simp [lenV]
end Go.Proofs.YtfakohoamgogoaaGreatDoor
