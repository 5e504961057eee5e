/- What Lines hands back, and going through it: an iterator that goes through another one. -/
import Derived.Test.YtkcpnnfbhcklpaaGreatDoorBodies
import Derived.Deep.RegionWith
import Derived.Deep.RegionHeld3
namespace Go.Proofs.YtkcpnnfbhcklpaaGreatDoor
open Go.RowKit Go.Shelf
attribute [local go_sem] Oper.semAt_some

theorem seq34 (m B n c : Nat) (P0 : Option Addr) (L : List UInt8) (A : Nat → Prop) (w : World) (hm : 1 ≤ m) (hn : n ≤ 100000) (hB : B < w.heap.size) (hBs : w.cell? ⟨B, 0, none⟩ = some (.slice P0 n c)) (hO : Octs w P0 n L)
    (hP : ∀ a, P0 = some a → A a.block ∧ a.block < w.heap.size) (hA0 : A 0) (hM : ML w) (hPc : P0 = none → c = 0) (hc : n ≤ c) :
    SeqOwn Fence.wide m Tryz.prog 40 #[.pointer (some ⟨B, 0, none⟩)] (fun x : Int × List UInt8 => #[.int .i64 x.1, .string (bs x.2)]) (fun x _ => x.2.length ≤ 100000) A 0 0 (fun ys => ys = numbered 1 (pieces L)) (fun pre => pre <+: numbered 1 (pieces L)) 200000 w :=
  fun l J Jx W hW _ hJ _ hY h0 =>
    iter34 m l B n c P0 L _ hm hn J Jx (fun _ _ _ h hb => hJ.below h hb) (fun pre x W1 hj hx hl => hY pre x W1 hj hx hl) W ((hW.cell (p := ⟨B, 0, none⟩) hB).trans hBs) (hO.below hW)
      (fun a e => ⟨(hP a e).1, by have := (hP a e).2; omega, by have := (hP a e).2; omega⟩) ⟨hA0, by omega, by omega⟩ (hM.below hW) hPc hc h0

/-- A line as it is handed over: its number, where its fields lie, and what they are. -/
abbrev LnV := Int × Option Addr × List (List UInt8)
def view (x : LnV) : Ln := (x.1, x.2.2)
def lnVal (x : LnV) : Array Value := #[.agg #[.int .i64 x.1, .slice x.2.1 x.2.2.length x.2.2.length]]
def LnRd (x : LnV) (W : World) : Prop := Vals W x.2.1 x.2.2.length (strs x.2.2) ∧ x.2.2.length ≤ 200000
theorem lnRd_abide (x : LnV) (B : Nat) : Abide 0 0 B (fun (_ : Unit) W => LnRd x W) := by
  refine Abide.and ?_ (Abide.pure _ _ _ _)
  intro _ W W' row hs hg hr
  refine ⟨hs.1, fun hn => ?_⟩
  obtain ⟨b, off, e, hlt, hc⟩ := hs.2 hn
  refine ⟨b, off, e, Nat.lt_of_lt_of_le hlt hg.size, fun j v hj => ?_⟩
  have h1 := hc j v hj
  obtain ⟨o, ho, hcl⟩ := cells_of_cell h1
  refine (World.cell?_of_block (hg.block _ (Array.getElem?_eq_some_iff.1 ho).1 (fun e => ?_))).trans h1
  rcases hr _ e.symm with h | ⟨_, o', ho', hc'⟩
  · omega
  · rw [ho] at ho'; cases ho'; rw [hcl] at hc'; cases hc'

def LinesPost (l : List UInt8) (n : Nat) (w : World) (e : Ending) (w' : World) : Prop :=
  Below w.heap.size w w' ∧ ∃ B P c, e = .returned (.func (.func 28) #[] #[.pointer (some ⟨B, 0, none⟩)]) ∧ w.heap.size ≤ B ∧ B < w'.heap.size ∧ w'.cell? ⟨B, 0, none⟩ = some (.slice P n c) ∧ Octs w' P n l ∧ n ≤ c ∧ (P = none → c = 0) ∧
    (∀ a, P = some a → w.heap.size ≤ a.block ∧ a.block < w'.heap.size)

def ClonePost (l : List UInt8) (n : Nat) (w : World) (e : Ending) (w' : World) : Prop :=
  Below w.heap.size w w' ∧ ∃ P c, e = .returned (.slice P n c) ∧ Octs w' P n l ∧ n ≤ c ∧ (P = none → c = 0) ∧ (∀ a, P = some a → w.heap.size ≤ a.block ∧ a.block < w'.heap.size)
theorem clone22 (A : Option Addr) (n c : Nat) (l : List UInt8) (w : World) (hO : Octs w A n l) (hn : n ≤ 100000) : Calls Tryz.prog 27 #[.slice A n c] w (ClonePost l n w) := by
  have hl := hO.len
  cases A with
  | none =>
    have h0 : n = 0 := by
      rcases Nat.eq_zero_or_pos n with h | h
      · exact h
      · obtain ⟨b, off, e, -⟩ := hO.2 h
        cases e
    subst h0
    obtain rfl : l = [] := List.eq_nil_of_length_eq_zero hl
    refine (Tryz.bytes_Clone_nil 0 c w).mono ?_
    rintro e w' ⟨rfl, rfl⟩
    exact ⟨Below.refl _ _, none, 0, rfl, Vals.nil _ _, Nat.le_refl _, fun _ => rfl, fun a e => by cases e⟩
  | some ad =>
    have hcell : ∀ i, i < n → w.cell? (ad.add i) = some (.int .u8 ((ints l).getD i 0)) := fun i hi => by
      obtain ⟨b, off, e, -, -⟩ := hO.2 (by omega)
      cases e
      have := octs_cells hO i hi
      rw [show (⟨b, off, none⟩ : Addr).add i = ⟨b, off + i, none⟩ by simp [Addr.add]]
      exact this
    refine (Tryz.bytes_Clone_at ad n c (ints l) w (by rw [ints_length, hl]) (by omega) hcell).mono ?_
    rintro e w' ⟨v, rfl, hown, -, hb⟩
    have hlt : ∀ g, v.ownBlock = some g → w.heap.size ≤ g ∧ g < w'.heap.size := fun g hg => by
      rcases hown.2 with ⟨rfl, _⟩ | ⟨g', cap, cur, rfl, h1, h2, _⟩
      · cases hg
      · cases hg
        exact ⟨h1, (Array.getElem?_eq_some_iff.1 h2).1⟩
    obtain ⟨P, c', rfl, hc, hV, hnil⟩ := own_vals hown
    exact ⟨hb, P, c', rfl, hV, hc, hnil, fun a e => hlt a.block (by rw [e]; rfl)⟩

set_option maxHeartbeats 1000000 in
theorem lines9 (A : Option Addr) (n c : Nat) (l : List UInt8) (w : World) (hO : Octs w A n l) (hn : n ≤ 100000) : Calls Tryz.prog 16 #[.slice A n c] w (LinesPost l n w) := by
  have c22 := clone22 A n c l w hO hn
  clear hO
  go_enter Tryz.func16, Tryz.ntmps16
  go_wp2_with (go_at_call 27; (with_reducible refine c22.mono ?_); rintro e w1 ⟨hb1, P, c1, rfl, hO1, hc1, hP1, hA1⟩; have H1 := Lib.hid hO1; have H2 := Lib.hid hP1; have H3 := Lib.hid hA1; clear hO1 hP1 hA1)
  go_ret
  have b2 : Below w1.heap.size w1 (w1.alloc (.cells #[.slice P n c1] 22)) := (Below.refl _ w1).alloc (Nat.le_refl _) _
  exact ⟨hb1.trans (b2.mono hb1.size), w1.heap.size, P, c1, rfl, hb1.size, by simp, by simp, H1.out.below b2, hc1, H2.out, fun a e => ⟨(H3.out a e).1, by have := (H3.out a e).2; simp; omega⟩⟩

/-- What lies behind each body, as the loop over the bodies goes. -/
def BI (A : Nat → Prop) (W2 : World) (J : List LnV → World → Prop) (pre : List (Int × List UInt8)) (W : World) : Prop :=
  (∃ xs : List LnV, xs.map view = pre.filterMap lineOf ∧ xs.length ≤ pre.length ∧ J xs W) ∧ Kept A W2 W
def BX (Jx : List LnV → World → Prop) (c : Code) (pre : List (Int × List UInt8)) (W : World) : Prop := c = .ret ∧ ∃ xs : List LnV, xs.map view = pre.filterMap lineOf ∧ Jx xs W
theorem bi_abide {A : Nat → Prop} {W2 : World} {J : List LnV → World → Prop} {B : Nat} (hB : B ≤ W2.heap.size) (h : Abide 0 0 B J) : Abide 0 0 W2.heap.size (BI A W2 J) := by
  refine Abide.and ?_ (abide_kept A W2 (fun k _ hk => ⟨hk, by omega⟩))
  intro s W W' row hs hg hr
  obtain ⟨xs, h1, h2, h3⟩ := hs
  exact ⟨xs, h1, h2, h.mono (fun _ _ h => absurd h (by omega)) hB xs W W' row h3 hg hr⟩
theorem bx_abide {Jx : List LnV → World → Prop} {B C : Nat} (hB : B ≤ C) (h : Abide 0 0 B Jx) (c : Code) : Abide 0 0 C (BX Jx c) := by
  intro s W W' row hs hg hr
  obtain ⟨e, xs, h1, h3⟩ := hs
  exact ⟨e, xs, h1, h.mono (fun _ _ h => absurd h (by omega)) hB xs W W' row h3 hg hr⟩
theorem leave23 {R : Ending → World → Prop} {Wf : World} {D m : Nat} {tmps : Array Value} (hk : Wf.heap[D]? = some (.deferred (some []))) (h : R (.returned (.tuple #[])) (Wf.putObj D (.deferred none))) :
    LeavesInM Fence.wide m Tryz.prog Tryz.f28 tmps R [{ target := .collected D, args := #[] }] .returning Wf := by
  refine ⟨by simp, .inl ⟨_, _, rfl, run_takeDeferred hk, ?_⟩⟩
  refine ⟨.tuple #[], ?_, h⟩
  simp [results, go_sem]

theorem round_any {m m' lq : Nat} {P : Program} {l : Nat} {f : FuncId} {tmps : Array Value} {assign body : Code} {w : World} {R : Ending → World → Prop} (h : RoundIn Fence.wide m P l f tmps assign body w R) : RoundIn (Fence.wide.inRound lq) m' P l f tmps assign body w R := ⟨h.1, fun c cs _ => h.2 c cs (room_wide _)⟩
theorem below_drew {B : Nat} {a w : World} (h : Below B a w) : Below B a w.drew := ⟨h.os, h.tape, h.output, h.size, h.block⟩
theorem below_of_drew {w w' : World} (h : Below w.drew.heap.size w.drew w') : Below w.heap.size w w' := ⟨h.os, h.tape, h.output, h.size, h.block⟩

/-- What a round of the loop over the bodies needs of who goes through the lines. -/
def YieldsTo (m l lq : Nat) (x : LnV) (R : Bool → World → Prop) (W : World) : Prop :=
  ∃ fn tmps assign body, (Instr.yield l #[.agg #[.int .i64 x.1, .slice x.2.1 x.2.2.length x.2.2.length]]).run Tryz.prog W = .ok (.round l fn tmps assign body) W ∧ RoundIn (Fence.wide.inRound lq) m Tryz.prog l fn tmps assign body W fun e W' => ∃ f, e = .returned (.bool f) ∧ R f W'

set_option maxRecDepth 100000 in
set_option maxHeartbeats 4000000 in
theorem iter23 (m B n c n₀ : Nat) (P0 : Option Addr) (L : List UInt8) (w : World) (hm : 5 ≤ m) (hn : n ≤ 100000) (hB0 : n₀ ≤ B) (hB : B < w.heap.size) (hBs : w.cell? ⟨B, 0, none⟩ = some (.slice P0 n c)) (hO : Octs w P0 n L)
    (hP : ∀ a, P0 = some a → n₀ ≤ a.block ∧ a.block < w.heap.size) (hM : ML w) (hPc : P0 = none → c = 0) (hc : n ≤ c) :
    SeqOwn Fence.wide m Tryz.prog 28 #[.pointer (some ⟨B, 0, none⟩)] lnVal LnRd (fun k => k = 0 ∨ n₀ ≤ k) 0 0 (fun xs => xs.map view = linesIn L) (fun pre => pre.map view <+: linesIn L) 200001 w := by
  intro l J Jx W hW hsz hJ hJx hY h0
  have hm1 : 1 ≤ m := by omega
  have hm2 : 1 ≤ m - 1 - 1 := by omega
  have hBW := (hW.cell (p := ⟨B, 0, none⟩) hB).trans hBs
  have c24 := callsIn_wide (n := m - 1) |>.2 (bodies24 P0 n c (W.alloc (.cells #[.func (.yield l) #[] #[]] 72)))
  have bW2 : Below W.heap.size W ((W.alloc (.cells #[.func (.yield l) #[] #[]] 72)).alloc (.cells #[.slice P0 n c] 22)) := ((Below.refl _ _).alloc (Nat.le_refl _) _).alloc (by simp) _
  have bw2 : Below w.heap.size w ((W.alloc (.cells #[.func (.yield l) #[] #[]] 72)).alloc (.cells #[.slice P0 n c] 22)) := hW.trans (bW2.mono hW.size)
  have hq := seq34 (m - 1) (W.heap.size + 1) n c P0 L (fun k => (k = 0 ∨ n₀ ≤ k) ∧ k ≠ w.heap.size ∧ k ≠ w.heap.size + 1) ((W.alloc (.cells #[.func (.yield l) #[] #[]] 72)).alloc (.cells #[.slice P0 n c] 22)) (by omega) hn (by simp) (by simp) ((hO.below hW).below bW2)
    (fun a e => ⟨⟨.inr (hP a e).1, by have := (hP a e).2; omega, by have := (hP a e).2; omega⟩, by have := (hP a e).2; have := bw2.size; omega⟩) ⟨.inl rfl, by omega, by omega⟩ ((hM.below hW).below bW2) hPc hc
  have hyb : ((W.alloc (.cells #[.func (.yield l) #[] #[]] 72)).alloc (.cells #[.slice P0 n c] 22)).cell? ⟨W.heap.size, 0, none⟩ = some (.func (.yield l) #[] #[]) := by simp
  have hsz2 : ((W.alloc (.cells #[.func (.yield l) #[] #[]] 72)).alloc (.cells #[.slice P0 n c] 22)).heap.size = w.heap.size + 4 := by simp; omega
  have hM2 : ML ((W.alloc (.cells #[.func (.yield l) #[] #[]] 72)).alloc (.cells #[.slice P0 n c] 22)) := (hM.below hW).below bW2
  have hJ2 : J [] ((W.alloc (.cells #[.func (.yield l) #[] #[]] 72)).alloc (.cells #[.slice P0 n c] 22)) := hJ.below h0 bW2
  refine callsIn_of_wp_marks Tryz.func28 rfl trivial ?_ rfl
  simp only [Tryz.ntmps28, List.size_toArray, List.length_cons, List.length_nil, Nat.reduceAdd, Nat.reduceSub, Array.replicate_succ, Array.replicate_zero, List.push_toArray, List.append_toArray, List.nil_append, List.cons_append]
  have HQ := Lib.hid hq
  have HJ := Lib.hid hJ
  have HJx := Lib.hid hJx
  have HYY := Lib.hid hY
  have HP := Lib.hid hP
  have HO := Lib.hid hO
  have HPC := Lib.hid hPc
  have hB2 : (W.alloc (.cells #[.func (.yield l) #[] #[]] 72)).cell? ⟨B, 0, none⟩ = some (.slice P0 n c) := (World.cell?_alloc_lt _ _ _ (by show B < W.heap.size; omega)).trans hBW
  have HSZ := Lib.hid hsz
  clear hq hJ hJx hY hP hO hPc hM h0 hBs hBW hsz
  gi_wp2_with (refine ⟨trivial, ?_⟩; gi_at_call 29; (with_reducible refine c24.mono ?_); rintro e w' ⟨rfl, rfl⟩)
  clear c24
  obtain ⟨W2, hW2⟩ : ∃ W2, (W.alloc (.cells #[.func (.yield l) #[] #[]] 72)).alloc (.cells #[.slice P0 n c] 22) = W2 := ⟨_, rfl⟩
  rw [hW2] at HQ hyb hsz2 hM2 hJ2 bW2 bw2 ⊢
  clear hW2
  have HSZ2 := Lib.hid hsz2
  clear hsz2
  refine range_own1 rfl (by omega) rfl trivial (enters_of Tryz.func40 (by kernel_rfl) rfl) HQ.out (Nat.zero_le _) ?A0 ?A1 (fun _ => rfl) (fun x => Abide.pure _ _ _ _)
    (BI (fun k => (k = 0 ∨ n₀ ≤ k) ∧ k ≠ w.heap.size ∧ k ≠ w.heap.size + 1) W2 J) (BX Jx) (bi_abide (by have := HSZ2.out; have := HSZ.out; omega) HJ.out) (bx_abide (by have := HSZ2.out; have := HSZ.out; omega) HJx.out) ⟨⟨[], rfl, Nat.le_refl _, hJ2⟩, Kept.refl _ _⟩ ?a1 ?assign ?body ?done ?stop
  case A0 => have := HSZ2.out; exact ⟨.inr (by omega), by omega, by omega⟩
  case A1 => have := HSZ2.out; exact ⟨.inr (by omega), by omega, by omega⟩
  case assign =>
    intro lq x W' K hK
    gi_wp2
    exact hK
  case body =>
    rintro lq pre ⟨num, bd⟩ Wb ⟨⟨xs, hxs, hxl, hJb⟩, hKb⟩ hbd hlen
    have hbd : bd.length ≤ 100000 := hbd
    have hsz := HSZ.out
    have hsz2 := HSZ2.out
    have c25 := trim25 bd Wb (by omega)
    have hMb := hM2.kept hKb ⟨.inl rfl, by omega, by omega⟩
    have hybb : Wb.cell? ⟨W.heap.size, 0, none⟩ = some (.func (.yield l) #[] #[]) := hKb.cell (a := ⟨W.heap.size, 0, none⟩) ⟨.inr (by show n₀ ≤ W.heap.size; omega), by show W.heap.size ≠ _; omega, by show W.heap.size ≠ _; omega⟩ hyb
    have hybl : W.heap.size < Wb.heap.size := by have h1 := hKb.1; have h2 := hsz2; omega
    by_cases hte : trim bd = []
    · rw [hte, bs_nil] at c25
      have hfin := fun w0 (hb0 : Below Wb.heap.size Wb w0) => show Kept (fun k => (k = 0 ∨ n₀ ≤ k) ∧ k ≠ w.heap.size ∧ k ≠ w.heap.size + 1) Wb w0 ∧ BI (fun k => (k = 0 ∨ n₀ ≤ k) ∧ k ≠ w.heap.size ∧ k ≠ w.heap.size + 1) W2 J (pre ++ [(num, bd)]) w0 from
        ⟨Kept.of_below hb0, ⟨xs, by rw [List.filterMap_append, hxs]; simp [lineOf, hte], by simp; omega, HJ.out.below hJb hb0⟩, hKb.trans (Kept.of_below hb0)⟩
      have HF := Lib.hid hfin
      clear hfin hte hxs hJb hKb hMb hM2 hJ2 hsz hsz2
      gi_wp2_with (refine ⟨trivial, ?_⟩; gi_at_call 30; refine (CallsIn.inRound lq (callsIn_wide.2 c25)).mono ?_; rintro e w0 ⟨rfl, hb0⟩)
      exact HF.out w0 hb0
    · have hne := bs_some hte
      have hle : (lineOf (num, bd)) = some (num, fieldsOf bd) := by simp [lineOf, hte]
      have hall : ∀ w0 w1 (Af : Option Addr), Below Wb.heap.size Wb w0 → Below w0.drew.heap.size w0.drew w1 → Vals w1 Af (fieldsOf bd).length (strs (fieldsOf bd)) →
          w1.cell? ⟨W.heap.size, 0, none⟩ = some (.func (.yield l) #[] #[]) ∧ YieldsTo (m - 1 - 1 - 1) l lq (num, Af, fieldsOf bd) (fun f W3 =>
            (f = true ∧ Kept (fun k => (k = 0 ∨ n₀ ≤ k) ∧ k ≠ w.heap.size ∧ k ≠ w.heap.size + 1) Wb W3 ∧ BI (fun k => (k = 0 ∨ n₀ ≤ k) ∧ k ≠ w.heap.size ∧ k ≠ w.heap.size + 1) W2 J (pre ++ [(num, bd)]) W3) ∨
            (f = false ∧ Kept (fun k => (k = 0 ∨ n₀ ≤ k) ∧ k ≠ w.heap.size ∧ k ≠ w.heap.size + 1) Wb W3 ∧ BX Jx .ret (pre ++ [(num, bd)]) W3)) w1 := by
        intro w0 w1 Af hb0 hb1 hV
        have hb : Below Wb.heap.size Wb w1 := hb0.trans ((below_of_drew hb1).mono hb0.size)
        refine ⟨(hb.cell (p := ⟨W.heap.size, 0, none⟩) hybl).trans hybb, ?_⟩
        obtain ⟨fn, tmps, assign, body, hy, hR⟩ := HYY.out xs (num, Af, fieldsOf bd) w1 (HJ.out.below hJb hb) ⟨hV, by have h1 := cutAll_length 59 bd; show (fieldsOf bd).length ≤ _; unfold fieldsOf; rw [List.length_map]; omega⟩ (by omega)
        refine ⟨fn, tmps, assign, body, hy, round_any (hR.mono ?_)⟩
        have hmap : (xs ++ [((num, Af, fieldsOf bd) : LnV)]).map view = (pre ++ [(num, bd)]).filterMap lineOf := by
          rw [List.map_append, List.filterMap_append, hxs]
          simp [hle, view]
        rintro e W3 ⟨⟨rfl, hj⟩ | ⟨rfl, hj⟩, hk⟩
        · exact ⟨true, rfl, .inl ⟨rfl, (Kept.of_below hb).trans hk, ⟨_, hmap, by simp; omega, hj⟩, hKb.trans ((Kept.of_below hb).trans hk)⟩⟩
        · exact ⟨false, rfl, .inr ⟨rfl, (Kept.of_below hb).trans hk, rfl, _, hmap, hj⟩⟩
      have h26 : ∀ w0, Below Wb.heap.size Wb w0 → Calls Tryz.prog 31 #[.string (bs bd)] w0.drew (FieldsPost bd w0.drew) := fun w0 hb0 => split26 bd w0.drew hbd (hMb.below (below_drew hb0))
      have hyw : ∀ w0, Below Wb.heap.size Wb w0 → w0.cell? ⟨W.heap.size, 0, none⟩ = some (.func (.yield l) #[] #[]) := fun w0 hb0 => (hb0.cell (p := ⟨W.heap.size, 0, none⟩) hybl).trans hybb
      have HALL := Lib.hid hall
      have H26 := Lib.hid h26
      have HYW := Lib.hid hyw
      obtain ⟨T2, hT2⟩ : ∃ T2, bs (trim bd) = T2 := ⟨_, rfl⟩
      rw [hT2] at c25 hne
      have hmx : Tryz.prog.follows .mixedOrders = true := by kernel_rfl
      clear hall h26 hyw hte hxs hJb hKb hMb hM2 hJ2 hle hT2 HYY HQ hsz hsz2
      gi_wp2_with (refine ⟨trivial, ?_⟩; gi_at_call 30; refine (CallsIn.inRound lq (callsIn_wide.2 c25)).mono ?_; rintro e w0 ⟨rfl, hb0⟩; have hy0 := HYW.out w0 hb0; have hy0d : w0.drew.cell? ⟨W.heap.size, 0, none⟩ = some (.func (.yield l) #[] #[]) := hy0)
      clear c25
      gi_region_with_o (first
        | (refine ⟨trivial, ?_⟩; gi_at_call 31; refine (CallsIn.inRound lq (callsIn_wide.2 (H26.out w0 hb0))).mono ?_; rintro e w1 ⟨hb1, Af, rfl, hVf⟩; obtain ⟨hy1, fn, tmps, assign, body, hy, hR⟩ := HALL.out w0 w1 Af hb0 hb1 hVf; dsimp only at hy)
        | (refine hR.mono ?_; rintro e W3 ⟨f, rfl, hf⟩))
      all_goals
        have HF := Lib.hid hf
        clear hf
        cases f with
        | true =>
          gi_wp2
          rcases HF.out with ⟨_, h1, h2⟩ | ⟨h, _⟩
          · exact ⟨h1, h2⟩
          · cases h
        | false =>
          gi_wp2
          rcases HF.out with ⟨h, _⟩ | ⟨_, h1, h2⟩
          · cases h
          · exact ⟨h1, h2⟩
  case done =>
    rintro D ys W3 hD hys ⟨⟨xs, hxs, hxl, hJ3⟩, hK3⟩ hKD
    have hres : xs.map view = linesIn L := by rw [hxs, hys, lines_pieces]
    have hJ4 : J xs (W3.putObj D (.deferred none)) := HJ.out.put hJ3 (by have := HSZ2.out; have := HSZ.out; omega) hKD rfl
    have HR := Lib.hid hres
    have HJ4 := Lib.hid hJ4
    clear hres hJ4 hxs hys hJ3 hK3
    gi_wp2
    exact leave23 hKD ⟨⟨_, rfl⟩, .inl ⟨xs, HR.out, HJ4.out⟩⟩
  case stop =>
    rintro D c' pre W3 hD hpre ⟨rfl, xs, hxs, hJ3⟩ hKD
    have hres : xs.map view <+: linesIn L := by
      rw [hxs, ← lines_pieces]
      obtain ⟨r, hr⟩ := hpre
      rw [← hr, List.filterMap_append]
      exact List.prefix_append _ _
    have hJ4 : Jx xs (W3.putObj D (.deferred none)) := HJx.out.put hJ3 (by have := HSZ2.out; have := HSZ.out; omega) hKD rfl
    have HR := Lib.hid hres
    have HJ4 := Lib.hid hJ4
    clear hres hJ4 hxs hpre hJ3
    gi_wp2
    exact leave23 hKD ⟨⟨_, rfl⟩, .inr ⟨xs, HR.out, HJ4.out⟩⟩
end Go.Proofs.YtkcpnnfbhcklpaaGreatDoor
