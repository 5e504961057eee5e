/- counts6: a law of stage 9 walked. -/
import Derived.Test.YtfakohoamgogoaaGreatDoorQt51
import Derived.Laws.AppendOwnNone
import Derived.Deep.RegionHeld3
import Derived.Deep.QuietTactic
import Derived.BigQuiet
namespace Go.Proofs.YtfakohoamgogoaaGreatDoor
open Go.RowKit
attribute [local go_sem] Oper.semAt_some
theorem append_nil_any {P : Program} {w : World} {ops : Array Oper} {rest : List Oper} {o : Oper} {a : Act} {Q : Exit → Act → World → Prop} (hgd : o.guard = none) (s x : Operand) (t : TypeId)
    (ho : o.op = .call { callee := .builtin .append, args := #[s, x], argTypes := #[t, t] })
    (base : Nat) (e : TypeId) (i : TypeInfo) (size c : Nat) (ht : P.underlying t = some (.slice e)) (hi : P.info? e = some i)
    (v : Value) (n : Nat) (xs : List Value) (hs : a.eval s = v) (hown : w.ownsRow base e size v n xs) (hx : a.eval x = .slice none 0 c)
    (h : wpList P ops Q rest (a.put o.dst v) w) : wpList P ops Q (o :: rest) a w := by
  refine wpList_plain hgd fun K hK => ?_
  have hrun := run_append_nil (P := P) (w := w) base t o.type e i size c ht hi v n xs hown
  unfold Oper.wp
  simp [execOp, ho, resolve, invoke, builtin, hs, hx, hrun, Result.andThen]
  exact hK _ _ h
theorem append_ints {P : Program} {w : World} {ops : Array Oper} {rest : List Oper} {o : Oper} {a : Act} {Q : Exit → Act → World → Prop} (hgd : o.guard = none) (s x : Operand) (t : TypeId)
    (ho : o.op = .call { callee := .builtin .append, args := #[s, x], argTypes := #[t, t] })
    (base : Nat) (e : TypeId) (i : TypeInfo) (z : Value) (bytes : Nat) (ht : P.underlying t = some (.slice e)) (hi : P.info? e = some i) (hz : i.zero = some z)
    (hsize : i.size = 1) (hby : i.bytes = bytes) (hzs : z.cells.size = 1)
    (v : Value) (n : Nat) (xs : List Value) (hs : a.eval s = v) (hown : w.ownsRow base e 1 v n xs)
    (A : Option Addr) (m c : Nat) (zs : List Int) (hx : a.eval x = .slice A m c) (hN : Vals w A m (nums .i64 zs))
    (h63 : n + m ≤ maxLen) (hbytes : (n + m) * bytes ≤ 140737488355328) (hbase : base ≤ w.heap.size)
    (h : ∀ v' w', w'.ownsRow base e 1 v' (n + m) (xs ++ nums .i64 zs) → w.grownBy w' v.ownBlock → wpList P ops Q rest (a.put o.dst v') w') : wpList P ops Q (o :: rest) a w := by
  cases A with
  | none =>
    have hm : m = 0 := by
      rcases Nat.eq_zero_or_pos m with h0 | h0
      · exact h0
      · obtain ⟨b, off, e, _⟩ := hN.2 h0
        cases e
    subst hm
    obtain rfl : zs = [] := List.eq_nil_of_length_eq_zero (by have := hN.1; rwa [nums_len] at this)
    refine append_nil_any hgd s x t ho base e i 1 c ht hi v n xs hs hown hx (h v w ?_ (World.grownBy.refl w _))
    simpa [nums] using hown
  | some ad =>
    exact wpList_append_own w hgd s x t ho base e i z 1 bytes ht hi hz hsize hby hzs (by decide) v n xs hs hown ad m c (nums .i64 zs) hx (by rw [nums_len, Nat.mul_one]; have := hN.1; rwa [nums_len] at this) (vals_cells hN) nums_one' h63 hbytes hbase (fun v' w' h1 h2 _ => h v' w' h1 h2)
end Go.Proofs.YtfakohoamgogoaaGreatDoor
namespace Go.Proofs.YtfakohoamgogoaaGreatDoor
open Go.RowKit
def cntL (s : List Int) (x : Int) : Nat := s.countP (fun z => decide (z = x))
theorem cntL_step {s : List Int} {k : Nat} {y x : Int} (h : s[k]? = some y) : cntL (s.take (k + 1)) x = cntL (s.take k) x + if y = x then 1 else 0 := by
  unfold cntL
  rw [List.take_add_one, h, List.countP_append]
  by_cases e : y = x <;> simp [e]
set_option maxRecDepth 100000 in
set_option maxHeartbeats 2000000 in
theorem count23 (A : Option Addr) (n c : Nat) (s : List Int) (x : Int) (w : World) (hV : Vals w A n (nums .i64 s)) (hn : n ≤ 100000) :
    Calls Tryz.prog 23 #[.slice A n c, .int .i64 x] w fun e w' => e = .returned (.int .i64 (cntL s x : Nat)) ∧ w = w' := by
  have hl : s.length = n := by have := hV.1; rwa [nlen] at this
  obtain ⟨r, hr⟩ : ∃ r, cntL s x = r := ⟨_, rfl⟩
  rw [hr]
  have HR := Lib.hid hr
  have HL := Lib.hid hl
  have HV := Lib.hid hV
  clear hr hl hV
  go_enter Tryz.func23, Tryz.ntmps23
  go_wp2
  go_loop [5, 6] (fun t i => ∃ k m : Nat, k ≤ n ∧ m ≤ k ∧ i = .int .i64 k ∧ t = .int .i64 m ∧ Hid (m = cntL (s.take k) x)) (fun _ i => n - (intOf i).toNat)
  case atStart => exact ⟨0, 0, Nat.zero_le _, Nat.le_refl _, rfl, rfl, rfl⟩
  case round =>
    obtain ⟨k, m, hk, hm, rfl, rfl, HI⟩ := hrel
    by_cases hlt : k < n
    · obtain ⟨y, hy⟩ : ∃ y, s[k]? = some y := ⟨_, List.getElem?_eq_getElem (by have := HL.out; omega)⟩
      obtain ⟨b, off, rfl, -, hc⟩ := HV.out.2 (by omega)
      have hcx : w.cell? ⟨b, off + k, none⟩ = some (.int .i64 y) := hc k _ (by unfold nums; rw [List.getElem?_map, hy]; rfl)
      have hst := cntL_step (x := x) hy
      rw [← HI.out] at hst
      have hb9 : decide (k < n) = true := decide_eq_true hlt
      by_cases he : y = x
      · rw [if_pos he] at hst
        have HST := Lib.hid hst
        subst he
        clear hc hy hst HI
        go_wp2
        go_round
        case rel => exact ⟨k + 1, m + 1, by omega, by omega, by go_num, by go_num, HST.out.symm⟩
        case measure => simp [intOf]; omega
      · rw [if_neg he] at hst
        have HST := Lib.hid hst
        have hbe : (y == x) = false := beq_false_of_ne he
        clear hc hy hst HI
        go_wp2
        go_round
        case rel => exact ⟨k + 1, m, by omega, by omega, by go_num, rfl, by rw [HST.out]; rfl⟩
        case measure => simp [intOf]; omega
    · obtain rfl : k = n := by omega
      have hm2 : m = r := by rw [HI.out, List.take_of_length_le (by have := HL.out; omega), HR.out]
      subst hm2
      clear HI HR
      go_wp2
      go_ret
      exact ⟨rfl, rfl⟩
end Go.Proofs.YtfakohoamgogoaaGreatDoor
namespace Go.Proofs.YtfakohoamgogoaaGreatDoor
open Go.RowKit Go.Shelf
attribute [local go_sem] Oper.semAt_some

def CtI (ps : List Uc.Pr) (s : List Int) (w X : World) (b : Nat) (kx : Nat) (s7 s8 : Value) (wr : World) : Prop :=
  ∃ (k t : Nat) (A : Option Addr) (c : Nat), s7 = .slice A t c ∧ s8 = .int .i64 k ∧ k ≤ s.length ∧ s.length - k ≤ kx ∧ t ≤ 1000 ∧ Hid (wr.ownsRow X.heap.size 3 1 (.slice A t c) t (nums .i64 ((s.take k).flatMap (fl ps))) ∧ Below X.heap.size X wr ∧ Hd w wr b ps)
def CtJ (ps : List Uc.Pr) (s : List Int) (w : World) (A1 A2 : Option Addr) (t kx : Nat) (s10 : Value) (wr : World) : Prop :=
  ∃ k : Nat, s10 = .int .i64 k ∧ k ≤ t ∧ t - k ≤ kx ∧ Hid (Vals wr A1 t (nums .i64 (s.flatMap (fl ps))) ∧ Vals wr A2 t (nums .i64 (nfd ps s)) ∧ Below w.heap.size w wr)
theorem cntL_nfd {ps : List Uc.Pr} (hF : Fit ps) (s : List Int) (y : Int) : cntL (nfd ps s) y = cntL (s.flatMap (fl ps)) y := sw_count (ord_sw hF.ccc _) _

set_option maxRecDepth 100000 in
set_option maxHeartbeats 8000000 in
theorem counts6 (b0 b1 b2 b3 b4 b5 b6 : Option Addr) (n0 n1 n2 n3 n4 n5 n6 m0 m1 m2 m3 m4 m5 m6 : Nat) (f : Nat → List UInt8) (As : Option Addr) (ns cs : Nat) (s : List Int) (w : World) (h0 : Octs w b0 n0 (f 0)) (h1 : Octs w b1 n1 (f 1)) (h2 : Octs w b2 n2 (f 2)) (h3 : Octs w b3 n3 (f 3)) (h4 : Octs w b4 n4 (f 4)) (h5 : Octs w b5 n5 (f 5)) (h6 : Octs w b6 n6 (f 6))
    (l0 : n0 ≤ 1000000000000000) (l1 : n1 ≤ 1000000000000000) (l2 : n2 ≤ 1000000000000000) (l3 : n3 ≤ 1000000000000000) (l4 : n4 ≤ 1000000000000000) (l5 : n5 ≤ 1000000000000000) (l6 : n6 ≤ 1000000000000000) (hf7 : ∀ i, 7 ≤ i → f i = []) (hM : ML w) (hH : HanT w) (hs : Vals w As ns (nums .i64 s)) (hcp : ns ≤ cs ∧ (As = none → cs = 0)) :
    Calls Tryz.prog 6 #[.agg #[.slice b0 n0 m0, .slice b1 n1 m1, .slice b2 n2 m2, .slice b3 n3 m3, .slice b4 n4 m4, .slice b5 n5 m5, .slice b6 n6 m6], .slice As ns cs] w fun e w' => e = .returned (.bool true) ∧ Below w.heap.size w w' := by
  have C7 : Hid (∀ W, BnB w W (.slice b0 n0 m0) (.slice b1 n1 m1) (.slice b2 n2 m2) (.slice b3 n3 m3) (.slice b4 n4 m4) (.slice b5 n5 m5) (.slice b6 n6 m6) → Calls Tryz.prog 7 #[] W fun e W' => e = .returned (.bool true) ∧ BnB w W' (.slice b0 n0 m0) (.slice b1 n1 m1) (.slice b2 n2 m2) (.slice b3 n3 m3) (.slice b4 n4 m4) (.slice b5 n5 m5) (.slice b6 n6 m6)) := Lib.hid (fun W hW => (awake7 W (ml_on hM hW.2) (hH.below hH.lt hW.2)).mono (by
    rintro e W' ⟨rfl, hb⟩
    exact ⟨rfl, hW.below hb⟩))
  have C8 : Hid (∀ W, BnB w W (.slice b0 n0 m0) (.slice b1 n1 m1) (.slice b2 n2 m2) (.slice b3 n3 m3) (.slice b4 n4 m4) (.slice b5 n5 m5) (.slice b6 n6 m6) → Calls Tryz.prog 8 #[.agg #[.slice b0 n0 m0, .slice b1 n1 m1, .slice b2 n2 m2, .slice b3 n3 m3, .slice b4 n4 m4, .slice b5 n5 m5, .slice b6 n6 m6]] W fun e W' => e = .returned (.bool (decide (n0 + n1 + n2 + n3 + n4 + n5 + n6 ≤ 3000))) ∧ BnB w W' (.slice b0 n0 m0) (.slice b1 n1 m1) (.slice b2 n2 m2) (.slice b3 n3 m3) (.slice b4 n4 m4) (.slice b5 n5 m5) (.slice b6 n6 m6)) := Lib.hid (fun W hW => (small8 b0 b1 b2 b3 b4 b5 b6 n0 n1 n2 n3 n4 n5 n6 m0 m1 m2 m3 m4 m5 m6 W l0 l1 l2 l3 l4 l5 l6).mono (by
    rintro e W' ⟨rfl, hb⟩
    exact ⟨rfl, hW.below hb⟩))
  have H1 := Lib.hid (bnb_new w (.slice b0 n0 m0) (.slice b1 n1 m1) (.slice b2 n2 m2) (.slice b3 n3 m3) (.slice b4 n4 m4) (.slice b5 n5 m5) (.slice b6 n6 m6))
  by_cases hsm : n0 + n1 + n2 + n3 + n4 + n5 + n6 ≤ 3000
  · rw [decide_eq_true hsm] at C8
    by_cases hln : ns ≤ 30
    · have hfl : ∀ i, (f i).length ≤ 3000 := by
        intro i
        rcases Nat.lt_or_ge i 7 with hi | hi
        · match i, hi with

          | 0, _ => have := h0.len; omega
          | 1, _ => have := h1.len; omega
          | 2, _ => have := h2.len; omega
          | 3, _ => have := h3.len; omega
          | 4, _ => have := h4.len; omega
          | 5, _ => have := h5.len; omega
          | 6, _ => have := h6.len; omega
        · rw [hf7 i hi]; simp
      have hlb : decide (30 < (ns : Int)) = false := decide_eq_false (by omega)
      have C9 : Hid (∀ W, BnB w W (.slice b0 n0 m0) (.slice b1 n1 m1) (.slice b2 n2 m2) (.slice b3 n3 m3) (.slice b4 n4 m4) (.slice b5 n5 m5) (.slice b6 n6 m6) → Calls Tryz.prog 21 #[.agg #[.slice b0 n0 m0, .slice b1 n1 m1, .slice b2 n2 m2, .slice b3 n3 m3, .slice b4 n4 m4, .slice b5 n5 m5, .slice b6 n6 m6]] W fun e W' => BnB w W' (.slice b0 n0 m0) (.slice b1 n1 m1) (.slice b2 n2 m2) (.slice b3 n3 m3) (.slice b4 n4 m4) (.slice b5 n5 m5) (.slice b6 n6 m6) ∧ LoadPost f W e W') := Lib.hid (fun W hW => (load29 b0 b1 b2 b3 b4 b5 b6 n0 n1 n2 n3 n4 n5 n6 m0 m1 m2 m3 m4 m5 m6 f W (h0.below hW.2) (h1.below hW.2) (h2.below hW.2) (h3.below hW.2) (h4.below hW.2) (h5.below hW.2) (h6.below hW.2) (by omega) (fun i => Nat.le_trans (hfl i) (by omega)) (ml_on hM hW.2) (hH.below hH.lt hW.2)).mono (fun e W' h => ⟨hW.below h.1, h⟩))
      by_cases hl : ∃ d, loadOf f = (⟨0, 0, 0⟩, some d)
      · obtain ⟨d, hl⟩ := hl
        have HF : Hid (Fit d.ps) := Lib.hid (load_fit hl (Nat.le_trans (hfl 0) (by omega)))
        have D9 : Hid (∀ W, BnB w W (.slice b0 n0 m0) (.slice b1 n1 m1) (.slice b2 n2 m2) (.slice b3 n3 m3) (.slice b4 n4 m4) (.slice b5 n5 m5) (.slice b6 n6 m6) → Calls Tryz.prog 21 #[.agg #[.slice b0 n0 m0, .slice b1 n1 m1, .slice b2 n2 m2, .slice b3 n3 m3, .slice b4 n4 m4, .slice b5 n5 m5, .slice b6 n6 m6]] W fun e W' => ∃ b, e = .returned (.tuple #[.pointer (some ⟨b, 0, none⟩), .agg #[.int .i64 0, .int .i64 0, .int .i64 0]]) ∧ Hid (Hd w W' b d.ps)) := Lib.hid (fun W hW => (C9.out W hW).mono (by
          rintro e W' ⟨hw, -, ⟨d', b, h, rfl, g1, g2, g3⟩ | ⟨x, h, rfl⟩⟩
          · rw [hl] at h
            injection h with _ h
            injection h with h
            subst h
            exact ⟨b, rfl, Lib.hid ⟨hw.2, ddr_pf g1⟩⟩
          · rw [hl] at h; injection h with _ h; cases h))
        have HS := Lib.hid hs
        have HCP := Lib.hid hcp
        have HN : Hid (s.length = ns ∧ ns ≤ 30) := Lib.hid ⟨by have := hs.1; rwa [nlen] at this, hln⟩
        obtain ⟨ps, hps⟩ : ∃ ps, d.ps = ps := ⟨_, rfl⟩
        rw [hps] at HF D9
        clear C9 hl hps hfl h0 h1 h2 h3 h4 h5 h6 l0 l1 l2 l3 l4 l5 l6 hf7 hM hH hs hcp hsm
        go_enter Tryz.func6, Tryz.ntmps6
        go_upto_region 6 with (first
          | (go_at_call 21; (with_reducible refine (D9.out _ H8.out).mono ?_); rintro e W9 ⟨b, rfl, H9⟩)
          | (go_at_call 7; (with_reducible refine (C7.out _ H1.out).mono ?_); rintro e W7 ⟨rfl, H7'⟩; have H7 := Lib.hid H7'; clear H7'; obtain ⟨⟨q0, q1, q2, q3, q4, q5, q6⟩, -⟩ := H7.out)
          | (go_at_call 8; (with_reducible refine (C8.out _ H7.out).mono ?_); rintro e W8 ⟨rfl, H8'⟩; have H8 := Lib.hid H8'; clear H8'; obtain ⟨⟨q0, q1, q2, q3, q4, q5, q6⟩, -⟩ := H8.out))
        have HX := Lib.hid (H9.out.on ((Below.refl _ _).alloc (Nat.le_refl _) (.cells #[.int .i64 0, .int .i64 0, .int .i64 0] 42)))
        obtain ⟨X, hX⟩ : ∃ z, W9.alloc (.cells #[.int .i64 0, .int .i64 0, .int .i64 0] 42) = z := ⟨_, rfl⟩
        rw [hX] at HX ⊢
        clear hX H9 H8 H7 H1 C7 C8 D9 q0 q1 q2 q3 q4 q5 q6
        have C11 : Hid (∀ W y, Hd w W b ps → Calls Tryz.prog 11 #[.pointer (some ⟨b, 0, none⟩), .int .i64 y] W (ApO W (fl ps y))) := Lib.hid (fun W y h => full11 b ps y W h.2 HF.out)
        have C17 : Hid (∀ W, Below X.heap.size X W → Hd w W b ps → Calls Tryz.prog 17 #[.pointer (some ⟨b, 0, none⟩), .slice As ns cs] W (ApO W (nfd ps s))) := Lib.hid (fun W hb h => nfd17 b ps As ns cs s W h.2 HF.out ((HS.out.below HX.out.1).below hb) (by have := HN.out; omega))
        obtain ⟨i0, hi, hz0, hz1, hz2⟩ := infoI'
        go_wp2
        go_loopg [7, 8] ns (fun kx s7 s8 wr => CtI ps s w X b kx s7 s8 wr)
        case atStart => exact ⟨0, 0, none, 0, rfl, rfl, Nat.zero_le _, by have := HN.out; omega, by omega, World.ownsRow_nil _ _ _ _, Below.refl _ _, HX.out⟩
        case round =>
          obtain ⟨k, t, A, c, rfl, rfl, hk, hkx, ht, HI⟩ := hrel
          rw [HN.out.1] at hk hkx
          by_cases hlt : k < ns
          · obtain ⟨hI1, hI2, hI3⟩ := HI.out
            obtain ⟨x, hx⟩ : ∃ x, s[k]? = some x := ⟨_, List.getElem?_eq_getElem (by have := HN.out; omega)⟩
            obtain ⟨b2, off, rfl, hbl, hc⟩ := ((HS.out.below HX.out.1).below hI2).2 (by omega)
            have hcx : wr.cell? ⟨b2, off + k, none⟩ = some (.int .i64 x) := hc k _ (by unfold nums; rw [List.getElem?_map, hx]; rfl)
            have htl : t ≤ 360 := by
              have h1 := hI1.1
              rw [nlen] at h1
              have h2 := flat_le HF.out (s.take k)
              rw [List.length_take] at h2
              have := HN.out
              omega
            obtain ⟨m, hm⟩ : ∃ m, (fl ps x).length = m := ⟨_, rfl⟩
            have hm12 : m ≤ 12 := by rw [← hm]; exact HF.out.len x
            have d11 : Calls Tryz.prog 11 #[.pointer (some ⟨b, 0, none⟩), .int .i64 x] wr fun e W2 => ∃ A5 c5, e = .returned (.slice A5 m c5) ∧ X.heap.size ≤ W2.heap.size ∧ Hid (W2.ownsRow X.heap.size 3 1 (.slice A t c) t (nums .i64 ((s.take k).flatMap (fl ps))) ∧ Vals W2 A5 m (nums .i64 (fl ps x)) ∧ Below X.heap.size X W2 ∧ Hd w W2 b ps) := (C11.out wr x hI3).mono (by
              rintro e W2 ⟨A5, c5, rfl, h4, h5⟩
              rw [hm] at h5 ⊢
              have h6 := hI2.trans (h4.mono hI2.size)
              exact ⟨A5, c5, rfl, h6.size, Lib.hid ⟨own_below hI1 h4 (Nat.le_refl _), own_now h5.out, h6, hI3.on h4⟩⟩)
            have R : Hid (∀ W2 w' v', (W2.ownsRow X.heap.size 3 1 (.slice A t c) t (nums .i64 ((s.take k).flatMap (fl ps))) ∧ (∃ A5, Vals W2 A5 m (nums .i64 (fl ps x))) ∧ Below X.heap.size X W2 ∧ Hd w W2 b ps) → w'.ownsRow X.heap.size 3 1 v' (t + m) (nums .i64 ((s.take k).flatMap (fl ps)) ++ nums .i64 (fl ps x)) → W2.grownBy w' (Value.slice A t c).ownBlock → ∃ A' c', v' = .slice A' (t + m) c' ∧ Hid (CtI ps s w X b (ns - (k + 1)) (.slice A' (t + m) c') (.int .i64 (k + 1 : Nat)) w')) := Lib.hid (fun W2 w' v' ⟨g1, _, g2, g3⟩ g4 g5 => by
              obtain ⟨A', c', rfl, g6⟩ := app_post g1 g2.size g4 g5
              refine ⟨A', c', rfl, Lib.hid ⟨k + 1, t + m, A', c', rfl, rfl, by have := HN.out; omega, by have := HN.out; omega, by omega, ?_, g2.trans g6.out.2, ?_⟩⟩
              · have := g6.out.1
                rwa [show (s.take (k + 1)).flatMap (fl ps) = (s.take k).flatMap (fl ps) ++ fl ps x by rw [List.take_add_one, hx, List.flatMap_append]; simp]
              · have q := g6.out.2
                exact ⟨HX.out.1.trans ((g2.trans q).mono HX.out.1.size), HX.out.2.below (g2.trans q)⟩)
            have hb9 : decide (k < ns) = true := decide_eq_true hlt
            clear hc hx HI hI1 hI2 hI3 hbl hm
            go_wp2_with (first
              | (go_at_call 11; (with_reducible refine d11.mono ?_); rintro e W2 ⟨A5, c5, rfl, hsz, h5⟩)
              | (at_builtin; refine append_ints rfl _ _ 25 rfl X.heap.size 3 i0 (.int .i64 0) 8 Tryz.underlying25 hi hz0 hz1 hz2 rfl _ t _ rfl h5.out.1 _ m _ _ rfl h5.out.2.1 (by unfold maxLen; omega) (by omega) hsz ?_; intro v' w' h1 h2; obtain ⟨A', c', rfl, h8⟩ := R.out W2 w' v' ⟨h5.out.1, ⟨_, h5.out.2.1⟩, h5.out.2.2⟩ h1 h2; clear h1 h2))
            go_roundg (ns - (k + 1))
            case measure => omega
            case rel =>
              refine cast ?_ h8.out
              congr 2
          · obtain rfl : k = ns := by omega
            obtain ⟨hI1, hI2, hI3⟩ := HI.out
            rw [List.take_of_length_le (by have := HN.out; omega)] at hI1
            have hVT := own_now hI1
            have hlt2 : (s.flatMap (fl ps)).length = t := by have := hVT.1; rwa [nlen] at this
            have hnl : (nfd ps s).length = t := by rw [nfd, nfL, ord_len HF.out.ccc, hlt2]
            have d17 : Calls Tryz.prog 17 #[.pointer (some ⟨b, 0, none⟩), .slice As k cs] wr fun e W2 => ∃ A5 c5, e = .returned (.slice A5 t c5) ∧ Hid (Vals W2 A t (nums .i64 (s.flatMap (fl ps))) ∧ Vals W2 A5 t (nums .i64 (nfd ps s)) ∧ Below w.heap.size w W2) := (C17.out wr hI2 hI3).mono (by
              rintro e W2 ⟨A5, c5, rfl, h4, h5⟩
              rw [hnl] at h5 ⊢
              exact ⟨A5, c5, rfl, Lib.hid ⟨hVT.below h4, own_now h5.out, (hI3.on h4).1⟩⟩)
            have hb9 : decide (k < k) = false := decide_eq_false hlt
            have HT := Lib.hid (And.intro hlt2 hnl)
            clear HI hI1 hI2 hI3 hVT hlt2 hnl C11 C17
            go_wp2_with (go_at_call 17; (with_reducible refine d17.mono ?_); rintro e W2 ⟨A5, c5, rfl, H5⟩)
            clear d17
            go_loopg [10] t (fun kx s10 wr => CtJ ps s w A A5 t kx s10 wr)
            case atStart => exact ⟨0, rfl, Nat.zero_le _, by omega, H5.out⟩
            case round =>
              clear H5
              obtain ⟨q, rfl, hq, hqx, HJ⟩ := hrel
              by_cases hlq : q < t
              · obtain ⟨hJ1, hJ2, hJ3⟩ := HJ.out
                obtain ⟨y, hy⟩ : ∃ y, (s.flatMap (fl ps))[q]? = some y := ⟨_, List.getElem?_eq_getElem (by have := HT.out; omega)⟩
                have e1 : ∀ n, Calls Tryz.prog 23 #[.slice A t c, .int .i64 y] (wr.drewN n) fun e w' => e = .returned (.int .i64 (cntL (s.flatMap (fl ps)) y : Nat)) ∧ w' = wr.drewN n := fun n => (count23 A t c (s.flatMap (fl ps)) y _ (hJ1.below (below_drewN (Below.refl _ _) n)) (by omega)).mono (fun e w' h => ⟨h.1, h.2.symm⟩)
                have e2 : ∀ n, Calls Tryz.prog 23 #[.slice A5 t c5, .int .i64 y] (wr.drewN n) fun e w' => e = .returned (.int .i64 (cntL (s.flatMap (fl ps)) y : Nat)) ∧ w' = wr.drewN n := fun n => (count23 A5 t c5 (nfd ps s) y _ (hJ2.below (below_drewN (Below.refl _ _) n)) (by omega)).mono (fun e w' h => ⟨by rw [h.1, cntL_nfd HF.out], h.2.symm⟩)
                obtain ⟨v, hv⟩ : ∃ v, cntL (s.flatMap (fl ps)) y = v := ⟨_, rfl⟩
                rw [hv] at e1 e2
                obtain ⟨b2, off, rfl, hbl, hc⟩ := hJ1.2 (by omega)
                have hcx : wr.cell? ⟨b2, off + q, none⟩ = some (.int .i64 y) := hc q _ (by unfold nums; rw [List.getElem?_map, hy]; rfl)
                have E1 := Lib.hid e1
                have E2 := Lib.hid e2
                have hb9 : decide (q < t) = true := decide_eq_true hlq
                have R : Hid (∀ n, CtJ ps s w (some ⟨b2, off, none⟩) A5 t (t - (q + 1)) (.int .i64 (q + 1 : Nat)) (wr.drewN n)) := Lib.hid (fun n => ⟨q + 1, rfl, by omega, by omega, hJ1.below (below_drewN (Below.refl _ _) n), hJ2.below (below_drewN (Below.refl _ _) n), below_drewN hJ3 n⟩)
                clear hc hy HJ hJ1 hJ2 hJ3 hbl hv e1 e2
                go_wp2
                go_quiet (first
                  | (go_at_call 23; with_reducible exact Calls.quiet_of_same (E1.out _))
                  | (go_at_call 23; with_reducible exact Calls.quiet_of_same (E2.out _)))
                go_wp2
                go_roundg (t - (q + 1))
                case measure => omega
                case rel =>
                  have := R.out nq
                  rwa [show ((q + 1 : Nat) : Int) = (q : Int) + 1 by omega] at this
              · obtain rfl : q = t := by omega
                have hb9 : decide (q < q) = false := decide_eq_false hlq
                have HB := Lib.hid HJ.out.2.2
                clear HJ
                go_wp2
                go_ret
                exact ⟨rfl, HB.out⟩
      · rcases hlo : loadOf f with ⟨⟨vf, vl, ve⟩, _ | d⟩
        · have hve : ve ≠ 0 := (load_wrong hlo).1
          have hvb : (ve != 0) = true := bne_iff_ne.2 hve
          have D9 : Hid (∀ W, BnB w W (.slice b0 n0 m0) (.slice b1 n1 m1) (.slice b2 n2 m2) (.slice b3 n3 m3) (.slice b4 n4 m4) (.slice b5 n5 m5) (.slice b6 n6 m6) → Calls Tryz.prog 21 #[.agg #[.slice b0 n0 m0, .slice b1 n1 m1, .slice b2 n2 m2, .slice b3 n3 m3, .slice b4 n4 m4, .slice b5 n5 m5, .slice b6 n6 m6]] W fun e W' => e = .returned (.tuple #[.pointer none, .agg #[.int .i64 vf, .int .i64 vl, .int .i64 ve]]) ∧ Hid (Below w.heap.size w W')) := Lib.hid (fun W hW => (C9.out W hW).mono (by
            rintro e W' ⟨hw, -, ⟨d', b, h, rfl, g1, g2, g3⟩ | ⟨x, h, rfl⟩⟩
            · rw [hlo] at h; injection h with _ h; cases h
            · rw [hlo] at h; injection h with h _; subst h; exact ⟨rfl, Lib.hid hw.2⟩))
          have HB : Hid (∀ W o, Below w.heap.size w W → Below w.heap.size w (W.alloc o)) := Lib.hid (fun W o h => h.trans ((Below.refl _ _).alloc h.size _))
          clear C9 hl hlo hfl h0 h1 h2 h3 h4 h5 h6 l0 l1 l2 l3 l4 l5 l6 hf7 hM hH hs hcp hsm hve
          go_enter Tryz.func6, Tryz.ntmps6
          go_wp2_with (first
            | (go_at_call 21; (with_reducible refine (D9.out _ H8.out).mono ?_); rintro e W9 ⟨rfl, H9⟩)
            | (go_at_call 7; (with_reducible refine (C7.out _ H1.out).mono ?_); rintro e W7 ⟨rfl, H7'⟩; have H7 := Lib.hid H7'; clear H7'; obtain ⟨⟨q0, q1, q2, q3, q4, q5, q6⟩, -⟩ := H7.out)
            | (go_at_call 8; (with_reducible refine (C8.out _ H7.out).mono ?_); rintro e W8 ⟨rfl, H8'⟩; have H8 := Lib.hid H8'; clear H8'; obtain ⟨⟨q0, q1, q2, q3, q4, q5, q6⟩, -⟩ := H8.out))
          go_ret
          exact ⟨rfl, HB.out _ _ H9.out⟩
        · exact absurd ⟨d, by rw [hlo, load_zero hlo]⟩ hl
    · have hlb : decide (30 < (ns : Int)) = true := decide_eq_true (by omega)
      clear h0 h1 h2 h3 h4 h5 h6 l0 l1 l2 l3 l4 l5 l6 hf7 hM hH hs hcp hsm
      go_enter Tryz.func6, Tryz.ntmps6
      go_wp2_with (first
        | (go_at_call 7; (with_reducible refine (C7.out _ H8.out).mono ?_); rintro e W9 ⟨rfl, H9'⟩; have H9 := Lib.hid H9'; clear H9')
        | (go_at_call 7; (with_reducible refine (C7.out _ H1.out).mono ?_); rintro e W7 ⟨rfl, H7'⟩; have H7 := Lib.hid H7'; clear H7'; obtain ⟨⟨q0, q1, q2, q3, q4, q5, q6⟩, -⟩ := H7.out)
        | (go_at_call 8; (with_reducible refine (C8.out _ H7.out).mono ?_); rintro e W8 ⟨rfl, H8'⟩; have H8 := Lib.hid H8'; clear H8'; obtain ⟨⟨q0, q1, q2, q3, q4, q5, q6⟩, -⟩ := H8.out))
      go_ret
      exact ⟨rfl, H9.out.2⟩
  · rw [decide_eq_false hsm] at C8
    clear h0 h1 h2 h3 h4 h5 h6 l0 l1 l2 l3 l4 l5 l6 hf7 hM hH hs hcp hsm
    go_enter Tryz.func6, Tryz.ntmps6
    go_wp2_with (first
      | (go_at_call 7; (with_reducible refine (C7.out _ H8.out).mono ?_); rintro e W9 ⟨rfl, H9'⟩; have H9 := Lib.hid H9'; clear H9')
      | (go_at_call 7; (with_reducible refine (C7.out _ H1.out).mono ?_); rintro e W7 ⟨rfl, H7'⟩; have H7 := Lib.hid H7'; clear H7'; obtain ⟨⟨q0, q1, q2, q3, q4, q5, q6⟩, -⟩ := H7.out)
      | (go_at_call 8; (with_reducible refine (C8.out _ H7.out).mono ?_); rintro e W8 ⟨rfl, H8'⟩; have H8 := Lib.hid H8'; clear H8'; obtain ⟨⟨q0, q1, q2, q3, q4, q5, q6⟩, -⟩ := H8.out))
    go_ret
    exact ⟨rfl, H9.out.2⟩
end Go.Proofs.YtfakohoamgogoaaGreatDoor
