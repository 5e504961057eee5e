/- The program's going through the bodies of a file's lines. -/
import Derived.Shelf.Abstract
import Derived.Shelf.RegionOpen
import Derived.OwnWalkIn
import Derived.TacticsInMore
import Derived.LoopNIn
import Derived.LoopIn
import Derived.Test.YtkcpnnfbhcklpaaGreatDoorSplit
namespace Go.Proofs.YtkcpnnfbhcklpaaGreatDoor
open Go.RowKit Go.Shelf
attribute [local go_sem] Oper.semAt_some

def lenOf : Value → Nat
  | .slice _ n _ => n
  | _ => 0
theorem lenOf_slice (A : Option Addr) (n c : Nat) : lenOf (.slice A n c) = n := rfl

set_option maxHeartbeats 1000000 in
theorem bodies24 (A : Option Addr) (n c : Nat) (w : World) : Calls Tryz.prog 29 #[.slice A n c] w fun e w' => e = .returned (.func (.func 40) #[] #[.pointer (some ⟨w.heap.size, 0, none⟩)]) ∧ w' = w.alloc (.cells #[.slice A n c] 22) := by
  go_enter Tryz.func29, Tryz.ntmps29
  go_wp2
  go_ret
  exact ⟨rfl, rfl⟩

/-- Where the going through stands. -/
def BodRel (L : List UInt8) (A : Nat → Prop) (n : Nat) (W : World) (J : List (Int × List UInt8) → World → Prop) (r i : Value) (wr : World) : Prop :=
  ∃ (pre : List (Int × List UInt8)) (rest : List UInt8) (P : Option Addr) (n' c' k : Nat), r = .slice P n' c' ∧ i = .int .i64 ((k : Int) + 1) ∧ Octs wr P n' rest ∧ (P = none → c' = 0) ∧ n' ≤ c' ∧ (∀ a, P = some a → A a.block) ∧
    numbered 1 (pieces L) = pre ++ numbered ((k : Int) + 1) (pieces rest) ∧ pre.length = k ∧ k + n' ≤ n ∧ J pre wr ∧ Kept A W wr

theorem rest_none {l : List UInt8} {n : Nat} (h : l.length = n) (h0 : 0 < n) (hn : (10 : UInt8) ∉ l) : pieces l = [l] := pieces_none hn (by rintro rfl; simp at h; omega)
theorem numbered_one (k : Int) (l : List UInt8) : numbered k [l] = [(k, bodyOf l)] := rfl

/-- What bytes.Cut of 0A hands back for what is left: the first line, and what is left behind it. -/
theorem line_cut {P : Option Addr} {n c : Nat} {rest : List UInt8} {w : World} (hO : Octs w P n rest) (h0 : 0 < n) (hc : n ≤ c) :
    ∃ (k : Nat) (Q : Option Addr) (n2 c2 : Nat) (f : Bool) (t : List UInt8), Lib.cutV P n c 1 (Lib.index (Lib.bytesOf (ints rest)) (Lib.bytesOf (ints [10]))) = .tuple #[.slice P k c, .slice Q n2 c2, .bool f] ∧ k ≤ n ∧ n2 < n ∧ n2 ≤ c2 ∧ (Q = none → c2 = 0) ∧
      (∀ a, Q = some a → ∃ a', P = some a' ∧ a.block = a'.block) ∧ Octs w Q n2 t ∧ pieces rest = rest.take k :: pieces t := by
  have hl := hO.len
  rw [ints_bytes, ints_bytes]
  obtain ⟨b, off, rfl, -, -⟩ := hO.2 h0
  by_cases h : (10 : UInt8) ∈ rest
  · obtain ⟨a, t, rfl, ha⟩ := split_at 10 rest h
    rw [index_one 10 a t ha]
    have hlen : a.length + 1 ≤ n := by simp at hl; omega
    refine ⟨_, _, _, _, _, t, cutV_hit _ n c a.length, by omega, by omega, by omega, ?_, ?_, ?_, ?_⟩
    · intro h
      split at h
      · cases h
      · simp at h
    · intro x hx
      split at hx
      · exact ⟨x, hx, rfl⟩
      · simp at hx
        subst hx
        exact ⟨_, rfl, by simp [Addr.add]⟩
    · have := octs_from hO (a.length + 1) hlen hc
      rw [List.drop_append, List.drop_of_length_le (by omega)] at this
      simpa using this
    · rw [pieces_some ha]
      simp
  · rw [index_no 10 rest h]
    exact ⟨_, _, _, _, _, [], cutV_miss _ n c, Nat.le_refl _, h0, Nat.le_refl _, fun _ => rfl, fun a e => (by cases e), Vals.nil _ _, by rw [rest_none hl h0 h, pieces_nil, List.take_of_length_le (by omega)]⟩

set_option maxRecDepth 100000 in
set_option maxHeartbeats 4000000 in
theorem iter34 (m l B n c : Nat) (P0 : Option Addr) (L : List UInt8) (A : Nat → Prop) (hm : 1 ≤ m) (hn : n ≤ 100000) (J Jx : List (Int × List UInt8) → World → Prop) (hJ : ∀ s W W', J s W → Below W.heap.size W W' → J s W')
    (hY : ∀ pre x W, J pre W → x.2.length ≤ 100000 → pre.length < 200000 → YieldAt Fence.wide (m - 1) Tryz.prog l #[.int .i64 x.1, .string (bs x.2)] W fun e W' =>
      ((e = .returned (.bool true) ∧ J (pre ++ [x]) W') ∨ (e = .returned (.bool false) ∧ Jx (pre ++ [x]) W')) ∧ Kept A W W')
    (W : World) (hBs : W.cell? ⟨B, 0, none⟩ = some (.slice P0 n c)) (hO : Octs W P0 n L) (hP : ∀ a, P0 = some a → A a.block) (hA0 : A 0) (hM : ML W) (hPc : P0 = none → c = 0) (hc : n ≤ c) (h0 : J [] W) :
    CallsIn Fence.wide m Tryz.prog 40 #[.func (.yield l) #[] #[], .pointer (some ⟨B, 0, none⟩)] W fun e W' => (∃ v, e = .returned v) ∧
      ((∃ ys, ys = numbered 1 (pieces L) ∧ J ys W') ∨ (∃ pre, pre <+: numbered 1 (pieces L) ∧ Jx pre W')) := by
  refine callsIn_of_wp Tryz.func40 rfl trivial ?_ rfl
  simp only [Tryz.ntmps40, List.size_toArray, List.length_cons, List.length_nil, Nat.reduceAdd, Nat.reduceSub, Array.replicate_succ, Array.replicate_zero, List.push_toArray, List.append_toArray, List.nil_append, List.cons_append]
  gi_wp2
  gi_loopw [3, 4] (fun r i wr => BodRel L A n W J r i wr) (fun r _ _ => lenOf r)
  case atStart => exact ⟨[], L, P0, n, c, 0, rfl, rfl, hO, hPc, hc, hP, by simp, rfl, by omega, h0, Kept.refl _ _⟩
  case round =>
    clear hBs hO hP h0 hPc hc
    obtain ⟨pre, rest, P, n', c', k, rfl, rfl, hOr, hPr, hcr, hAr, hnum, hpre, hkn, hJr, hKr⟩ := hrel
    by_cases hpos : 0 < n'
    · have b1 : Below wr.heap.size wr (wr.alloc (.cells #[.int .u8 10] 5)) := (Below.refl _ _).alloc (Nat.le_refl _) _
      have hO1 := hOr.below b1
      obtain ⟨mm, hmm⟩ := (hM.kept hKr hA0).below b1
      have c35 := Tryz.bytes_Cut_all P (some ⟨wr.heap.size, 0, none⟩) n' c' 1 1 (ints rest) (ints [10]) mm (wr.alloc (.cells #[.int .u8 10] 5)) (by rw [ints_length, hOr.len]) rfl (ints_range _) (ints_range _) hO1.bytesIn (one_octs wr 10 10 rfl) hPr hcr (by omega) (by omega) hmm
      obtain ⟨k1, Q, n2, c2, f, t, e1, hk1, hn2, hc2, hQc, hQb, hOt, hpc⟩ := line_cut hOr hpos hcr
      rw [e1] at c35
      have hOl := hO1.take k1 hk1
      have c36 := fun q => callsIn_wide (n := m - 1) |>.2 (body36 P k1 c' (rest.take k1) ((wr.alloc (.cells #[.int .u8 10] 5)).drewN q) hOl hPr (by omega) (by omega) ⟨mm, hmm⟩)
      have c35 := callsIn_wide (n := m - 1) |>.2 c35
      have hQA : ∀ a, Q = some a → A a.block := fun a e => by obtain ⟨a', e', h'⟩ := hQb a e; rw [h']; exact hAr a' e'
      have hx : pre ++ numbered ((k : Int) + 1) (pieces rest) = (pre ++ [((k : Int) + 1, bodyOf (rest.take k1))]) ++ numbered (((k + 1 : Nat) : Int) + 1) (pieces t) := by
        rw [hpc, numbered, List.append_assoc]
        simp
      rw [hx] at hnum
      have hY2 := fun w1 (hb1 : Below wr.heap.size wr w1) => hY pre ((k : Int) + 1, bodyOf (rest.take k1)) w1 (hJ _ _ _ hJr hb1) (by have h1 := body_length (rest.take k1); have h2 : (rest.take k1).length ≤ k1 := List.length_take_le _ _; dsimp only; omega) (by omega)
      obtain ⟨bd, hbd⟩ : ∃ bd, bodyOf (rest.take k1) = bd := ⟨_, rfl⟩
      rw [hbd] at hY2 hnum
      simp only [hbd] at c36
      have hend := fun w1 W3 (hb1 : Below wr.heap.size wr w1) (hk3 : Kept A w1 W3) (hJ3 : J (pre ++ [((k : Int) + 1, bd)]) W3) => show BodRel L A n W J (.slice Q n2 c2) (.int .i64 ((k : Int) + 1 + 1)) W3 from
        ⟨_, t, Q, n2, c2, k + 1, rfl, by go_num, Vals.kept hOt ((Kept.of_below (A := A) hb1).trans hk3) hQA, hQc, hc2, hQA, hnum, by simp [hpre], by omega, hJ3, hKr.trans ((Kept.of_below hb1).trans hk3)⟩
      have hstop : Hid (pre ++ [((k : Int) + 1, bd)] <+: numbered 1 (pieces L)) := Lib.hid ⟨_, hnum.symm⟩
      have hbb := fun q w1 (hb : Below ((wr.alloc (.cells #[.int .u8 10] 5)).drewN q).heap.size ((wr.alloc (.cells #[.int .u8 10] 5)).drewN q) w1) => show Below wr.heap.size wr w1 from (below_drewN b1 q).trans (hb.mono b1.size)
      have HBB := Lib.hid hbb
      have C36 := Lib.hid c36
      have HE := Lib.hid hend
      have HY2 := Lib.hid hY2
      have HJ := Lib.hid hJ
      have HYY := Lib.hid hY
      have HQA := Lib.hid hQA
      have HQB := Lib.hid hQb
      have HAR := Lib.hid hAr
      have HNUM := Lib.hid hnum
      have HQC := Lib.hid hQc
      have HPR := Lib.hid hPr
      have HOR := Lib.hid hOr
      clear hbb c36 hend hY2 hJ hY hQA hQb hAr hnum hQc hPr hOr hO1 hOl hOt hpc hx hmm hM hJr hbd e1
      have hlen : lenOf (.slice P n' c') = n' := rfl
      gi_wp2_with (first
        | (refine ⟨trivial, ?_⟩; gi_at_call 41; (with_reducible refine c35.mono ?_); rintro e w' ⟨rfl, q, rfl⟩)
        | (refine ⟨trivial, ?_⟩; gi_at_call 42; (with_reducible refine (C36.out q).mono ?_); rintro e w1 ⟨rfl, hb1⟩; have hb1' := HBB.out q w1 hb1; obtain ⟨fn, tmps, assign, body, hy, hR⟩ := HY2.out w1 hb1'))
      refine hR.mono ?_
      rintro e W3 ⟨⟨rfl, hJ3⟩ | ⟨rfl, hJx3⟩, hk3⟩
      · gi_wp2
        go_roundw
        case rel => exact HE.out w1 W3 hb1' hk3 hJ3
        case measure => rw [lenOf_slice, lenOf_slice]; exact hn2
      · gi_wp2
        refine bodyPost_ret (results_none rfl _ _ _) rfl ?_
        exact ⟨⟨_, rfl⟩, .inr ⟨_, hstop.out, hJx3⟩⟩
    · obtain rfl : n' = 0 := by omega
      have hr : rest = [] := List.eq_nil_of_length_eq_zero hOr.len
      rw [hr, pieces_nil] at hnum
      have HE : Hid (pre = numbered 1 (pieces L)) := by rw [hnum]; simp [numbered]; trivial
      have HJR := Lib.hid hJr
      have HPR := Lib.hid hPr
      clear hnum hOr hAr hJr hPr hJ hY hM hr
      gi_wp2
      go_end0
      exact ⟨⟨_, rfl⟩, .inl ⟨_, HE.out, HJR.out⟩⟩
end Go.Proofs.YtkcpnnfbhcklpaaGreatDoor
