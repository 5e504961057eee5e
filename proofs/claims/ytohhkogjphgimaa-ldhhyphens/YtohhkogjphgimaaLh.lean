/- LdhHyphens walked. -/
import Derived.Test.YtohhkogjphgimaaHy
import Derived.Test.YtohhkogjphgimaaAw
import Derived.Test.YtohhkogjphgimaaPh
import Derived.Deep.LoopGhost
namespace Go.Proofs.Ytohhkogjphgimaa
open Go.RowKit
attribute [local go_sem] Oper.semAt_some

theorem infoM : (Try.prog.info? 3).map (fun i => (i.zero, i.size, i.bytes)) = some (some (.int .i64 0), 1, 8) := by kernel_rfl
theorem infoI : ∃ i, Try.prog.info? 3 = some i ∧ i.zero = some (.int .i64 0) ∧ i.size = 1 ∧ i.bytes = 8 := by
  cases h : Try.prog.info? 3 with
  | none => have := infoM; rw [h] at this; cases this
  | some i =>
    have := infoM
    rw [h] at this
    injection this with this
    injection this with h1 h2
    injection h2 with h2 h3
    exact ⟨i, rfl, h1, h2, h3⟩
theorem iapp (a b : List UInt8) : nums .i64 (ints (a ++ b)) = nums .i64 (ints a) ++ nums .i64 (ints b) := by unfold ints nums; rw [List.map_append, List.map_append]
def LhI (l : List UInt8) (w : World) (kx : Nat) (s5 s6 : Value) (wr : World) : Prop :=
  ∃ (A : Option Addr) (c k : Nat), s5 = .slice A k c ∧ s6 = .int .i64 k ∧ k ≤ l.length ∧ l.length - k ≤ kx ∧ Hid (Below w.heap.size w wr ∧ wr.ownsRow w.heap.size 3 1 (.slice A k c) k (nums .i64 (ints (l.take k))))
theorem k_ways (l : List UInt8) : kindO l = 0 ∨ (kindO l = 1 ∧ hypO (ints l) = true) ∨ ((kindO l == 0) = false ∧ (kindO l == 1) = false ∧ hypO (ints l) = false) := by
  by_cases h : kindO l = 0
  · exact .inl h
  have e : hypO (ints l) = decide (kindO l = 1) := hyp_kind l h
  by_cases h1 : kindO l = 1
  · exact .inr (.inl ⟨h1, by rw [e]; exact decide_eq_true h1⟩)
  · exact .inr (.inr ⟨beq_false_of_ne h, beq_false_of_ne h1, by rw [e]; exact decide_eq_false h1⟩)
set_option maxRecDepth 100000 in
set_option maxHeartbeats 8000000 in
theorem hyph4 (A0 : Option Addr) (n0 c0 : Nat) (s : List Int) (A : Option Addr) (n c : Nat) (l : List UInt8) (w : World) (hs : Vals w A0 n0 (nums .i64 s)) (h : Octs w A n l) (hc : n ≤ c) :
    Calls Try.prog 4 #[.slice A0 n0 c0, .slice A n c] w fun e w' => e = .returned (.bool true) ∧ Hid (Below w.heap.size w w') := by
  have HB : Hid (Below w.heap.size w w) := Below.refl _ _
  have D6 : Hid (∀ W, Below w.heap.size w W → Calls Try.prog 6 #[] W fun e w' => e = .returned (.bool true) ∧ Hid (Below w.heap.size w w')) := fun W hb => lift hb hb.size (awake6 W)
  by_cases hn0 : 300 < n0
  · have hn' : (300 : Int) < (n0 : Int) := by omega
    clear h hs
    go_enter Try.func4, Try.ntmps4
    go_wp2_with (go_at_call 6; (with_reducible refine (D6.out _ HB.out).mono ?_); rintro e V ⟨rfl, HB⟩)
    go_ret
    exact ⟨rfl, HB⟩
  have hn0' : ¬ (300 : Int) < (n0 : Int) := by omega
  by_cases hn : 300 < n
  · have hn' : (300 : Int) < (n : Int) := by omega
    clear h hs
    go_enter Try.func4, Try.ntmps4
    go_wp2_with (go_at_call 6; (with_reducible refine (D6.out _ HB.out).mono ?_); rintro e V ⟨rfl, HB⟩)
    go_ret
    exact ⟨rfl, HB⟩
  have hn' : ¬ (300 : Int) < (n : Int) := by omega
  have HL : Hid (l.length = n) := h.len
  have HO := Lib.hid h
  have D8 : Hid (∀ W, Below w.heap.size w W → Calls Try.prog 8 #[.slice A n c] W fun e w' => e = .returned (.int .i64 (kindO l)) ∧ Hid (Below W.heap.size W w')) := fun W hb => kind8 A n c l W (h.below hb) (by omega) hc
  have D12 : Hid (∀ W, Below w.heap.size w W → Calls Try.prog 12 #[.slice A0 n0 c0] W fun e w' => e = .returned (.bool (hypO s)) ∧ Hid (Below W.heap.size W w')) := fun W hb => hyp12 A0 n0 c0 s W (hs.below hb) (by omega)
  have D13 : Hid (∀ W, Below w.heap.size w W → Calls Try.prog 13 #[.slice A0 n0 c0] W fun e w' => e = .returned (.bool (hypO s)) ∧ Hid (Below W.heap.size W w')) := fun W hb => rhyp13 A0 n0 c0 s W (hs.below hb) (by omega)
  have E12 : Hid (∀ A2 c2 W V, Vals V A2 n (nums .i64 (ints l)) → Below V.heap.size V W → Calls Try.prog 12 #[.slice A2 n c2] W fun e w' => e = .returned (.bool (hypO (ints l))) ∧ Hid (Below W.heap.size W w')) := fun A2 c2 W V hv hb => hyp12 A2 n c2 (ints l) W (hv.below hb) (by omega)
  have HW := Lib.hid (k_ways l)
  obtain ⟨i0, hi, hz0, hz1, hz2⟩ := infoI
  obtain ⟨K, hK⟩ : ∃ K, kindO l = K := ⟨_, rfl⟩
  obtain ⟨x, hx⟩ : ∃ x, hypO s = x := ⟨_, rfl⟩
  obtain ⟨y, hy⟩ : ∃ y, hypO (ints l) = y := ⟨_, rfl⟩
  rw [hK] at D8 HW
  rw [hx] at D12 D13
  rw [hy] at E12 HW
  clear hK hx hy h hs
  go_enter Try.func4, Try.ntmps4
  go_wp2_with (go_at_call 6; (with_reducible refine (D6.out _ HB.out).mono ?_); rintro e V ⟨rfl, HB⟩)
  go_loopg [5, 6] n (fun kx s5 s6 wr => LhI l w kx s5 s6 wr)
  case atStart => exact ⟨none, 0, 0, rfl, rfl, Nat.zero_le _, by have := HL.out; omega, HB.out, rfl, .inl ⟨rfl, rfl⟩⟩
  case round =>
    clear HB
    obtain ⟨A2, c2, k, rfl, rfl, hk, hkx, HI⟩ := hrel
    rw [HL.out] at hk hkx
    by_cases hlt : k < n
    · obtain ⟨hI1, hI2⟩ := HI.out
      obtain ⟨b, off, rfl, hbl, -⟩ := HO.out.2 (by omega)
      have hq := octs_cells HO.out k hlt
      rw [ints_get] at hq
      unfold oct at hq
      have hq : wr.cell? ⟨b, off + k, none⟩ = some (.int .u8 ((l.getD k 0).toNat : Int)) := (hI1.cell (p := ⟨b, off + k, none⟩) hbl).trans hq
      have hbs : Hid (w.heap.size ≤ wr.heap.size) := hI1.size
      have HN : Hid (wr.ownsRow w.heap.size 3 1 (.slice A2 k c2) k (nums .i64 (ints (l.take k)))) := hI2
      have HE : Hid (∀ w2 w3 v', Below wr.heap.size wr w2 → Grew w.heap.size w2 w3 → w3.ownsRow w.heap.size 3 1 v' (k + 1) (nums .i64 (ints (l.take k)) ++ [.int .i64 ((l.getD k 0).toNat : Int)]) → ∃ A' c', v' = .slice A' (k + 1) c' ∧ Hid (LhI l w (n - (k + 1)) (.slice A' (k + 1) c') (.int .i64 (k + 1 : Nat)) w3)) := fun w2 w3 v' hb hg ho => by
        obtain ⟨A', c', rfl, -⟩ := own_vals ho
        refine ⟨A', c', rfl, A', c', k + 1, rfl, rfl, by have := HL.out; omega, by have := HL.out; omega, hg _ _ (hI1.trans (hb.mono hI1.size)) (Nat.le_refl _), ?_⟩
        have hx : l[k]? = some (l.getD k 0) := by rw [List.getD_eq_getElem?_getD, List.getElem?_eq_getElem (by have := HL.out; omega)]; rfl
        rw [List.take_add_one, hx, iapp]
        exact ho
      have HB : Hid (Below wr.heap.size wr wr) := Below.refl _ _
      have hlt2 := (l.getD k 0).toNat_lt
      obtain ⟨y, hy⟩ : ∃ y, (l.getD k 0).toNat = y := ⟨_, rfl⟩
      rw [hy] at hq hlt2 HE
      clear hy HI hI1 hI2 hbl
      go_wp2_with (at_builtin; refine append_lit rfl _ _ 29 rfl w.heap.size 3 i0 _ 1 8 Try.underlying29 hi hz0 hz1 hz2 rfl (by decide) _ k _ rfl HN.out _ rfl (fun u hu => by simp at hu; subst hu; rfl) rfl (by unfold maxLen; omega) (by omega) hbs.out ?_; intro v' w3 h6 h7; obtain ⟨A', c', rfl, h8⟩ := HE.out wr w3 v' HB.out h7 h6; clear h6 h7)
      go_roundg (n - (k + 1))
      case measure => omega
      case rel =>
        have := h8.out
        rwa [show ((k + 1 : Nat) : Int) = (k : Int) + 1 by omega] at this
    · obtain rfl : k = n := by omega
      have HB : Hid (Below w.heap.size w wr) := HI.out.1
      have HV : Hid (Vals wr A2 k (nums .i64 (ints l))) := by
        obtain ⟨A', c', e, -, hv, -⟩ := own_vals HI.out.2
        cases e
        rwa [List.take_of_length_le (by have := HL.out; omega)] at hv
      have E : Hid (∀ W, Below wr.heap.size wr W → Calls Try.prog 12 #[.slice A2 k c2] W fun e w' => e = .returned (.bool y) ∧ Hid (Below W.heap.size W w')) := fun W hb => E12.out A2 c2 W wr HV.out hb
      have HW2 : Hid (∀ W, Below wr.heap.size wr W → Below w.heap.size w W) := fun W hb => HB.out.trans (hb.mono HB.out.size)
      have HR : Hid (Below wr.heap.size wr wr) := Below.refl _ _
      have F8 : Hid (∀ W, Below wr.heap.size wr W → Calls Try.prog 8 #[.slice A k c] W fun e w' => e = .returned (.int .i64 K) ∧ Hid (Below wr.heap.size wr w')) := fun W hb => lift hb hb.size (D8.out W (HW2.out W hb))
      have F12 : Hid (∀ W, Below wr.heap.size wr W → Calls Try.prog 12 #[.slice A0 n0 c0] W fun e w' => e = .returned (.bool x) ∧ Hid (Below wr.heap.size wr w')) := fun W hb => lift hb hb.size (D12.out W (HW2.out W hb))
      have F13 : Hid (∀ W, Below wr.heap.size wr W → Calls Try.prog 13 #[.slice A0 n0 c0] W fun e w' => e = .returned (.bool x) ∧ Hid (Below wr.heap.size wr w')) := fun W hb => lift hb hb.size (D13.out W (HW2.out W hb))
      have FT : Hid (∀ W, Below wr.heap.size wr W → Calls Try.prog 12 #[.slice A2 k c2] W fun e w' => e = .returned (.bool y) ∧ Hid (Below wr.heap.size wr w')) := fun W hb => lift hb hb.size (E.out W hb)
      have FA : Hid (∀ W, Below wr.heap.size wr W → Calls Try.prog 14 #[.slice none 0 0] W fun e w' => e = .returned (.bool true) ∧ Hid (Below wr.heap.size wr w')) := fun W hb => (ascii14 W).mono fun _ _ ⟨a, b⟩ => ⟨a, by subst b; exact hb⟩
      clear HI HV E D8 D12 D13 E12
      rcases HW.out with rfl | ⟨rfl, rfl⟩ | ⟨q1, q2, rfl⟩
      all_goals
        clear HW
        go_wp2_with (first
          | (go_at_call 8; (with_reducible refine (F8.out _ HR.out).mono ?_); rintro e V ⟨rfl, HR⟩)
          | (go_at_call 13; (with_reducible refine (F13.out _ HR.out).mono ?_); rintro e V ⟨rfl, HR⟩)
          | (go_at_call 12; (with_reducible refine (F12.out _ HR.out).mono ?_); rintro e V ⟨rfl, HR⟩)
          | (go_at_call 12; (with_reducible refine (FT.out _ HR.out).mono ?_); rintro e V ⟨rfl, HR⟩)
          | (go_at_call 14; (with_reducible refine (FA.out _ HR.out).mono ?_); rintro e V ⟨rfl, HR⟩))
        go_ret
        exact ⟨rfl, HW2.out _ HR.out⟩
end Go.Proofs.Ytohhkogjphgimaa
