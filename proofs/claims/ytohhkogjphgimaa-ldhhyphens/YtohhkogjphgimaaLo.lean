/- The program's Lower of a number, isPart and Is. -/
import Derived.Test.YtohhkogjphgimaaCl
namespace Go.Proofs.Ytohhkogjphgimaa
open Go.RowKit

set_option maxRecDepth 4000 in
theorem low_ways : ∀ c : UInt8, ((65 ≤ c.toNat ∧ c.toNat ≤ 90) ∧ (lowO c).toNat = c.toNat + 32) ∨ (¬ (65 ≤ c.toNat ∧ c.toNat ≤ 90) ∧ (lowO c).toNat = c.toNat) := all_u8 (by decide)
set_option maxHeartbeats 1000000 in
theorem lower20 (c : UInt8) (w : World) : Calls Try.prog 20 #[.int .i64 (c.toNat : Int)] w fun e w' => e = .returned (.int .i64 ((lowO c).toNat : Int)) ∧ w = w' := by
  have hw := low_ways c
  have hlt := c.toNat_lt
  obtain ⟨x, hx⟩ : ∃ x, c.toNat = x := ⟨_, rfl⟩
  obtain ⟨y, hy⟩ : ∃ y, (lowO c).toNat = y := ⟨_, rfl⟩
  rw [hx, hy] at hw
  rw [hx] at hlt
  rw [hx, hy]
  clear hx hy
  rcases hw with ⟨⟨h1, h2⟩, rfl⟩ | ⟨h, rfl⟩
  · go_enter Try.func20, Try.ntmps20
    go_wp2
    go_ret
    exact ⟨ret_int (by push_cast; rfl), rfl⟩
  · by_cases h1 : 65 ≤ y
    · have h2 : 90 < y := by omega
      clear h
      go_enter Try.func20, Try.ntmps20
      go_wp2
      go_ret
      exact ⟨rfl, rfl⟩
    · clear h
      go_enter Try.func20, Try.ntmps20
      go_wp2
      go_ret
      exact ⟨rfl, rfl⟩
set_option maxRecDepth 4000 in
theorem part_ways : ∀ c : UInt8, (c.toNat < 45 ∧ (lowO c).toNat = c.toNat ∧ ldhO (lowO c) = false) ∨ (c.toNat = 45 ∧ (lowO c).toNat = c.toNat ∧ ldhO (lowO c) = true) ∨ ((45 < c.toNat ∧ c.toNat < 48) ∧ (lowO c).toNat = c.toNat ∧ ldhO (lowO c) = false)
    ∨ ((48 ≤ c.toNat ∧ c.toNat ≤ 57) ∧ (lowO c).toNat = c.toNat ∧ ldhO (lowO c) = true) ∨ ((57 < c.toNat ∧ (lowO c).toNat < 97) ∧ ((lowO c).toNat = c.toNat) ∧ ldhO (lowO c) = false)
    ∨ ((97 ≤ (lowO c).toNat ∧ (lowO c).toNat ≤ 122) ∧ (lowO c).toNat ≤ c.toNat + 32 ∧ ldhO (lowO c) = true) ∨ (122 < c.toNat ∧ (lowO c).toNat = c.toNat ∧ ldhO (lowO c) = false) := all_u8 (by decide)
set_option maxHeartbeats 2000000 in
theorem part18 (c : UInt8) (w : World) : Calls Try.prog 18 #[.int .u8 (c.toNat : Int)] w fun e w' => e = .returned (.bool (ldhO (lowO c))) ∧ w = w' := by
  have hw := part_ways c
  have hlt := c.toNat_lt
  have d := lower20 c w
  obtain ⟨x, hx⟩ : ∃ x, c.toNat = x := ⟨_, rfl⟩
  obtain ⟨y, hy⟩ : ∃ y, (lowO c).toNat = y := ⟨_, rfl⟩
  obtain ⟨r, hr⟩ : ∃ r, ldhO (lowO c) = r := ⟨_, rfl⟩
  rw [hx, hy, hr] at hw
  rw [hx] at hlt
  rw [hx, hy] at d
  rw [hx, hr]
  clear hx hy hr
  rcases hw with ⟨h, rfl, rfl⟩ | ⟨rfl, rfl, rfl⟩ | ⟨⟨h, h'⟩, rfl, rfl⟩ | ⟨⟨h, h'⟩, rfl, rfl⟩ | ⟨⟨h, h'⟩, h2, rfl⟩ | ⟨⟨h, h'⟩, h2, rfl⟩ | ⟨h, rfl, rfl⟩
  case inr.inl =>
    replace d : Calls Try.prog 20 #[.int .i64 45] w fun e w' => e = .returned (.int .i64 45) ∧ w = w' := d
    show Calls Try.prog 18 #[.int .u8 45] w fun e w' => e = .returned (.bool true) ∧ w = w'
    go_enter Try.func18, Try.ntmps18
    go_wp2_with (go_at_call 20; (with_reducible refine d.mono ?_); rintro e w2 ⟨rfl, rfl⟩)
    go_ret
    exact ⟨rfl, rfl⟩
  all_goals
    go_enter Try.func18, Try.ntmps18
    go_wp2_with (go_at_call 20; (with_reducible refine d.mono ?_); rintro e w2 ⟨rfl, rfl⟩)
    go_ret
    first | exact ⟨rfl, rfl⟩ | (refine ⟨ret_bool ?_, rfl⟩; simp; omega)

theorem isL_map (l : List UInt8) : isL (l.map lowO) = (decide (1 ≤ l.length) && decide (l.length ≤ 63) && !(edg (ints l)) && l.all (fun c => ldhO (lowO c))) := by
  unfold isL
  rw [low_at, low_at, List.length_map, List.all_map]
  rcases Nat.eq_zero_or_pos l.length with h0 | h0
  · rw [decide_eq_false (p := 1 ≤ l.length) (by omega)]; rfl
  · have e0 : hyA (ints l) 0 = decide (l.getD 0 0 = 45) := by
      have := hyA_in (s := ints l) (j := 0) (by rw [ints_length]; exact h0)
      rw [show ((0 : Nat) : Int) = 0 from rfl] at this
      rw [this]; exact decide_eq_decide.2 (by rw [show (ints l).getD 0 0 = ((l.getD 0 0).toNat : Int) from ints_at l 0, int_hyp])
    have e1 : hyA (ints l) ((l.length : Int) - 1) = decide (l.getD (l.length - 1) 0 = 45) := by
      have := hyA_in (s := ints l) (j := l.length - 1) (by rw [ints_length]; omega)
      rw [show ((l.length - 1 : Nat) : Int) = (l.length : Int) - 1 by omega] at this
      rw [this]; exact decide_eq_decide.2 (by rw [show (ints l).getD (l.length - 1) 0 = ((l.getD (l.length - 1) 0).toNat : Int) from ints_at l _, int_hyp])
    have f : ∀ c : UInt8, (lowO c != 45) = !decide (c = 45) := fun c => by
      rw [show decide (c = 45) = decide (lowO c = 45) from decide_eq_decide.2 (by rw [low_hyp])]
      simp [bne, BEq.beq]
    unfold edg
    rw [ints_length, e0, e1, f, f]
    simp only [Bool.not_or, Bool.and_assoc]
    rfl
def IsI (l : List UInt8) (n : Nat) (i : Value) : Prop := ∃ k : Nat, k ≤ n ∧ i = .int .i64 k ∧ Hid (∀ j, j < k → ldhO (lowO (l.getD j 0)) = true)
set_option maxHeartbeats 2000000 in
theorem is9 (A : Option Addr) (n c : Nat) (l : List UInt8) (w : World) (h : Octs w A n l) (hn : n ≤ 1000000) :
    Calls Try.prog 9 #[.slice A n c] w fun e w' => e = .returned (.bool (isL (l.map lowO))) ∧ Hid (Below w.heap.size w w') := by
  have hl := h.len
  have d := edg19 A n c (ints l) w h hn
  have HR : Hid (isL (l.map lowO) = (decide (1 ≤ n) && decide (n ≤ 63) && !(edg (ints l)) && l.all (fun c => ldhO (lowO c)))) := by rw [isL_map, hl]; rfl
  obtain ⟨r, hr⟩ : ∃ r, isL (l.map lowO) = r := ⟨_, rfl⟩
  rw [hr] at HR ⊢
  obtain ⟨g, hg⟩ : ∃ g, edg (ints l) = g := ⟨_, rfl⟩
  rw [hg] at HR d
  have HO := Lib.hid h
  have HL := Lib.hid hl
  clear hr hg h hl
  by_cases h0 : n = 0
  · subst h0
    have : r = false := HR.out.trans (by simp)
    subst this
    clear d
    go_enter Try.func9, Try.ntmps9
    go_wp2
    go_ret
    exact ⟨rfl, Below.refl _ _⟩
  by_cases h1 : 63 < n
  · have : r = false := HR.out.trans (by rw [decide_eq_false (p := n ≤ 63) (by omega)]; simp)
    subst this
    clear d
    go_enter Try.func9, Try.ntmps9
    go_wp2
    go_ret
    exact ⟨rfl, Below.refl _ _⟩
  have hz : ((n : Int) == 0) = false := beq_false_of_ne (by omega)
  have hz1 : ¬ (63 : Int) < (n : Int) := by omega
  go_enter Try.func9, Try.ntmps9
  go_wp2
  go_loop [15] (fun i => IsI l n i) (fun i => n - (intOf i).toNat)
  case atStart => exact ⟨0, Nat.zero_le _, rfl, fun j hj => absurd hj (by omega)⟩
  case round =>
    obtain ⟨k, hk, rfl, HK⟩ := hrel
    by_cases hlt : k < n
    · obtain ⟨b, off, rfl, -, -⟩ := HO.out.2 (by omega)
      have hc := octs_cells HO.out k hlt
      rw [ints_get] at hc
      unfold oct at hc
      have q := part18 (l.getD k 0) w
      obtain ⟨x, hx⟩ : ∃ x, ldhO (lowO (l.getD k 0)) = x := ⟨_, rfl⟩
      rw [hx] at q
      have hlt2 := (l.getD k 0).toNat_lt
      obtain ⟨y, hy⟩ : ∃ y, (l.getD k 0).toNat = y := ⟨_, rfl⟩
      rw [hy] at q hc hlt2
      have HX := Lib.hid hx
      clear hx hy d
      cases x with
      | false =>
        have HF : Hid (r = false) := by
          refine HR.out.trans ?_
          rw [show (l.all fun c => ldhO (lowO c)) = false from List.all_eq_false.2 ⟨l.getD k 0, by rw [List.getD_eq_getElem?_getD, List.getElem?_eq_getElem (by rw [HL.out]; exact hlt)]; exact List.getElem_mem _, by rw [HX.out]; simp⟩]
          simp
        go_wp2_with (go_at_call 18; (with_reducible refine q.mono ?_); rintro e w2 ⟨rfl, rfl⟩)
        go_ret
        exact ⟨ret_bool HF.out.symm, Below.refl _ _⟩
      | true =>
        go_wp2_with (go_at_call 18; (with_reducible refine q.mono ?_); rintro e w2 ⟨rfl, rfl⟩)
        go_round
        case rel => exact ⟨k + 1, by omega, by go_num, fun j hj => by
          by_cases e : j = k
          · subst e; exact HX.out
          · exact HK.out j (by omega)⟩
        case measure => simp [intOf]; omega
    · have HF : Hid (r = !g) := by
        refine HR.out.trans ?_
        rw [decide_eq_true (p := 1 ≤ n) (by omega), decide_eq_true (p := n ≤ 63) (by omega), List.all_eq_true.2 (fun x hx => by
          obtain ⟨j, hj, rfl⟩ := List.getElem_of_mem hx
          have := HK.out j (by have := HL.out; omega)
          rwa [List.getD_eq_getElem?_getD, List.getElem?_eq_getElem hj] at this)]
        simp
      go_wp2_with (go_at_call 19; (with_reducible refine d.mono ?_); rintro e w2 ⟨rfl, HB⟩)
      go_ret
      exact ⟨ret_bool (by rw [HF.out]), HB.out⟩
end Go.Proofs.Ytohhkogjphgimaa
