/- What the document's own Range hands back. -/
import Derived.Test.YtdbnegllncjhkaaGreatDoorRpoint
import Derived.Deep.RegionWith
import Derived.IntWalk
namespace Go.Proofs.YtdbnegllncjhkaaGreatDoor
open Go.RowKit

theorem dots_at {l : List UInt8} {k : Nat} (hk : k + 2 ≤ l.length) : Lib.occAt l [46, 46] k = (decide (oct l k = 46) && decide (oct l (k + 1) = 46)) := by
  have h1 : k < l.length := by omega
  have h2 : k + 1 < l.length := by omega
  have e1 : oct l k = (l[k].toNat : Int) := by unfold oct; rw [List.getD_eq_getElem?_getD, List.getElem?_eq_getElem h1]; rfl
  have e2 : oct l (k + 1) = (l[k + 1].toNat : Int) := by unfold oct; rw [List.getD_eq_getElem?_getD, List.getElem?_eq_getElem h2]; rfl
  unfold Lib.occAt
  rw [List.drop_eq_getElem_cons h1, List.drop_eq_getElem_cons h2, e1, e2]
  have u := fun a : UInt8 => u8_int a 46
  have v : ∀ a : UInt8, ((46 : UInt8) == a) = decide ((a.toNat : Int) = 46) := fun a => by
    rw [Bool.eq_iff_iff, beq_iff_eq, decide_eq_true_iff]
    exact ⟨fun h => by rw [← h]; rfl, fun h => ((u a).1 h).symm⟩
  simp [List.isPrefixOf, v]
theorem range_none {l : List UInt8} (h : Lib.index l [46, 46] = -1) : rangeOf l = match point l with | some a => ((a : Int), (a : Int), 0) | none => (0, 0, 13) := by
  unfold rangeOf
  rw [h]
  rfl
theorem range_hit {l : List UInt8} {k : Nat} (h : Lib.index l [46, 46] = k) : rangeOf l = match point (l.take k), point (l.drop (k + 2)) with | some a, some b => if b ≤ a then (0, 0, 14) else ((a : Int), (b : Int), 0) | _, _ => (0, 0, 13) := by
  unfold rangeOf
  rw [h, if_pos (by omega)]
  rfl
theorem below_two {w wa wb : World} (ha : Below w.heap.size w wa) (hb : Below wa.heap.size wa wb) : Below w.heap.size w wb := ha.trans (hb.mono ha.size)

set_option maxRecDepth 100000 in
set_option maxHeartbeats 4000000 in
theorem range14 (l : List UInt8) (w : World) (hl : l.length ≤ 1000000) : Calls Tryz.prog 27 #[.string (bs l)] w fun e w' => e = .returned (rgVal (rangeOf l)) ∧ Below w.heap.size w w' := by
  have hsz := bs_size l
  have hle := hl
  obtain ⟨n, hn⟩ : ∃ n, l.length = n := ⟨_, rfl⟩
  rw [hn] at hl hsz
  have HN := Lib.hid hn
  have HLE := Lib.hid hle
  clear hn hle
  go_enter Tryz.func27, Tryz.ntmps27
  go_wp2
  go_loop [5, 6] (fun a i => ∃ k : Nat, a = .int .i64 (-1) ∧ i = .int .i64 k ∧ k ≤ n ∧ Lib.NoOcc l [46, 46] k) (fun _ i => n - (intOf i).toNat)
  case atStart => exact ⟨0, rfl, rfl, Nat.zero_le _, Lib.NoOcc.zero _ _⟩
  case round =>
    obtain ⟨k, rfl, rfl, hkn, hno⟩ := hrel
    by_cases hlt : k + 2 ≤ n
    · have hocc := dots_at (l := l) (k := k) (by rw [HN.out]; exact hlt)
      have hx := bs_oct l k
      have hx2 := bs_oct l (k + 1)
      obtain ⟨X, hX⟩ : ∃ X, oct l k = X := ⟨_, rfl⟩
      obtain ⟨Y, hY⟩ : ∃ Y, oct l (k + 1) = Y := ⟨_, rfl⟩
      rw [hX, hY] at hocc
      rw [hX] at hx
      rw [hY] at hx2
      clear hX hY
      by_cases hyes : X = 46 ∧ Y = 46
      · obtain ⟨rfl, rfl⟩ := hyes
        have hidx : Lib.index l [46, 46] = k := Lib.index_hit hno (by rw [HN.out]; exact hkn) (by rw [hocc]; rfl)
        have hr := range_hit hidx
        have c12 := fun w => point12 (l.take k) w (by rw [List.length_take]; have := HLE.out; omega)
        have d12 := fun w => point12 (l.drop (k + 2)) w (by rw [List.length_drop]; have := HLE.out; omega)
        have e1 : (bs l).extract 0 k = bs (l.take k) := by rw [bs_ext]; simp
        have e2 : (bs l).extract (k + 2) n = bs (l.drop (k + 2)) := by rw [bs_ext, ← HN.out, List.take_of_length_le (by simp)]
        obtain ⟨S1, hS1⟩ : ∃ S, bs (l.take k) = S := ⟨_, rfl⟩
        obtain ⟨S2, hS2⟩ : ∃ S, bs (l.drop (k + 2)) = S := ⟨_, rfl⟩
        obtain ⟨p, hp⟩ : ∃ p, point (l.take k) = p := ⟨_, rfl⟩
        obtain ⟨q, hq⟩ : ∃ q, point (l.drop (k + 2)) = q := ⟨_, rfl⟩
        rw [hS1] at e1
        rw [hS2] at e2
        rw [hp, hq] at hr
        simp only [hS1, hp] at c12
        simp only [hS2, hq] at d12
        clear hocc hno hidx hS1 hS2 hp hq HLE
        have hcase : ∃ r : Int × Int × Int, rangeOf l = r ∧ ((ptI p < 0 ∧ r = (0, 0, 13)) ∨ (0 ≤ ptI p ∧ ptI q < 0 ∧ r = (0, 0, 13)) ∨ (0 ≤ ptI p ∧ 0 ≤ ptI q ∧ ptI q ≤ ptI p ∧ r = (0, 0, 14)) ∨ (0 ≤ ptI p ∧ 0 ≤ ptI q ∧ ptI p < ptI q ∧ r = (ptI p, ptI q, 0))) := by
          refine ⟨_, rfl, ?_⟩
          rw [hr]
          cases p with
          | none => exact .inl ⟨by decide, rfl⟩
          | some a =>
            cases q with
            | none => exact .inr (.inl ⟨by simp [ptI], by decide, rfl⟩)
            | some b =>
              by_cases hba : b ≤ a
              · exact .inr (.inr (.inl ⟨by simp [ptI], by simp [ptI], by simp [ptI]; exact hba, by simp [hba]⟩))
              · exact .inr (.inr (.inr ⟨by simp [ptI], by simp [ptI], by simp [ptI]; omega, by simp [hba, ptI]⟩))
        obtain ⟨r, hr2, hcase⟩ := hcase
        have HR := Lib.hid hr2
        clear hr hr2
        obtain ⟨A, hA⟩ : ∃ A, ptI p = A := ⟨_, rfl⟩
        obtain ⟨B, hB⟩ : ∃ B, ptI q = B := ⟨_, rfl⟩
        rw [hA, hB] at hcase
        simp only [hA] at c12
        simp only [hB] at d12
        clear hA hB p q
        have w1 : IntKind.i64.wrap (↑k + 2) = ↑k + 2 := IntWalk.i64_in _ (by omega)
        have w2 : (0 : Int) ≤ ↑k + 2 := by omega
        have w3 : ((k : Int) + 2).toNat = k + 2 := by omega
        rcases hcase with ⟨a1, rfl⟩ | ⟨a1, a2, rfl⟩ | ⟨a1, a2, a3, rfl⟩ | ⟨a1, a2, a3, rfl⟩
        all_goals
          go_wp2
          go_region_with (first
            | (go_at_call 54; (with_reducible refine (c12 _).mono ?_); rintro e wa ⟨rfl, hba⟩)
            | (go_at_call 54; (with_reducible refine (d12 _).mono ?_); rintro e wb ⟨rfl, hbb⟩))
          all_goals
            go_wp2
            go_ret3
            refine ⟨by rw [HR.out]; rfl, ?_⟩
            first
            | exact below_two (w := w) ⟨hba.os, hba.tape, hba.output, hba.size, hba.block⟩ hbb
            | exact below_two (w := w) ⟨hbb.os, hbb.tape, hbb.output, hbb.size, hbb.block⟩ hba
      · have hno2 : Lib.NoOcc l [46, 46] (k + 1) := hno.succ (by rw [hocc]; simp; intro h h2; exact hyes ⟨h, h2⟩)
        have HNO := Lib.hid hno2
        clear hno hno2 hocc
        by_cases h1 : X = 46
        · subst h1
          have h2 : ¬ Y = 46 := fun h => hyes ⟨rfl, h⟩
          have h2b : (Y == 46) = false := beq_false_of_ne h2
          clear hyes
          go_wp2
          go_round
          case rel => exact ⟨k + 1, rfl, by go_num, by omega, HNO.out⟩
          case measure => simp [intOf]; omega
        · have h1b : (X == 46) = false := beq_false_of_ne h1
          clear hyes hx2
          go_wp2
          go_round
          case rel => exact ⟨k + 1, rfl, by go_num, by omega, HNO.out⟩
          case measure => simp [intOf]; omega
    · have hidx : Lib.index l [46, 46] = -1 := Lib.index_past (by simp) hno (by rw [HN.out]; simp; omega)
      have hr := range_none hidx
      have c12 := fun w => point12 l w HLE.out
      cases hp : point l with
      | none =>
        rw [hp] at hr
        simp only [hp, ptI] at c12
        have HR := Lib.hid hr
        clear hr hidx hno hp
        go_wp2_with (go_at_call 54; (with_reducible refine (c12 _).mono ?_); rintro e wa ⟨rfl, hba⟩)
        go_ret3
        exact ⟨by rw [HR.out]; rfl, hba⟩
      | some a =>
        rw [hp] at hr
        simp only [hp, ptI] at c12
        have HR := Lib.hid hr
        clear hr hidx hno hp
        go_wp2_with (go_at_call 54; (with_reducible refine (c12 _).mono ?_); rintro e wa ⟨rfl, hba⟩)
        go_ret3
        exact ⟨by rw [HR.out]; rfl, hba⟩
end Go.Proofs.YtdbnegllncjhkaaGreatDoor
