/- The program's small ones (among, Is, isLeading, isVowel, isOpen, isTrailing), and its Apart. -/
import Derived.Test.YtohdenjfapdojaaHpl
import Derived.Test.YtohdenjfapdojaaProg
import Derived.BigQuiet
namespace Go.Proofs.Ytohdenjfapdojaa
open Go.RowKit

theorem and_dec {p q : Prop} [Decidable p] [Decidable q] : (decide p && decide q) = decide (p ∧ q) := by
  by_cases hp : p <;> by_cases hq : q <;> simp [hp, hq]
/-- The three bounds that the program asks with. -/
theorem among15 (c a n : Int) (w : World) (ha : 0 ≤ a ∧ a ≤ 1000000) (hn : 0 ≤ n ∧ n ≤ 1000000) : Calls Try.prog 15 #[.int .i64 c, .int .i64 a, .int .i64 n] w fun e w' => e = .returned (.bool (decide (a ≤ c ∧ c < a + n))) ∧ w' = w := by
  obtain ⟨ha, ha2⟩ := ha
  obtain ⟨hn, hn2⟩ := hn
  by_cases h1 : a ≤ c
  · by_cases h2 : c < a + n
    · have h3 : a ≤ c ∧ c < a + n := ⟨h1, h2⟩
      rw [decide_eq_true h3]
      go_enter Try.func15, Try.ntmps15
      go_wp2
      go_ret
      exact ⟨rfl, rfl⟩
    · have h3 : ¬ (a ≤ c ∧ c < a + n) := fun h => h2 h.2
      rw [decide_eq_false h3]
      go_enter Try.func15, Try.ntmps15
      go_wp2
      go_ret
      exact ⟨rfl, rfl⟩
  · have h3 : ¬ (a ≤ c ∧ c < a + n) := fun h => h1 h.1
    rw [decide_eq_false h3]
    go_enter Try.func15, Try.ntmps15
    go_wp2
    go_ret
    exact ⟨rfl, rfl⟩
theorem is10 (c : Int) (w : World) : Calls Try.prog 10 #[.int .i64 c] w fun e w' => e = .returned (.bool (decide (44032 ≤ c ∧ c < 55204))) ∧ w' = w := by
  have h := among15 c 44032 11172 w (by omega) (by omega)
  rw [show (44032 : Int) + 11172 = 55204 from rfl] at h
  go_enter Try.func10, Try.ntmps10
  go_wp2_with (go_at_call 15; (with_reducible refine h.mono ?_); rintro e w' ⟨rfl, rfl⟩)
  go_ret
  exact ⟨congrArg (fun b => Ending.returned (Value.bool b)) and_dec, rfl⟩
theorem isLeading16 (c : Int) (w : World) : Calls Try.prog 16 #[.int .i64 c] w fun e w' => e = .returned (.bool (decide (4352 ≤ c ∧ c < 4371))) ∧ w' = w := by
  have h := among15 c 4352 19 w (by omega) (by omega)
  rw [show (4352 : Int) + 19 = 4371 from rfl] at h
  go_enter Try.func16, Try.ntmps16
  go_wp2_with (go_at_call 15; (with_reducible refine h.mono ?_); rintro e w' ⟨rfl, rfl⟩)
  go_ret
  exact ⟨congrArg (fun b => Ending.returned (Value.bool b)) and_dec, rfl⟩
theorem isVowel17 (c : Int) (w : World) : Calls Try.prog 17 #[.int .i64 c] w fun e w' => e = .returned (.bool (decide (4449 ≤ c ∧ c < 4470))) ∧ w' = w := by
  have h := among15 c 4449 21 w (by omega) (by omega)
  rw [show (4449 : Int) + 21 = 4470 from rfl] at h
  go_enter Try.func17, Try.ntmps17
  go_wp2_with (go_at_call 15; (with_reducible refine h.mono ?_); rintro e w' ⟨rfl, rfl⟩)
  go_ret
  exact ⟨congrArg (fun b => Ending.returned (Value.bool b)) and_dec, rfl⟩
theorem isTrailing19 (c : Int) (w : World) : Calls Try.prog 19 #[.int .i64 c] w fun e w' => e = .returned (.bool (decide (4520 ≤ c ∧ c < 4547))) ∧ w' = w := by
  have h := among15 c 4520 27 w (by omega) (by omega)
  rw [show (4520 : Int) + 27 = 4547 from rfl] at h
  go_enter Try.func19, Try.ntmps19
  go_wp2_with (go_at_call 15; (with_reducible refine h.mono ?_); rintro e w' ⟨rfl, rfl⟩)
  go_ret
  exact ⟨congrArg (fun b => Ending.returned (Value.bool b)) and_dec, rfl⟩
/-- isOpen: of a syllable, and of what is none. -/
theorem isOpen18_no (c : Int) (w : World) (hc : ¬ (44032 ≤ c ∧ c < 55204)) : Calls Try.prog 18 #[.int .i64 c] w fun e w' => e = .returned (.bool false) ∧ w' = w := by
  have h := is10 c w
  rw [decide_eq_false hc] at h
  go_enter Try.func18, Try.ntmps18
  go_wp2_with (go_at_call 10; (with_reducible refine h.mono ?_); rintro e w' ⟨rfl, rfl⟩)
  go_ret
  exact ⟨rfl, rfl⟩
theorem isOpen18 (l v t : Int) (w : World) (hp : Places l v t) : Calls Try.prog 18 #[.int .i64 (syl l v t)] w fun e w' => e = .returned (.bool (decide (t = 0))) ∧ w' = w := by
  have hi := hang_in hp
  have h := is10 (syl l v t) w
  rw [decide_eq_true hi] at h
  obtain ⟨-, hT, -, -⟩ := divs hp
  obtain ⟨-, -, -, -, t0, t1⟩ := hp
  obtain ⟨c, hc⟩ : ∃ c, syl l v t = c := ⟨_, rfl⟩
  rw [hc] at hi h hT ⊢
  obtain ⟨c0, c1⟩ := hi
  clear hc
  by_cases ht : t = 0
  · subst ht
    go_enter Try.func18, Try.ntmps18
    go_wp2_with (go_at_call 10; (with_reducible refine h.mono ?_); rintro e w' ⟨rfl, rfl⟩)
    go_ret
    exact ⟨rfl, rfl⟩
  · have hb : (t == 0) = false := beq_false_of_ne ht
    rw [decide_eq_false ht]
    go_enter Try.func18, Try.ntmps18
    go_wp2_with (go_at_call 10; (with_reducible refine h.mono ?_); rintro e w' ⟨rfl, rfl⟩)
    go_ret
    exact ⟨rfl, rfl⟩

theorem cells_at (W : World) (cs : Array Value) (e : TypeId) {k j : Nat} {v : Value} (hk : W.heap.size = k) (h : cs[j]? = some v) : (W.alloc (.cells cs e)).drew.cell? ⟨k, 0 + j, none⟩ = some v := by
  subst hk
  rw [Nat.zero_add]
  show (W.alloc (.cells cs e)).cell? ⟨W.heap.size, j, none⟩ = some v
  simp [h]
theorem lit3_0 {a b c : Value} {r : Array Value} : (#[a, b, c] ++ r)[0]? = some a := by rw [Array.getElem?_append_left (by simp)]; rfl
theorem lit3_1 {a b c : Value} {r : Array Value} : (#[a, b, c] ++ r)[1]? = some b := by rw [Array.getElem?_append_left (by simp)]; rfl
theorem lit3_2 {a b c : Value} {r : Array Value} : (#[a, b, c] ++ r)[2]? = some c := by rw [Array.getElem?_append_left (by simp)]; rfl
/-- What Apart answers: a row that nothing else reaches, of these numbers. -/
def ApPost (w : World) (zs : List Int) (e : Ending) (w' : World) : Prop := ∃ A cap, e = .returned (.slice A zs.length cap) ∧ Below w.heap.size w w' ∧ Hid (Vals w' A zs.length (nums .i64 zs))
theorem apart7_no (c : Int) (w : World) (hc : ¬ (44032 ≤ c ∧ c < 55204)) : Calls Try.prog 7 #[.int .i64 c] w (ApPost w []) := by
  have h := is10 c w
  rw [decide_eq_false hc] at h
  go_enter Try.func7, Try.ntmps7
  go_wp2_with (go_at_call 10; (with_reducible refine h.mono ?_); rintro e w' ⟨rfl, rfl⟩)
  go_ret
  exact ⟨_, _, rfl, Below.refl _ _, Lib.hid (Vals.nil _ _)⟩
theorem two_row (w : World) (x y : Int) : (w.alloc (.cells #[.int .i64 x, .int .i64 y] 3)).ownsRow w.heap.size 3 1 (.slice (some ⟨w.heap.size, 0, none⟩) 2 2) 2 (nums .i64 [x, y]) :=
  World.ownsRow_lit w #[.int .i64 x, .int .i64 y] 2 (Nat.le_refl _) (by decide) rfl
theorem two_vals (w : World) (x y : Int) : Vals (w.alloc (.cells #[.int .i64 x, .int .i64 y] 3)) (some ⟨w.heap.size, 0, none⟩) 2 (nums .i64 [x, y]) := by
  obtain ⟨A, c, h, -, hv, -⟩ := own_vals (two_row w x y)
  cases h
  exact hv
set_option maxRecDepth 100000 in
set_option maxHeartbeats 2000000 in
theorem apart7 (l v t : Int) (w : World) (hp : Places l v t) : Calls Try.prog 7 #[.int .i64 (syl l v t)] w (ApPost w (partsOf l v t)) := by
  have hi := hang_in hp
  have h := is10 (syl l v t) w
  rw [decide_eq_true hi] at h
  obtain ⟨hO, hT, hL, hV⟩ := divs hp
  obtain ⟨l0, l1, v0, v1, t0, t1⟩ := hp
  obtain ⟨c, hc⟩ : ∃ c, syl l v t = c := ⟨_, rfl⟩
  rw [hc] at hi h hO hT ⊢
  obtain ⟨c0, c1⟩ := hi
  obtain ⟨o, ho⟩ : ∃ o, 21 * l + v = o := ⟨_, rfl⟩
  have o0 : 0 ≤ o := by omega
  have o1 : o < 399 := by omega
  rw [ho] at hO hL hV
  clear hc ho
  by_cases ht : t = 0
  · subst ht
    rw [show partsOf l v 0 = [4352 + l, 4449 + v] from if_pos rfl]
    go_enter Try.func7, Try.ntmps7
    go_wp2_with (go_at_call 10; (with_reducible refine h.mono ?_); rintro e w' ⟨rfl, rfl⟩)
    go_ret
    exact ⟨_, _, rfl, (Below.refl _ _).alloc (Nat.le_refl _) _, Lib.hid (two_vals _ _ _)⟩
  · have hb : (t == 0) = false := beq_false_of_ne ht
    rw [show partsOf l v t = [4352 + l, 4449 + v, 4519 + t] from if_neg ht]
    go_enter Try.func7, Try.ntmps7
    go_wp2_with (go_at_call 10; (with_reducible refine h.mono ?_); rintro e w' ⟨rfl, rfl⟩)
    go_ret
    refine ⟨_, _, rfl, Below.drew ((((Below.refl _ _).alloc (Nat.le_refl _) _).alloc (by simp) _).alloc (by simp; omega) _), Lib.hid ⟨rfl, fun _ => ⟨_, 0, rfl, by simp, fun j u hj => ?_⟩⟩⟩
    refine (cells_at _ _ 3 (by simp) ?_)
    match j, hj with
    | 0, hj => cases hj; exact lit3_0
    | 1, hj => cases hj; exact lit3_1
    | 2, hj =>
      cases hj
      rw [show 4519 + t = 4520 + t - 1 by omega]
      exact lit3_2
end Go.Proofs.Ytohdenjfapdojaa
