/- Hyphens at places: what the program's closures over a slice tell, at octets and at numbers. -/
import Derived.Test.YtohhkogjphgimaaOct
import Derived.Test.YtohhkogjphgimaaNld
import Derived.BigQuiet
namespace Go.Proofs.Ytohhkogjphgimaa
open Go.RowKit

/-- is there a hyphen at place k? -/
def hyA (s : List Int) (k : Int) : Bool := decide (0 ≤ k) && decide (k < s.length) && decide (s.getD k.toNat 0 = 45)
theorem hyA_neg {s : List Int} {k : Int} (h : k < 0) : hyA s k = false := by unfold hyA; rw [decide_eq_false (by omega)]; rfl
theorem hyA_far {s : List Int} {k : Int} (h : s.length ≤ k) : hyA s k = false := by unfold hyA; rw [decide_eq_false (p := k < s.length) (by omega)]; simp
theorem hyA_in {s : List Int} {j : Nat} (h : j < s.length) : hyA s (j : Int) = decide (s.getD j 0 = 45) := by
  unfold hyA; rw [decide_eq_true (p := (0 : Int) ≤ (j : Int)) (by omega), decide_eq_true (p := (j : Int) < s.length) (by omega)]; rfl
def edg (s : List Int) : Bool := hyA s 0 || hyA s ((s.length : Int) - 1)
def rsv (s : List Int) : Bool := hyA s 2 && hyA s 3
theorem box_new (W : World) (v : Value) (t : TypeId) : (W.alloc (.cells #[v] t)).cell? ⟨W.heap.size, 0, none⟩ = some v := by simp
theorem nums_len {k : IntKind} {w : World} {A : Option Addr} {n : Nat} {s : List Int} (h : Vals w A n (nums k s)) : s.length = n := by
  have := h.1
  unfold nums at this
  rwa [List.length_map] at this

set_option maxHeartbeats 1000000 in
theorem at25 (bx : Nat) (A : Option Addr) (n c : Nat) (s : List Int) (k : Int) (w : World) (hx : w.cell? ⟨bx, 0, none⟩ = some (.slice A n c)) (h : Vals w A n (nums .u8 s)) (hn : n ≤ 1000000) (hk : -1 ≤ k ∧ k ≤ 1000000) :
    Calls Try.prog 25 #[.int .i64 k, .pointer (some ⟨bx, 0, none⟩)] w fun e w' => e = .returned (.bool (hyA s k)) ∧ w = w' := by
  have hl := nums_len h
  by_cases h0 : 0 ≤ k
  · obtain ⟨j, rfl⟩ := Int.eq_ofNat_of_zero_le h0
    by_cases h1 : j < n
    · obtain ⟨b, off, rfl, -, hc⟩ := h.2 (by omega)
      have hq := hc j _ (nums_get (by omega))
      rw [hyA_in (by omega)]
      obtain ⟨y, hy⟩ : ∃ y, s.getD j 0 = y := ⟨_, rfl⟩
      rw [hy] at hq ⊢
      clear hc hy h hl
      by_cases h2 : y = 45
      · subst h2
        go_enter Try.func25, Try.ntmps25
        go_wp2
        go_ret
        exact ⟨rfl, rfl⟩
      · rw [decide_eq_false h2]
        have h3 : (y == 45) = false := beq_false_of_ne h2
        clear h2
        go_enter Try.func25, Try.ntmps25
        go_wp2
        go_ret
        exact ⟨rfl, rfl⟩
    · rw [hyA_far (by omega)]
      clear h hl
      go_enter Try.func25, Try.ntmps25
      go_wp2
      go_ret
      exact ⟨rfl, rfl⟩
  · rw [hyA_neg (by omega)]
    clear h hl
    go_enter Try.func25, Try.ntmps25
    go_wp2
    go_ret
    exact ⟨rfl, rfl⟩
def Cl23 (w : World) (A : Option Addr) (n c : Nat) (e : Ending) (w' : World) : Prop := ∃ bx, e = .returned (.func (.func 25) #[] #[.pointer (some ⟨bx, 0, none⟩)]) ∧ Hid (Below w.heap.size w w' ∧ w'.cell? ⟨bx, 0, none⟩ = some (.slice A n c))
theorem of23 (A : Option Addr) (n c : Nat) (w : World) : Calls Try.prog 23 #[.slice A n c] w (Cl23 w A n c) := by
  have HF : Hid (Cl23 w A n c (.returned (.func (.func 25) #[] #[.pointer (some ⟨w.heap.size, 0, none⟩)])) (w.alloc (.cells #[.slice A n c] 22))) :=
    ⟨w.heap.size, rfl, (Below.refl _ _).alloc (Nat.le_refl _) _, box_new _ _ _⟩
  have hmf : ∀ (fn : Fn) (first cap : Array Value) (w : World), (Instr.makeFunc fn first cap).run Try.prog w = .ok (.func fn first cap) w := fun _ _ _ _ => rfl
  go_enter Try.func23, Try.ntmps23
  go_wp2
  go_ret
  exact HF.out
set_option maxHeartbeats 1000000 in
theorem edg19 (A : Option Addr) (n c : Nat) (s : List Int) (w : World) (h : Vals w A n (nums .u8 s)) (hn : n ≤ 1000000) :
    Calls Try.prog 19 #[.slice A n c] w fun e w' => e = .returned (.bool (edg s)) ∧ Hid (Below w.heap.size w w') := by
  have d := of23 A n c w
  have hl := nums_len h
  have HQ : Hid (∀ w1 bx, Below w.heap.size w w1 → w1.cell? ⟨bx, 0, none⟩ = some (.slice A n c) → ∀ k : Int, -1 ≤ k ∧ k ≤ 1000000 → Calls Try.prog 25 #[.int .i64 k, .pointer (some ⟨bx, 0, none⟩)] w1 fun e w' => e = .returned (.bool (hyA s k)) ∧ w1 = w') := fun w1 bx hb hx k hk =>
    at25 bx A n c s k w1 hx (h.below hb) hn hk
  have HE : Hid (edg s = (hyA s 0 || hyA s ((n : Int) - 1))) := by unfold edg; rw [hl]; rfl
  obtain ⟨v0, hv0⟩ : ∃ v, hyA s 0 = v := ⟨_, rfl⟩
  obtain ⟨v1, hv1⟩ : ∃ v, hyA s ((n : Int) - 1) = v := ⟨_, rfl⟩
  have H0 := Lib.hid hv0
  have H1 := Lib.hid hv1
  clear h hl hv0 hv1
  go_enter Try.func19, Try.ntmps19
  go_wp2_with (go_at_call 23; (with_reducible refine d.mono ?_); rintro e w1 ⟨bx, rfl, HB⟩)
  have q0 := HQ.out w1 bx HB.out.1 HB.out.2 0 (by omega)
  have q1 := HQ.out w1 bx HB.out.1 HB.out.2 ((n : Int) - 1) (by omega)
  rw [H0.out] at q0
  rw [H1.out] at q1
  clear d
  cases v0 with
  | true =>
    go_wp2_with (go_at_call 25; (with_reducible refine q0.mono ?_); rintro e w2 ⟨rfl, rfl⟩)
    go_ret
    exact ⟨ret_bool (by rw [HE.out, H0.out]; rfl), HB.out.1⟩
  | false =>
    go_wp2_with (go_at_call 25; (first | (with_reducible refine q0.mono ?_) | (with_reducible refine q1.mono ?_)); rintro e w2 ⟨rfl, rfl⟩)
    go_ret
    exact ⟨ret_bool (by rw [HE.out, H0.out, H1.out]; simp), HB.out.1⟩
set_option maxHeartbeats 1000000 in
theorem rsv16 (A : Option Addr) (n c : Nat) (s : List Int) (w : World) (h : Vals w A n (nums .u8 s)) (hn : n ≤ 1000000) :
    Calls Try.prog 16 #[.slice A n c] w fun e w' => e = .returned (.bool (rsv s)) ∧ Hid (Below w.heap.size w w') := by
  have d := of23 A n c w
  have HQ : Hid (∀ w1 bx, Below w.heap.size w w1 → w1.cell? ⟨bx, 0, none⟩ = some (.slice A n c) → ∀ k : Int, -1 ≤ k ∧ k ≤ 1000000 → Calls Try.prog 25 #[.int .i64 k, .pointer (some ⟨bx, 0, none⟩)] w1 fun e w' => e = .returned (.bool (hyA s k)) ∧ w1 = w') := fun w1 bx hb hx k hk =>
    at25 bx A n c s k w1 hx (h.below hb) hn hk
  have HE : Hid (rsv s = (hyA s 2 && hyA s 3)) := rfl
  obtain ⟨v0, hv0⟩ : ∃ v, hyA s 2 = v := ⟨_, rfl⟩
  obtain ⟨v1, hv1⟩ : ∃ v, hyA s 3 = v := ⟨_, rfl⟩
  have H0 := Lib.hid hv0
  have H1 := Lib.hid hv1
  clear h hv0 hv1
  go_enter Try.func16, Try.ntmps16
  go_wp2_with (go_at_call 23; (with_reducible refine d.mono ?_); rintro e w1 ⟨bx, rfl, HB⟩)
  have q0 := HQ.out w1 bx HB.out.1 HB.out.2 2 (by omega)
  have q1 := HQ.out w1 bx HB.out.1 HB.out.2 3 (by omega)
  rw [H0.out] at q0
  rw [H1.out] at q1
  clear d
  cases v0 with
  | false =>
    go_wp2_with (go_at_call 25; (with_reducible refine q0.mono ?_); rintro e w2 ⟨rfl, rfl⟩)
    go_ret
    exact ⟨ret_bool (by rw [HE.out, H0.out]; rfl), HB.out.1⟩
  | true =>
    go_wp2_with (go_at_call 25; (first | (with_reducible refine q0.mono ?_) | (with_reducible refine q1.mono ?_)); rintro e w2 ⟨rfl, rfl⟩)
    go_ret
    exact ⟨ret_bool (by rw [HE.out, H0.out, H1.out]; simp), HB.out.1⟩

set_option maxHeartbeats 1000000 in
theorem at26 (bx : Nat) (A : Option Addr) (n c : Nat) (s : List Int) (k : Int) (w : World) (hx : w.cell? ⟨bx, 0, none⟩ = some (.slice A n c)) (h : Vals w A n (nums .i64 s)) (hn : n ≤ 1000000) (hk : -1 ≤ k ∧ k ≤ 1000000) :
    Calls Try.prog 26 #[.int .i64 k, .pointer (some ⟨bx, 0, none⟩)] w fun e w' => e = .returned (.bool (hyA s k)) ∧ w = w' := by
  have hl := nums_len h
  by_cases h0 : 0 ≤ k
  · obtain ⟨j, rfl⟩ := Int.eq_ofNat_of_zero_le h0
    by_cases h1 : j < n
    · obtain ⟨b, off, rfl, -, hc⟩ := h.2 (by omega)
      have hq := hc j _ (nums_get (by omega))
      rw [hyA_in (by omega)]
      obtain ⟨y, hy⟩ : ∃ y, s.getD j 0 = y := ⟨_, rfl⟩
      rw [hy] at hq ⊢
      clear hc hy h hl
      by_cases h2 : y = 45
      · subst h2
        go_enter Try.func26, Try.ntmps26
        go_wp2
        go_ret
        exact ⟨rfl, rfl⟩
      · rw [decide_eq_false h2]
        have h3 : (y == 45) = false := beq_false_of_ne h2
        clear h2
        go_enter Try.func26, Try.ntmps26
        go_wp2
        go_ret
        exact ⟨rfl, rfl⟩
    · rw [hyA_far (by omega)]
      clear h hl
      go_enter Try.func26, Try.ntmps26
      go_wp2
      go_ret
      exact ⟨rfl, rfl⟩
  · rw [hyA_neg (by omega)]
    clear h hl
    go_enter Try.func26, Try.ntmps26
    go_wp2
    go_ret
    exact ⟨rfl, rfl⟩
def Cl24 (w : World) (A : Option Addr) (n c : Nat) (e : Ending) (w' : World) : Prop := ∃ bx, e = .returned (.func (.func 26) #[] #[.pointer (some ⟨bx, 0, none⟩)]) ∧ Hid (Below w.heap.size w w' ∧ w'.cell? ⟨bx, 0, none⟩ = some (.slice A n c))
theorem of24 (A : Option Addr) (n c : Nat) (w : World) : Calls Try.prog 24 #[.slice A n c] w (Cl24 w A n c) := by
  have HF : Hid (Cl24 w A n c (.returned (.func (.func 26) #[] #[.pointer (some ⟨w.heap.size, 0, none⟩)])) (w.alloc (.cells #[.slice A n c] 29))) :=
    ⟨w.heap.size, rfl, (Below.refl _ _).alloc (Nat.le_refl _) _, box_new _ _ _⟩
  have hmf : ∀ (fn : Fn) (first cap : Array Value) (w : World), (Instr.makeFunc fn first cap).run Try.prog w = .ok (.func fn first cap) w := fun _ _ _ _ => rfl
  go_enter Try.func24, Try.ntmps24
  go_wp2
  go_ret
  exact HF.out
set_option maxHeartbeats 1000000 in
theorem edg21 (A : Option Addr) (n c : Nat) (s : List Int) (w : World) (h : Vals w A n (nums .i64 s)) (hn : n ≤ 1000000) :
    Calls Try.prog 21 #[.slice A n c] w fun e w' => e = .returned (.bool (edg s)) ∧ Hid (Below w.heap.size w w') := by
  have d := of24 A n c w
  have hl := nums_len h
  have HQ : Hid (∀ w1 bx, Below w.heap.size w w1 → w1.cell? ⟨bx, 0, none⟩ = some (.slice A n c) → ∀ k : Int, -1 ≤ k ∧ k ≤ 1000000 → Calls Try.prog 26 #[.int .i64 k, .pointer (some ⟨bx, 0, none⟩)] w1 fun e w' => e = .returned (.bool (hyA s k)) ∧ w1 = w') := fun w1 bx hb hx k hk =>
    at26 bx A n c s k w1 hx (h.below hb) hn hk
  have HE : Hid (edg s = (hyA s 0 || hyA s ((n : Int) - 1))) := by unfold edg; rw [hl]; rfl
  obtain ⟨v0, hv0⟩ : ∃ v, hyA s 0 = v := ⟨_, rfl⟩
  obtain ⟨v1, hv1⟩ : ∃ v, hyA s ((n : Int) - 1) = v := ⟨_, rfl⟩
  have H0 := Lib.hid hv0
  have H1 := Lib.hid hv1
  clear h hl hv0 hv1
  go_enter Try.func21, Try.ntmps21
  go_wp2_with (go_at_call 24; (with_reducible refine d.mono ?_); rintro e w1 ⟨bx, rfl, HB⟩)
  have q0 := HQ.out w1 bx HB.out.1 HB.out.2 0 (by omega)
  have q1 := HQ.out w1 bx HB.out.1 HB.out.2 ((n : Int) - 1) (by omega)
  rw [H0.out] at q0
  rw [H1.out] at q1
  clear d
  cases v0 with
  | true =>
    go_wp2_with (go_at_call 26; (with_reducible refine q0.mono ?_); rintro e w2 ⟨rfl, rfl⟩)
    go_ret
    exact ⟨ret_bool (by rw [HE.out, H0.out]; rfl), HB.out.1⟩
  | false =>
    go_wp2_with (go_at_call 26; (first | (with_reducible refine q0.mono ?_) | (with_reducible refine q1.mono ?_)); rintro e w2 ⟨rfl, rfl⟩)
    go_ret
    exact ⟨ret_bool (by rw [HE.out, H0.out, H1.out]; simp), HB.out.1⟩
set_option maxHeartbeats 1000000 in
theorem rsv22 (A : Option Addr) (n c : Nat) (s : List Int) (w : World) (h : Vals w A n (nums .i64 s)) (hn : n ≤ 1000000) :
    Calls Try.prog 22 #[.slice A n c] w fun e w' => e = .returned (.bool (rsv s)) ∧ Hid (Below w.heap.size w w') := by
  have d := of24 A n c w
  have HQ : Hid (∀ w1 bx, Below w.heap.size w w1 → w1.cell? ⟨bx, 0, none⟩ = some (.slice A n c) → ∀ k : Int, -1 ≤ k ∧ k ≤ 1000000 → Calls Try.prog 26 #[.int .i64 k, .pointer (some ⟨bx, 0, none⟩)] w1 fun e w' => e = .returned (.bool (hyA s k)) ∧ w1 = w') := fun w1 bx hb hx k hk =>
    at26 bx A n c s k w1 hx (h.below hb) hn hk
  have HE : Hid (rsv s = (hyA s 2 && hyA s 3)) := rfl
  obtain ⟨v0, hv0⟩ : ∃ v, hyA s 2 = v := ⟨_, rfl⟩
  obtain ⟨v1, hv1⟩ : ∃ v, hyA s 3 = v := ⟨_, rfl⟩
  have H0 := Lib.hid hv0
  have H1 := Lib.hid hv1
  clear h hv0 hv1
  go_enter Try.func22, Try.ntmps22
  go_wp2_with (go_at_call 24; (with_reducible refine d.mono ?_); rintro e w1 ⟨bx, rfl, HB⟩)
  have q0 := HQ.out w1 bx HB.out.1 HB.out.2 2 (by omega)
  have q1 := HQ.out w1 bx HB.out.1 HB.out.2 3 (by omega)
  rw [H0.out] at q0
  rw [H1.out] at q1
  clear d
  cases v0 with
  | false =>
    go_wp2_with (go_at_call 26; (with_reducible refine q0.mono ?_); rintro e w2 ⟨rfl, rfl⟩)
    go_ret
    exact ⟨ret_bool (by rw [HE.out, H0.out]; rfl), HB.out.1⟩
  | true =>
    go_wp2_with (go_at_call 26; (first | (with_reducible refine q0.mono ?_) | (with_reducible refine q1.mono ?_)); rintro e w2 ⟨rfl, rfl⟩)
    go_ret
    exact ⟨ret_bool (by rw [HE.out, H0.out, H1.out]; simp), HB.out.1⟩
end Go.Proofs.Ytohhkogjphgimaa
