/- The program's small functions at any text: isCapital, isGc, isBidi. -/
import Derived.Test.YtfmkhfjdihfppaaDoorRsm
import Derived.Laws.RangeAny
namespace Go.Proofs.YtfmkhfjdihfppaaDoor
open Go.RowKit

/-- A capital letter. -/
def capB (x : Int) : Bool := decide (65 ≤ x ∧ x ≤ 90)
set_option maxHeartbeats 1000000 in
theorem cap75 (x : Int) (w : World) : Calls Tryd.prog 75 #[.int .i32 x] w fun e w' => e = .returned (.bool (capB x)) ∧ w = w' := by
  by_cases h1 : 65 ≤ x
  · by_cases h2 : x ≤ 90
    · rw [show capB x = true from decide_eq_true ⟨h1, h2⟩]
      go_enter Tryd.func75, Tryd.ntmps75
      go_wp2
      go_ret
      exact ⟨rfl, rfl⟩
    · rw [show capB x = false from decide_eq_false (fun h => h2 h.2)]
      go_enter Tryd.func75, Tryd.ntmps75
      go_wp2
      go_ret
      exact ⟨rfl, rfl⟩
  · rw [show capB x = false from decide_eq_false (fun h => h1 h.1)]
    go_enter Tryd.func75, Tryd.ntmps75
    go_wp2
    go_ret
    exact ⟨rfl, rfl⟩

/-- A general category. -/
def gcB (l : List UInt8) : Bool := decide (l.length = 2) && (capB (oct l 0) && decide (97 ≤ oct l 1 ∧ oct l 1 ≤ 122))
set_option maxRecDepth 100000 in
set_option maxHeartbeats 2000000 in
theorem gc58 (l : List UInt8) (w : World) (hl : l.length ≤ 1000000) : Calls Tryd.prog 58 #[.string (bs l)] w fun e w' => e = .returned (.bool (gcB l)) ∧ w = w' := by
  have hsz := bs_size l
  have hx := bs_oct l 0
  have hxr := oct_range l 0
  have hy := bs_oct l 1
  have hyr := oct_range l 1
  obtain ⟨G, hG⟩ : ∃ G, gcB l = G := ⟨_, rfl⟩
  rw [hG]
  unfold gcB at hG
  obtain ⟨n, hn⟩ : ∃ n, l.length = n := ⟨_, rfl⟩
  obtain ⟨X, hX⟩ : ∃ X, oct l 0 = X := ⟨_, rfl⟩
  obtain ⟨Y, hY⟩ : ∃ Y, oct l 1 = Y := ⟨_, rfl⟩
  rw [hn] at hsz hl hG
  rw [hX] at hx hxr hG
  rw [hY] at hy hyr hG
  clear hn hX hY
  revert hsz hx hy
  generalize bs l = S
  intro hsz hx hy
  obtain ⟨hx0, hx1⟩ := hxr
  obtain ⟨hy0, hy1⟩ := hyr
  have c := fun w => cap75 X w
  by_cases h2 : n = 2
  · subst h2
    rw [show decide (2 = 2) = true from rfl, Bool.true_and] at hG
    cases hc : capB X with
    | false =>
      rw [hc, Bool.false_and] at hG
      rw [hc] at c
      subst hG
      have C := Lib.hid c
      clear hc c
      go_enter Tryd.func58, Tryd.ntmps58
      go_wp2_with (go_at_call 75; (with_reducible refine (C.out _).mono ?_); rintro e w' ⟨rfl, rfl⟩)
      go_ret
      exact ⟨rfl, rfl⟩
    | true =>
      rw [hc, Bool.true_and] at hG
      rw [hc] at c
      have C := Lib.hid c
      clear hc c
      by_cases g1 : 97 ≤ Y
      · by_cases g2 : Y ≤ 122
        · rw [show decide (97 ≤ Y ∧ Y ≤ 122) = true from decide_eq_true ⟨g1, g2⟩] at hG
          subst hG
          go_enter Tryd.func58, Tryd.ntmps58
          go_wp2_with (go_at_call 75; (with_reducible refine (C.out _).mono ?_); rintro e w' ⟨rfl, rfl⟩)
          go_ret
          exact ⟨rfl, rfl⟩
        · have g2b : decide (Y ≤ 122) = false := decide_eq_false g2
          rw [show decide (97 ≤ Y ∧ Y ≤ 122) = false from decide_eq_false (fun h => g2 h.2)] at hG
          subst hG
          go_enter Tryd.func58, Tryd.ntmps58
          go_wp2_with (go_at_call 75; (with_reducible refine (C.out _).mono ?_); rintro e w' ⟨rfl, rfl⟩)
          go_ret
          exact ⟨rfl, rfl⟩
      · rw [show decide (97 ≤ Y ∧ Y ≤ 122) = false from decide_eq_false (fun h => g1 h.1)] at hG
        subst hG
        go_enter Tryd.func58, Tryd.ntmps58
        go_wp2_with (go_at_call 75; (with_reducible refine (C.out _).mono ?_); rintro e w' ⟨rfl, rfl⟩)
        go_ret
        exact ⟨rfl, rfl⟩
  · rw [show decide (n = 2) = false from decide_eq_false h2, Bool.false_and] at hG
    subst hG
    have hb : ((n : Int) == 2) = false := beq_false_of_ne (by omega)
    clear hx hy c
    go_enter Tryd.func58, Tryd.ntmps58
    go_wp2
    go_ret
    exact ⟨rfl, rfl⟩

/-- A bidi class. -/
def bdB (l : List UInt8) : Bool := decide (1 ≤ l.length ∧ l.length ≤ 3) && caps l
theorem below_iter (w : World) (s : ByteArray) (p : Nat) : Below w.heap.size w (w.iter s p) := (Below.refl _ _).alloc (Nat.le_refl _) _
theorem next_low {P : Program} {w : World} {s : ByteArray} {k : Nat} {X : Int} (hk : k < s.size) (hX : ∀ h, ((s[k]'h).toNat : Int) = X) (h : X < 128) :
    ∀ ty, (Instr.next (.pointer (some ⟨w.heap.size, 0, none⟩)) true ty).run P (w.iter s k) = .ok (.tuple #[.bool true, .int .i64 k, .int .i32 X]) (w.iter s (k + 1)) := fun ty => by
  have e := hX hk
  rw [run_next_ascii w s k ty hk (by omega), e]
theorem next_high {P : Program} {w : World} {s : ByteArray} {k : Nat} {X : Int} (hk : k < s.size) (hX : ∀ h, ((s[k]'h).toNat : Int) = X) (h : ¬ X < 128) :
    ∃ (R : Int) (d : Nat), 128 ≤ R ∧ R ≤ 2147483647 ∧ ∀ ty, (Instr.next (.pointer (some ⟨w.heap.size, 0, none⟩)) true ty).run P (w.iter s k) = .ok (.tuple #[.bool true, .int .i64 k, .int .i32 R]) (w.iter s (k + d)) := by
  have e := hX hk
  have h1 := decode_high s k hk (by omega)
  have h2 := decode_le s k
  exact ⟨(Utf8.decode s k).1, (Utf8.decode s k).2, by omega, by omega, fun ty => run_next_any w s k ty hk⟩
set_option maxRecDepth 100000 in
set_option maxHeartbeats 2000000 in
theorem bd59 (l : List UInt8) (w : World) (hl : l.length ≤ 1000000) : Calls Tryd.prog 59 #[.string (bs l)] w fun e w' => e = .returned (.bool (bdB l)) ∧ Below w.heap.size w w' := by
  have hsz := bs_size l
  obtain ⟨n, hn⟩ : ∃ n, l.length = n := ⟨_, rfl⟩
  have hB : bdB l = (decide (1 ≤ n ∧ n ≤ 3) && caps l) := by unfold bdB; rw [hn]
  rw [hn] at hsz hl
  have HN := Lib.hid hn
  have HB := Lib.hid hB
  have HX := Lib.hid (fun k => bs_oct l k)
  clear hn hB
  obtain ⟨S, hS⟩ : ∃ S, bs l = S := ⟨_, rfl⟩
  rw [hS] at hsz HX ⊢
  clear hS
  go_enter Tryd.func59, Tryd.ntmps59
  go_wp2
  go_loopw [2] (fun v wr => v = .bool false ∧ ∃ k : Nat, wr = w.iter S k ∧ k ≤ n ∧ caps l = caps (l.drop k)) (fun _ wr => n - wr.iterPos w.heap.size)
  case atStart => exact ⟨rfl, 0, rfl, Nat.zero_le _, rfl⟩
  case round =>
    obtain ⟨rfl, k, rfl, hkn, hv⟩ := hrel
    by_cases hlt : k < n
    · have hlt' : k < l.length := by rw [HN.out]; exact hlt
      have hx := HX.out k
      have hxr := oct_range l k
      rw [caps_drop hlt'] at hv
      obtain ⟨X, hX⟩ : ∃ X, oct l k = X := ⟨_, rfl⟩
      rw [hX] at hx hv hxr
      clear hX hlt'
      obtain ⟨hx0, hx1⟩ := hxr
      have hks : k < S.size := by rw [hsz]; exact hlt
      by_cases hasc : X < 128
      · have hnx := next_low (P := Tryd.prog) (w := w) hks hx hasc
        have c := fun w => cap75 X w
        unfold capB at c
        cases hc : decide (65 ≤ X ∧ X ≤ 90) with
        | true =>
          rw [hc, Bool.true_and] at hv
          rw [hc] at c
          have HV := Lib.hid hv
          have C := Lib.hid c
          clear hv hx hc c hks
          go_wp2_with (go_at_call 75; (with_reducible refine (C.out _).mono ?_); rintro e w' ⟨rfl, rfl⟩)
          go_roundw
          case rel => exact ⟨rfl, k + 1, rfl, by omega, HV.out⟩
          case measure => simp; omega
        | false =>
          rw [hc, Bool.false_and] at hv
          rw [hc] at c
          have HV := Lib.hid hv
          have C := Lib.hid c
          clear hv hx hc c hks
          go_wp2_with (go_at_call 75; (with_reducible refine (C.out _).mono ?_); rintro e w' ⟨rfl, rfl⟩)
          go_ret
          exact ⟨by rw [HB.out, HV.out, Bool.and_false]; rfl, below_iter w S _⟩
      · obtain ⟨R, d, hR1, hR2, hnx⟩ := next_high (P := Tryd.prog) (w := w) hks hx hasc
        rw [show decide (65 ≤ X ∧ X ≤ 90) = false from decide_eq_false (by omega), Bool.false_and] at hv
        have c := fun w => cap75 R w
        rw [show capB R = false from decide_eq_false (by omega)] at c
        have HV := Lib.hid hv
        have C := Lib.hid c
        clear hv hx c hks
        go_wp2_with (go_at_call 75; (with_reducible refine (C.out _).mono ?_); rintro e w' ⟨rfl, rfl⟩)
        go_ret
        exact ⟨by rw [HB.out, HV.out, Bool.and_false]; rfl, below_iter w S _⟩
    · have hke : k = n := by omega
      subst hke
      rw [List.drop_of_length_le (by rw [HN.out]; exact Nat.le_refl _)] at hv
      have hv : caps l = true := hv
      have hB := HB.out
      rw [hv, Bool.and_true] at hB
      have HB2 := Lib.hid hB
      have hks : ¬ k < S.size := by rw [hsz]; exact hlt
      have hnx : ∀ ty, (Instr.next (.pointer (some ⟨w.heap.size, 0, none⟩)) true ty).run Tryd.prog (w.iter S k) = .ok (.tuple #[.bool false]) (w.iter S k) := fun ty => run_next_end w S k ty hks
      clear hv hB HB hks hlt
      by_cases h1 : 1 ≤ k
      · by_cases h3 : k ≤ 3
        · rw [show decide (1 ≤ k ∧ k ≤ 3) = true from decide_eq_true ⟨h1, h3⟩] at HB2
          have h3i : decide ((k : Int) ≤ 3) = true := decide_eq_true (by omega)
          go_wp2
          go_ret
          exact ⟨by rw [HB2.out]; rfl, below_iter w S _⟩
        · rw [show decide (1 ≤ k ∧ k ≤ 3) = false from decide_eq_false (fun h => h3 h.2)] at HB2
          have h3i : decide ((k : Int) ≤ 3) = false := decide_eq_false (by omega)
          go_wp2
          go_ret
          exact ⟨by rw [HB2.out]; rfl, below_iter w S _⟩
      · rw [show decide (1 ≤ k ∧ k ≤ 3) = false from decide_eq_false (fun h => h1 h.1)] at HB2
        obtain rfl : k = 0 := by omega
        go_wp2
        go_ret
        exact ⟨by rw [HB2.out]; rfl, below_iter w S _⟩
end Go.Proofs.YtfmkhfjdihfppaaDoor
