/- What the program's overlap hands back; a copy of spans. -/
import Derived.Test.YtfggoegofbghhaaSrt
import Derived.Test.YtfggoegofbghhaaPlan
import Derived.Test.YtfggoegofbghhaaRsort
import Derived.Test.YtfggoegofbghhaaBox
import Derived.BigQuiet
namespace Go.Proofs.Ytfggoegofbghhaa
open Go.RowKit Go.Sort Go.Shelf

def OvlPost (ms : List Sp) (w : World) (e : Ending) (w' : World) : Prop :=
  Below w.heap.size w w' ∧ ((e = .returned (.bool false) ∧ Apart ms) ∨ (e = .returned (.bool true) ∧ ∃ (j : Nat) (s t : Sp), ms[j]? = some s ∧ ms[j + 1]? = some t ∧ t.a ≤ s.b))
def OvlRel (ms : List Sp) (w : World) (i : Value) (wr : World) : Prop :=
  Below w.heap.size w wr ∧ ∃ k : Nat, i = .int .i64 k ∧ k ≤ ms.length ∧ ∀ (j : Nat) (s t : Sp), j + 1 < k → ms[j]? = some s → ms[j + 1]? = some t → s.b < t.a
theorem apart_more {ms : List Sp} {k : Nat} {s t : Sp} (h : ∀ (j : Nat) (s t : Sp), j + 1 < k + 1 → ms[j]? = some s → ms[j + 1]? = some t → s.b < t.a) (hs : ms[k]? = some s) (ht : ms[k + 1]? = some t) (hlt : s.b < t.a) :
    ∀ (j : Nat) (s t : Sp), j + 1 < k + 1 + 1 → ms[j]? = some s → ms[j + 1]? = some t → s.b < t.a := by
  intro j s' t' hj hs' ht'
  by_cases e : j = k
  · subst e
    rw [hs] at hs'; rw [ht] at ht'
    cases hs'; cases ht'
    exact hlt
  · exact h j s' t' (by omega) hs' ht'
set_option maxRecDepth 100000 in
set_option maxHeartbeats 2000000 in
theorem overlap29 (A : Option Addr) (n ca : Nat) (ms : List Sp) (w : World) (hV : SAt w A n ms) (hn : n ≤ 100000) :
    Calls Try.prog 29 #[.slice A n ca] w (OvlPost ms w) := by
  have HV := Lib.hid hV
  have HL := Lib.hid hV.1
  clear hV
  go_enter Try.func29, Try.ntmps29
  go_wp2
  go_loopw [7] (fun i wr => OvlRel ms w i wr) (fun i _ => n - (intOf i).toNat)
  case atStart => exact ⟨Below.refl _ _, 0, rfl, Nat.zero_le _, fun j s t hj => absurd hj (by omega)⟩
  case round =>
    obtain ⟨hbel, k, rfl, hkn, hap⟩ := hrel
    rw [HL.out] at hkn
    by_cases hlt : k < n
    · obtain ⟨b, off, rfl, hblt, hc⟩ := (HV.out.below hbel).2 (by omega)
      obtain ⟨t, ht⟩ := getSp (ls := ms) (k := k) (by rw [HL.out]; exact hlt)
      obtain ⟨h1, h2, h3⟩ := hc k t ht
      have HB := Lib.hid (fun o => hbel.alloc hbel.size o)
      obtain ⟨T, hT⟩ : ∃ T, bs t.v = T := ⟨_, rfl⟩
      rw [hT] at h3
      cases k with
      | zero =>
        clear hc hap hT ht
        simp only [Nat.zero_mul, Nat.add_zero] at h1 h2 h3
        have g0 : decide ((0 : Int) < ((0 : Nat) : Int)) = false := by simp
        go_wp2
        go_quiet (fail)
        go_wp2
        go_roundw
        case rel => exact ⟨below_drewN (HB.out _) _, 1, by go_num, by rw [HL.out]; omega, fun j s t hj => absurd hj (by omega)⟩
        case measure => simp [intOf]; omega
      | succ k =>
        obtain ⟨s, hs⟩ := getSp (ls := ms) (k := k) (by rw [HL.out]; omega)
        obtain ⟨k1, k2, k3⟩ := hc k s hs
        have HM := Lib.hid (apart_more hap hs ht)
        have HS := Lib.hid hs
        have HT := Lib.hid ht
        have k2' := fun o => box_cell o k2
        clear hc hap hT ht hs
        by_cases g : t.a ≤ s.b
        · go_wp2
          have e1 := k2' (.cells #[.int .i64 t.a, .int .i64 t.b, .string T] 41)
          have e2 : (wr.alloc (.cells #[.int .i64 t.a, .int .i64 t.b, .string T] 41)).cell? ⟨wr.heap.size, 0, none⟩ = some (.int .i64 t.a) := by simp
          have e3 := HB.out (.cells #[.int .i64 t.a, .int .i64 t.b, .string T] 41)
          obtain ⟨W, hW⟩ : ∃ W, wr.alloc (.cells #[.int .i64 t.a, .int .i64 t.b, .string T] 41) = W := ⟨_, rfl⟩
          obtain ⟨l, hl⟩ : ∃ l, wr.heap.size = l := ⟨_, rfl⟩
          rw [hW] at e1 e2 e3 ⊢
          rw [hl] at e2 ⊢
          clear hW hl h1 h2 h3 k1 k2 k3 k2'
          have g0 : (0 : Int) < ((k : Int) + 1) := by omega
          go_quiet (fail)
          go_wp2
          go_ret
          exact ⟨below_drewN e3 _, .inr ⟨rfl, k, s, t, HS.out, HT.out, g⟩⟩
        · have g' : s.b < t.a := by omega
          go_wp2
          have e1 := k2' (.cells #[.int .i64 t.a, .int .i64 t.b, .string T] 41)
          have e2 : (wr.alloc (.cells #[.int .i64 t.a, .int .i64 t.b, .string T] 41)).cell? ⟨wr.heap.size, 0, none⟩ = some (.int .i64 t.a) := by simp
          have e3 := HB.out (.cells #[.int .i64 t.a, .int .i64 t.b, .string T] 41)
          obtain ⟨W, hW⟩ : ∃ W, wr.alloc (.cells #[.int .i64 t.a, .int .i64 t.b, .string T] 41) = W := ⟨_, rfl⟩
          obtain ⟨l, hl⟩ : ∃ l, wr.heap.size = l := ⟨_, rfl⟩
          rw [hW] at e1 e2 e3 ⊢
          rw [hl] at e2 ⊢
          clear hW hl h1 h2 h3 k1 k2 k3 k2'
          have g0 : (0 : Int) < ((k : Int) + 1) := by omega
          go_quiet (fail)
          go_wp2
          go_roundw
          case rel => exact ⟨below_drewN e3 _, k + 1 + 1, by go_num, by rw [HL.out]; omega, HM.out g'⟩
          case measure => simp [intOf]; omega
    · have hke : k = n := by omega
      subst hke
      have HA : Hid (Apart ms) := Lib.hid fun j s t hs ht => hap j s t (by have := (List.getElem?_eq_some_iff.1 ht).1; rw [HL.out] at this; exact this) hs ht
      clear hap
      go_wp2
      go_ret
      exact ⟨hbel, .inl ⟨rfl, HA.out⟩⟩
end Go.Proofs.Ytfggoegofbghhaa
