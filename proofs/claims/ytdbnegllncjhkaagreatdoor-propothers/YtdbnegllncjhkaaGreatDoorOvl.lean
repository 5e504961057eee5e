/- Plain words: a table made at once of spans in order; no program is spoken of. -/
/- What the program's overlap hands back; a copy of spans. -/
import Derived.Test.YtdbnegllncjhkaaGreatDoorRsort
import Derived.Test.YtdbnegllncjhkaaGreatDoorSrt
import Derived.Test.YtdbnegllncjhkaaGreatDoorBox
import Derived.BigQuiet
namespace Go.Proofs.YtdbnegllncjhkaaGreatDoor
open Go.RowKit

def Apart (ms : List Sp) : Prop := ∀ (j : Nat) (s t : Sp), ms[j]? = some s → ms[j + 1]? = some t → s.b < t.a
theorem fit_of {s : Sp} (h : check [] s = 0) : Fit s := (check_ok.1 h).1
theorem rises_of {ms : List Sp} (hl : Low ms) (ha : Apart ms) : Rises ms := by
  refine List.pairwise_iff_getElem.2 fun i j hi hj hij => ?_
  have h1 := ha i ms[i] ms[i + 1] (List.getElem?_eq_getElem hi) (List.getElem?_eq_getElem (by omega))
  rcases Nat.lt_or_eq_of_le (show i + 1 ≤ j from hij) with h | h
  · have := List.pairwise_iff_getElem.1 hl (i + 1) j (by omega) hj h
    omega
  · subst h; exact h1
theorem apart_of_rises {ms : List Sp} (hr : Rises ms) : ms.Pairwise (fun s t => meets s t = false) := by
  refine hr.imp fun {s t} h => ?_
  unfold meets
  rw [decide_eq_false (show ¬ t.a ≤ s.b by omega), Bool.and_false]
theorem new_ok {ls ms : List Sp} (hf : ∀ s ∈ ls, check [] s = 0) (hp : ms.Perm ls) (hl : Low ms) (ha : Apart ms) : addAll [] ls = .ok ms ∧ Good ms := by
  have hr := rises_of hl ha
  have hfm : ∀ s ∈ ms, Fit s := fun s hs => fit_of (hf s (hp.mem_iff.1 hs))
  have hg : Good ms := ⟨hr, hfm⟩
  obtain ⟨r, hr2⟩ := (addAll_ok ms []).2 ⟨hfm, fun s _ t ht => (by cases ht), apart_of_rises hr⟩
  obtain ⟨k1, k2, _⟩ := addAll_good ms [] r good_nil hr2
  have e : r = ms := good_eq r ms k1 hg (fun t => by rw [k2 t]; simp)
  subst e
  exact ⟨addAll_perm hp hr2, hg⟩
theorem addAll_append : ∀ (l m acc r : List Sp), addAll acc l = .ok r → addAll acc (l ++ m) = addAll r m
  | [], m, acc, r, h => by rw [addAll] at h; cases h; rfl
  | s :: l, m, acc, r, h => by
    rw [addAll] at h
    rw [List.cons_append, addAll]
    split at h
    · rename_i hc
      rw [if_pos hc]
      exact addAll_append l m _ r h
    · cases h
theorem addAll_fails : ∀ (l m acc : List Sp) (x : Int), addAll acc l = .error x → addAll acc (l ++ m) = .error x
  | [], m, acc, x, h => by rw [addAll] at h; cases h
  | s :: l, m, acc, x, h => by
    rw [addAll] at h
    rw [List.cons_append, addAll]
    split at h
    · rename_i hc
      rw [if_pos hc]
      exact addAll_fails l m _ x h
    · rename_i hc
      rw [if_neg hc]
      exact h
theorem check_fit {l : List Sp} {s : Sp} (h : check [] s = 0) : check l s = 0 ∨ check l s = 15 := by
  obtain ⟨⟨h1, h2, h3, h4⟩, -⟩ := check_ok.1 h
  unfold check
  rw [if_neg (by omega), if_neg h4]
  split
  · exact .inr rfl
  · exact .inl rfl
theorem check_unfit {l : List Sp} {s : Sp} (h : check [] s ≠ 0) : check l s = check [] s := by
  unfold check at h ⊢
  split
  · rfl
  · rename_i h1
    rw [if_neg h1] at h
    split
    · rfl
    · rename_i h2
      rw [if_neg h2] at h
      exact absurd rfl h
theorem addAll_15 : ∀ (l acc : List Sp) (x : Int), (∀ s ∈ l, check [] s = 0) → addAll acc l = .error x → x = 15
  | [], acc, x, _, h => by rw [addAll] at h; cases h
  | s :: l, acc, x, hf, h => by
    rw [addAll] at h
    split at h
    · exact addAll_15 l _ x (fun t ht => hf t (List.mem_cons_of_mem _ ht)) h
    · rename_i hc
      cases h
      rcases check_fit (l := acc) (hf s (List.mem_cons_self ..)) with e | e
      · exact absurd e hc
      · exact e
theorem new_twice {ls ms m : List Sp} {j : Nat} {s t : Sp} (hf : ∀ s ∈ ls, check [] s = 0) (hp : ms.Perm ls) (hl : Low ms) (hs : ms[j]? = some s) (ht : ms[j + 1]? = some t) (h : t.a ≤ s.b) : addAll [] (ls ++ m) = .error 15 := by
  cases hr : addAll [] ls with
  | error x =>
    have := addAll_15 ls [] x hf hr
    subst this
    exact addAll_fails ls m [] 15 hr
  | ok r =>
    exfalso
    obtain ⟨-, -, h3⟩ := (addAll_ok ls []).1 ⟨r, hr⟩
    have h4 : ms.Pairwise (fun s t => meets s t = false) := hp.symm.pairwise h3 (fun {a b} hab => by rw [meets_comm]; exact hab)
    have ei := List.getElem?_eq_some_iff.1 hs
    have ej := List.getElem?_eq_some_iff.1 ht
    have h5 := List.pairwise_iff_getElem.1 h4 j (j + 1) ei.1 ej.1 (by omega)
    have h6 := List.pairwise_iff_getElem.1 hl j (j + 1) ei.1 ej.1 (by omega)
    rw [ei.2, ej.2] at h5 h6
    have h7 := (fit_of (hf t (hp.mem_iff.1 (List.mem_of_getElem? ht)))).2.2.1
    unfold meets at h5
    rw [decide_eq_true (show s.a ≤ t.b by omega), decide_eq_true h] at h5
    cases h5
theorem new_err {ls ms : List Sp} {k : Nat} {s : Sp} (hf : ∀ t ∈ ls.take k, check [] t = 0) (hp : ms.Perm (ls.take k)) (hl : Low ms) (ha : Apart ms) (hs : ls[k]? = some s) (hx : check [] s ≠ 0) : addAll [] ls = .error (check [] s) := by
  have h1 := (new_ok hf hp hl ha).1
  have hlt := (List.getElem?_eq_some_iff.1 hs).1
  have e : ls[k] = s := (List.getElem?_eq_some_iff.1 hs).2
  have h2 := addAll_append (ls.take k) (ls.drop k) [] ms h1
  rw [List.take_append_drop, List.drop_eq_getElem_cons hlt, e, addAll, check_unfit hx, if_neg hx] at h2
  exact h2
end Go.Proofs.YtdbnegllncjhkaaGreatDoor

namespace Go.Proofs.YtdbnegllncjhkaaGreatDoor
open Go.RowKit Go.Sort Go.Shelf

def OvlPost (ms : List Sp) (w : World) (e : Ending) (w' : World) : Prop :=
  Below w.heap.size w w' ∧ ((e = .returned (.bool false) ∧ Apart ms) ∨ (e = .returned (.bool true) ∧ ∃ (j : Nat) (s t : Sp), ms[j]? = some s ∧ ms[j + 1]? = some t ∧ t.a ≤ s.b))
def OvlRel (ms : List Sp) (w : World) (i : Value) (wr : World) : Prop :=
  Below w.heap.size w wr ∧ ∃ k : Nat, i = .int .i64 k ∧ k ≤ ms.length ∧ ∀ (j : Nat) (s t : Sp), j + 1 < k → ms[j]? = some s → ms[j + 1]? = some t → s.b < t.a
theorem apart_more {ms : List Sp} {k : Nat} {s t : Sp} (h : ∀ (j : Nat) (s t : Sp), j + 1 < k + 1 → ms[j]? = some s → ms[j + 1]? = some t → s.b < t.a) (hs : ms[k]? = some s) (ht : ms[k + 1]? = some t) (hlt : s.b < t.a) :
    ∀ (j : Nat) (s t : Sp), j + 1 < k + 1 + 1 → ms[j]? = some s → ms[j + 1]? = some t → s.b < t.a := by
  intro j s' t' hj hs' ht'
  by_cases e : j = k
  · subst e
    rw [hs] at hs'; rw [ht] at ht'
    cases hs'; cases ht'
    exact hlt
  · exact h j s' t' (by omega) hs' ht'
set_option maxRecDepth 100000 in
set_option maxHeartbeats 2000000 in
theorem overlap29 (A : Option Addr) (n ca : Nat) (ms : List Sp) (w : World) (hV : SAt w A n ms) (hn : n ≤ 100000) :
    Calls Tryz.prog 52 #[.slice A n ca] w (OvlPost ms w) := by
  have HV := Lib.hid hV
  have HL := Lib.hid hV.1
  clear hV
  go_enter Tryz.func52, Tryz.ntmps52
  go_wp2
  go_loopw [7] (fun i wr => OvlRel ms w i wr) (fun i _ => n - (intOf i).toNat)
  case atStart => exact ⟨Below.refl _ _, 0, rfl, Nat.zero_le _, fun j s t hj => absurd hj (by omega)⟩
  case round =>
    obtain ⟨hbel, k, rfl, hkn, hap⟩ := hrel
    rw [HL.out] at hkn
    by_cases hlt : k < n
    · obtain ⟨b, off, rfl, hblt, hc⟩ := (HV.out.below hbel).2 (by omega)
      obtain ⟨t, ht⟩ := getSp (ls := ms) (k := k) (by rw [HL.out]; exact hlt)
      obtain ⟨h1, h2, h3⟩ := hc k t ht
      have HB := Lib.hid (fun o => hbel.alloc hbel.size o)
      obtain ⟨T, hT⟩ : ∃ T, bs t.v = T := ⟨_, rfl⟩
      rw [hT] at h3
      cases k with
      | zero =>
        clear hc hap hT ht
        simp only [Nat.zero_mul, Nat.add_zero] at h1 h2 h3
        have g0 : decide ((0 : Int) < ((0 : Nat) : Int)) = false := by simp
        go_wp2
        go_quiet (fail)
        go_wp2
        go_roundw
        case rel => exact ⟨below_drewN (HB.out _) _, 1, by go_num, by rw [HL.out]; omega, fun j s t hj => absurd hj (by omega)⟩
        case measure => simp [intOf]; omega
      | succ k =>
        obtain ⟨s, hs⟩ := getSp (ls := ms) (k := k) (by rw [HL.out]; omega)
        obtain ⟨k1, k2, k3⟩ := hc k s hs
        have HM := Lib.hid (apart_more hap hs ht)
        have HS := Lib.hid hs
        have HT := Lib.hid ht
        have k2' := fun o => box_cell o k2
        clear hc hap hT ht hs
        by_cases g : t.a ≤ s.b
        · go_wp2
          have e1 := k2' (.cells #[.int .i64 t.a, .int .i64 t.b, .string T] 59)
          have e2 : (wr.alloc (.cells #[.int .i64 t.a, .int .i64 t.b, .string T] 59)).cell? ⟨wr.heap.size, 0, none⟩ = some (.int .i64 t.a) := by simp
          have e3 := HB.out (.cells #[.int .i64 t.a, .int .i64 t.b, .string T] 59)
          obtain ⟨W, hW⟩ : ∃ W, wr.alloc (.cells #[.int .i64 t.a, .int .i64 t.b, .string T] 59) = W := ⟨_, rfl⟩
          obtain ⟨l, hl⟩ : ∃ l, wr.heap.size = l := ⟨_, rfl⟩
          rw [hW] at e1 e2 e3 ⊢
          rw [hl] at e2 ⊢
          clear hW hl h1 h2 h3 k1 k2 k3 k2'
          have g0 : (0 : Int) < ((k : Int) + 1) := by omega
          go_quiet (fail)
          go_wp2
          go_ret
          exact ⟨below_drewN e3 _, .inr ⟨rfl, k, s, t, HS.out, HT.out, g⟩⟩
        · have g' : s.b < t.a := by omega
          go_wp2
          have e1 := k2' (.cells #[.int .i64 t.a, .int .i64 t.b, .string T] 59)
          have e2 : (wr.alloc (.cells #[.int .i64 t.a, .int .i64 t.b, .string T] 59)).cell? ⟨wr.heap.size, 0, none⟩ = some (.int .i64 t.a) := by simp
          have e3 := HB.out (.cells #[.int .i64 t.a, .int .i64 t.b, .string T] 59)
          obtain ⟨W, hW⟩ : ∃ W, wr.alloc (.cells #[.int .i64 t.a, .int .i64 t.b, .string T] 59) = W := ⟨_, rfl⟩
          obtain ⟨l, hl⟩ : ∃ l, wr.heap.size = l := ⟨_, rfl⟩
          rw [hW] at e1 e2 e3 ⊢
          rw [hl] at e2 ⊢
          clear hW hl h1 h2 h3 k1 k2 k3 k2'
          have g0 : (0 : Int) < ((k : Int) + 1) := by omega
          go_quiet (fail)
          go_wp2
          go_roundw
          case rel => exact ⟨below_drewN e3 _, k + 1 + 1, by go_num, by rw [HL.out]; omega, HM.out g'⟩
          case measure => simp [intOf]; omega
    · have hke : k = n := by omega
      subst hke
      have HA : Hid (Apart ms) := Lib.hid fun j s t hs ht => hap j s t (by have := (List.getElem?_eq_some_iff.1 ht).1; rw [HL.out] at this; exact this) hs ht
      clear hap
      go_wp2
      go_ret
      exact ⟨hbel, .inl ⟨rfl, HA.out⟩⟩
end Go.Proofs.YtdbnegllncjhkaaGreatDoor
