/- The laws' plain and same. -/
import Derived.Test.YtfggoegofbghhaaRnew
import Derived.Test.YtfggoegofbghhaaBox
import Derived.Deep.RegionHeld3
import Derived.Deep.AppendLies
import Derived.BigQuiet
import Derived.Laws.StructEq
namespace Go.Proofs.Ytfggoegofbghhaa
open Go.RowKit

def PlnPost (ls : List Sp) (w : World) (e : Ending) (w' : World) : Prop :=
  Below w.heap.size w w' ∧ ∃ A ca, e = .returned (.slice A ls.length ca) ∧ (A = none → ca = 0) ∧ SAt w' A ls.length ls
theorem below_drew' {B : Nat} {a w : World} (h : Below B a w) : Below B a w.drew := ⟨h.os, h.tape, h.output, h.size, h.block⟩
def PlnRel (ls : List Sp) (w : World) (v i : Value) (wr : World) : Prop :=
  Below w.heap.size w wr ∧ ∃ k : Nat, i = .int .i64 k ∧ k ≤ ls.length ∧ wr.ownsRow w.heap.size 44 3 v k (spvs (ls.take k))
set_option maxRecDepth 100000 in
set_option maxHeartbeats 2000000 in
theorem plain11 (A : Option Addr) (n ca : Nat) (ls : List Sp) (w : World) (hV : SAt w A n ls) (hn : n ≤ 100000) :
    Calls Try.prog 11 #[.slice A n ca] w (PlnPost ls w) := by
  obtain ⟨i0, hi, hz0, hz1, hz2⟩ := info_parts info44
  have HV := Lib.hid hV
  have HL := Lib.hid hV.1
  clear hV
  go_enter Try.func11, Try.ntmps11
  go_wp2
  go_loopw [3, 4] (fun v i wr => PlnRel ls w v i wr) (fun _ i _ => n - (intOf i).toNat)
  case atStart => exact ⟨Below.refl _ _, 0, rfl, Nat.zero_le _, World.ownsRow_nil _ _ _ _⟩
  case round =>
    obtain ⟨hbel, k, rfl, hkn, hown⟩ := hrel
    rw [HL.out] at hkn
    obtain ⟨Ao, co, rfl, hAo⟩ := own_shape hown
    by_cases hlt : k < n
    · obtain ⟨b, off, rfl, hblt, hc⟩ := (HV.out.below hbel).2 (by omega)
      obtain ⟨s, hs⟩ := getSp (ls := ls) (k := k) (by rw [HL.out]; exact hlt)
      obtain ⟨h1, h2, h3⟩ := hc k s hs
      have hsn := take_snoc hs
      obtain ⟨T, hT⟩ : ∃ T, bs s.v = T := ⟨_, rfl⟩
      rw [hT] at h3 hsn
      have n2 : k + 1 ≤ 200000 := by omega
      have m3 := mx n2
      have m4 := my n2
      have HSN := Lib.hid hsn
      have hs1 := hbel.size
      have hbw : b < w.heap.size := by
        obtain ⟨b', off', e, hlt', -⟩ := HV.out.2 (by omega)
        cases e
        exact hlt'
      have ag : (Value.slice Ao k co).ownBlock ≠ some b := fun e => by have := (hown.lt b e).1; omega
      have hk0 : (0 : Int) ≤ (k : Int) := Int.natCast_nonneg _
      have hk1 : (k : Int) < (n : Int) := by omega
      have hend : ∀ (o : Obj) (w1 : World), ((wr.alloc o).drew).grownBy w1 (Value.slice Ao k co).ownBlock → Below w.heap.size w w1 := fun o w1 hg =>
        ((below_drew' (hbel.alloc hs1 o)).grown hg (by simp; omega) (fun r e => (hown.lt r e).1))
      have HEN := Lib.hid hend
      clear hc hs hT hsn hAo hend
      go_wp2_with fail
      go_region_held3 (fun w' => w'.cell? ⟨b, off + k * 3, none⟩ = some (.int .i64 s.a) ∧ w'.cell? ⟨b, off + k * 3 + 1, none⟩ = some (.int .i64 s.b) ∧ w'.cell? ⟨b, off + k * 3 + 2, none⟩ = some (.string T))
        (first
          | go_keep
          | (go_split_ands
             refine ⟨?_, ?_, ?_⟩
             · (rw [hgrow.cell_far _ (by simp; omega) (Ne.symm ag)]; assumption)
             · (rw [hgrow.cell_far _ (by simp; omega) (Ne.symm ag)]; assumption)
             · (rw [hgrow.cell_far _ (by simp; omega) (Ne.symm ag)]; assumption)))
        ((refine step_append_lies _ (by rfl) _ _ _ (by rfl) w.heap.size 44 i0 _ 3 32 Try.underlying29 hi hz0 hz1 hz2 rfl (by omega) (.slice Ao k co) k _ (by rfl) ((hown.alloc _).drew)
            ⟨wr.heap.size, 0, none⟩ 1 1 [.int .i64 s.a, .int .i64 s.b, .string T] (by rfl) (by rfl) (World.news_of_block (cs := #[.int .i64 s.a, .int .i64 s.b, .string T]) (t := 44) (fr := (0, 0)) (heap_alloc_new wr _)) (by simp [Value.oneCell'])
            (by omega) m3 m4 (by simp; omega) (wr.heap.size + 1) (by simp) ?_; intro gg cap w1 hown1 hgrow hat hlt1))
      have hb2 := HEN.out _ _ hgrow
      clear hgrow hat
      go_wp2
      go_roundw
      case rel => exact ⟨hb2, k + 1, by go_num, by rw [HL.out]; omega, by rw [HSN.out] at hown1; exact hown1⟩
      case measure => simp [intOf]; omega
    · have hke : k = n := by omega
      subst hke
      rw [List.take_of_length_le (by rw [HL.out]; exact Nat.le_refl _)] at hown
      have hSo : SAt wr Ao k ls := by
        have h := hown
        rw [← HL.out] at h
        obtain ⟨A', c', e, -, hS, -⟩ := own_sat h
        injection e with e1 e2 e3
        subst e1
        rw [HL.out] at hS
        exact hS
      have HS := Lib.hid hSo
      have HA := Lib.hid hAo
      clear hown hSo hAo
      go_wp2
      go_ret
      exact ⟨hbel, Ao, co, by rw [HL.out]; rfl, HA.out, by rw [HL.out]; exact HS.out⟩

theorem same_take {ls ms : List Sp} {k : Nat} {s t : Sp} (h : ls.take k = ms.take k) (hs : ls[k]? = some s) (ht : ms[k]? = some t) (e : s = t) : ls.take (k + 1) = ms.take (k + 1) := by
  subst e
  have h1 := List.getElem?_eq_some_iff.1 hs
  have h2 := List.getElem?_eq_some_iff.1 ht
  rw [List.take_succ_eq_append_getElem h1.1, List.take_succ_eq_append_getElem h2.1, h, h1.2, h2.2]
theorem sp_eq {s t : Sp} : s = t ↔ s.a = t.a ∧ s.b = t.b ∧ s.v = t.v := by
  cases s; cases t; simp
theorem neq44 (xa xb ya yb : Int) (T U : ByteArray) (w : World) : Sem.run Try.prog (binOp .neq 44 (.agg #[.int .i64 xa, .int .i64 xb, .string T]) (.agg #[.int .i64 ya, .int .i64 yb, .string U])) w = .ok (.bool (!(decide (xa = ya) && (decide (xb = yb) && (T.toList == U.toList))))) w := by
  have u3 := Try.underlying3
  have a3 := Try.isAgg3
  have z3 := Try.sizeOf3
  have u9 := Try.underlying9
  have a9 := Try.isAgg9
  have z9 := Try.sizeOf9
  have hS : Try.prog.underlying 44 = some (.struct (Try.prog.fieldsOf 44)) := by kernel_rfl
  have hp : Try.prog.stoodInHeld 44 = false := by kernel_rfl
  rw [run_neq_struct, show (10000 : Nat) = 9999 + 1 from rfl, run_equalIn_agg w 9999 44 _ _ hS hp]
  simp only [Program.fieldsOf, Try.underlying44]
  go_simp
  by_cases h1 : xa = ya <;> by_cases h2 : xb = yb <;> simp [h1, h2]
  by_cases h3 : T.toList = U.toList <;> simp [h3]
set_option maxRecDepth 100000 in
set_option maxHeartbeats 4000000 in
theorem same14 (A B : Option Addr) (n m ca cb : Nat) (ls ms : List Sp) (w : World) (hA : SAt w A n ls) (hB : SAt w B m ms) (hn : n ≤ 100000) (hm : m ≤ 100000) :
    Calls Try.prog 14 #[.slice A n ca, .slice B m cb] w fun e w' => e = .returned (.bool (decide (ls = ms))) ∧ ∃ q, w' = w.drewN q := by
  have HA := Lib.hid hA
  have HB := Lib.hid hB
  have HLA := Lib.hid hA.1
  have HLB := Lib.hid hB.1
  clear hA hB
  by_cases hnm : n = m
  · subst hnm
    go_enter Try.func14, Try.ntmps14
    go_wp2
    go_loopw [5] (fun i wr => ∃ k q : Nat, i = .int .i64 k ∧ k ≤ n ∧ wr = w.drewN q ∧ ls.take k = ms.take k) (fun i _ => n - (intOf i).toNat)
    case atStart => exact ⟨0, 0, rfl, Nat.zero_le _, rfl, by simp⟩
    case round =>
      obtain ⟨k, q, rfl, hkn, rfl, htk⟩ := hrel
      by_cases hlt : k < n
      · obtain ⟨b, off, rfl, -, hc⟩ := HA.out.2 (by omega)
        obtain ⟨b', off', rfl, -, hc'⟩ := HB.out.2 (by omega)
        obtain ⟨s, hs⟩ := getSp (ls := ls) (k := k) (by rw [HLA.out]; exact hlt)
        obtain ⟨t, ht⟩ := getSp (ls := ms) (k := k) (by rw [HLB.out]; exact hlt)
        obtain ⟨h1, h2, h3⟩ := hc k s hs
        obtain ⟨k1, k2, k3⟩ := hc' k t ht
        have HM := Lib.hid (same_take htk hs ht)
        have HN : Hid (s ≠ t → decide (ls = ms) = false) := Lib.hid fun h => by
          rw [decide_eq_false]
          exact fun e => h (by rw [e] at hs; rw [hs] at ht; injection ht)
        have hbe : ((bs s.v).toList == (bs t.v).toList) = decide (s.v = t.v) := by rw [bs_toList, bs_toList]; by_cases h : s.v = t.v <;> simp [h]
        have hneq := fun W => neq44 s.a s.b t.a t.b (bs s.v) (bs t.v) W
        obtain ⟨T, hT⟩ : ∃ T, bs s.v = T := ⟨_, rfl⟩
        obtain ⟨U, hU⟩ : ∃ U, bs t.v = U := ⟨_, rfl⟩
        rw [hbe] at hneq
        rw [hT] at h3 hneq
        rw [hU] at k3 hneq
        have hg44 : Try.prog.eqGuardType Try.prog.depth 44 = false := by kernel_rfl
        clear hc hc' htk hs ht hbe hT hU
        by_cases g : s = t
        · have e1 : (!(decide (s.a = t.a) && (decide (s.b = t.b) && decide (s.v = t.v)))) = false := by subst g; simp
          rw [e1] at hneq
          have HM2 := Lib.hid (HM.out g)
          clear g e1 HN HM
          go_wp2
          go_quiet (fail)
          go_wp2
          go_roundw
          case rel => exact ⟨k + 1, _, by go_num, by omega, rfl, HM2.out⟩
          case measure => simp [intOf]; omega
        · have e1 : (!(decide (s.a = t.a) && (decide (s.b = t.b) && decide (s.v = t.v)))) = true := by
            cases h : (decide (s.a = t.a) && (decide (s.b = t.b) && decide (s.v = t.v)))
            · rfl
            · rw [Bool.and_eq_true, Bool.and_eq_true] at h
              exact absurd (sp_eq.2 ⟨of_decide_eq_true h.1, of_decide_eq_true h.2.1, of_decide_eq_true h.2.2⟩) g
          rw [e1] at hneq
          have HN2 := Lib.hid (HN.out g)
          clear g e1 HN HM
          go_wp2
          go_quiet (fail)
          go_wp2
          go_ret
          exact ⟨by rw [HN2.out]; rfl, _, World.drewN_drewN _ _ _⟩
      · have hke : k = n := by omega
        subst hke
        rw [List.take_of_length_le (by rw [HLA.out]; exact Nat.le_refl _), List.take_of_length_le (by rw [HLB.out]; exact Nat.le_refl _)] at htk
        have HD : Hid (decide (ls = ms) = true) := Lib.hid (decide_eq_true htk)
        clear htk
        go_wp2
        go_ret
        exact ⟨by rw [HD.out]; rfl, _, rfl⟩
  · have hne : ls ≠ ms := fun e => hnm (by rw [← HLA.out, ← HLB.out, e])
    have HD : Hid (decide (ls = ms) = false) := Lib.hid (by simp [hne])
    have hnb : ((n : Int) == (m : Int)) = false := beq_false_of_ne (by omega)
    clear hne
    go_enter Try.func14, Try.ntmps14
    go_wp2
    go_ret
    exact ⟨by rw [HD.out]; rfl, 0, rfl⟩
end Go.Proofs.Ytfggoegofbghhaa
