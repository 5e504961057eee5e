/- What the program's Text, and the document's own, hand back for any numbers. -/
import Derived.Test.YtlknffldlnhfdaaDoorTxt
namespace Go.Proofs.YtlknffldlnhfdaaDoor
open Go.RowKit

def okN (zs : List Int) : Prop := ∀ z ∈ zs, 0 ≤ z ∧ z ≤ 1114111
def toN (zs : List Int) : List Nat := zs.map Int.toNat
/-- A sequence's text; empty, if one isn't a code point. -/
noncomputable def textOf (zs : List Int) : List UInt8 := open Classical in if okN zs then joinT false (toN zs) else []
theorem textOf_yes {zs : List Int} (h : okN zs) : textOf zs = joinT false (toN zs) := by
  unfold textOf
  rw [if_pos h]
theorem textOf_no {zs : List Int} (h : ¬ okN zs) : textOf zs = [] := by
  unfold textOf
  rw [if_neg h]
theorem okN_snoc {zs : List Int} {k : Nat} (hk : k < zs.length) (h : okN (zs.take k)) (h0 : 0 ≤ zs.getD k 0) (h1 : zs.getD k 0 ≤ 1114111) : okN (zs.take (k + 1)) := by
  intro z hz
  rw [List.take_succ_eq_append_getElem hk, List.mem_append, List.mem_singleton] at hz
  rcases hz with hz | rfl
  · exact h z hz
  · rw [List.getD_eq_getElem?_getD, List.getElem?_eq_getElem hk] at h0 h1
    exact ⟨h0, h1⟩
theorem okN_not {zs : List Int} {k : Nat} (hk : k < zs.length) (h : ¬ (0 ≤ zs.getD k 0 ∧ zs.getD k 0 ≤ 1114111)) : ¬ okN zs := by
  intro h'
  refine h (h' _ ?_)
  simp [List.getD_eq_getElem?_getD, List.getElem?_eq_getElem hk]
theorem join_snoc {zs : List Int} {k c : Nat} (hk : k < zs.length) (hc : zs.getD k 0 = c) : joinT false (toN (zs.take (k + 1))) = joinT false (toN (zs.take k)) ++ ((if 0 < k then [32] else []) ++ hexT c) := by
  rw [List.take_succ_eq_append_getElem hk, toN, List.map_append, List.map_singleton, joinT_snoc]
  have e : zs[k].toNat = c := by
    rw [List.getD_eq_getElem?_getD, List.getElem?_eq_getElem hk] at hc
    simp at hc
    omega
  rw [e]
  have e2 : (false || !((zs.take k).map Int.toNat).isEmpty) = decide (0 < k) := by
    rcases Nat.eq_zero_or_pos k with rfl | h
    · simp
    · have : ((zs.take k).map Int.toNat).isEmpty = false := by
        cases hh : (zs.take k).map Int.toNat with
        | nil =>
          exfalso
          have := congrArg List.length hh
          rw [List.length_map, List.length_take, List.length_nil] at this
          omega
        | cons _ _ => rfl
      rw [this, decide_eq_true h]
      rfl
  rw [e2]
  by_cases h : 0 < k
  · rw [if_pos h, if_pos (decide_eq_true h)]
    rfl
  · rw [if_neg h, if_neg (by simp [h])]
    rfl
theorem join_len : ∀ (b : Bool) (s : List Nat), (joinT b s).length ≤ s.length * 7
  | _, [] => by simp [joinT]
  | b, c :: s => by
    have ih := join_len true s
    have h := hexT_length c
    have h2 := (wid_range c).2
    rw [joinT, List.length_append, List.length_append, List.length_cons]
    have : (if b = true then [32] else ([] : List UInt8)).length ≤ 1 := by split <;> simp
    omega

/-- What has been gathered when number k comes. -/
def TxtRel (zs : List Int) (w : World) (v i : Value) (wr : World) : Prop :=
  Below w.heap.size w wr ∧ ∃ (k : Nat), i = .int .i64 k ∧ k ≤ zs.length ∧ okN (zs.take k) ∧ wr.ownsRow w.heap.size 5 1 v (joinT false (toN (zs.take k))).length (u8s (joinT false (toN (zs.take k))))

set_option maxRecDepth 100000 in
set_option maxHeartbeats 4000000 in
theorem text18 (A : Option Addr) (n ca : Nat) (zs : List Int) (w : World) (hA : Vals w A n (nums .i64 zs)) (hn : n ≤ 1000) :
    Calls Tryd.prog 18 #[.slice A n ca] w fun e w' => e = .returned (.string (bs (textOf zs))) ∧ Below w.heap.size w w' := by
  obtain ⟨i0, hi, hz0, hz1, hz2⟩ := info_parts info5
  have hl : zs.length = n := by have := hA.1; unfold nums at this; rwa [List.length_map] at this
  have HA := Lib.hid hA
  have HZ := Lib.hid hl
  clear hA hl
  go_enter Tryd.func18, Tryd.ntmps18
  go_wp2
  go_loopw [3, 8] (fun v i wr => TxtRel zs w v i wr) (fun _ i _ => n - (intOf i).toNat)
  case atStart => exact ⟨Below.refl _ _, 0, rfl, Nat.zero_le _, by intro z hz; simp at hz, World.ownsRow_nil _ _ _ _⟩
  case round =>
    obtain ⟨hb, k, rfl, hkz, hok, hown⟩ := hrel
    by_cases hlt : k < n
    · have hkz' : k < zs.length := by rw [HZ.out]; exact hlt
      obtain ⟨b, off, rfl, hbl, hc⟩ := HA.out.2 (by omega)
      have hck : wr.cell? ⟨b, off + k, none⟩ = some (.int .i64 (zs.getD k 0)) := (hb.cell (p := ⟨b, off + k, none⟩) hbl).trans (hc k _ (nums_get hkz'))
      clear hc
      by_cases hv : 0 ≤ zs.getD k 0 ∧ zs.getD k 0 ≤ 1114111
      · obtain ⟨c, hcz⟩ : ∃ c : Nat, zs.getD k 0 = c := ⟨(zs.getD k 0).toNat, by omega⟩
        have hok' := okN_snoc hkz' hok hv.1 hv.2
        have hjs := join_snoc hkz' hcz
        have hjl := join_len false (toN (zs.take k))
        have htl : (toN (zs.take k)).length ≤ k := by unfold toN; rw [List.length_map]; exact List.length_take_le _ _
        have hc1 : c ≤ 1114111 := by have := hv.2; omega
        have hwc := hexT_length c
        rw [hcz] at hck
        obtain ⟨x, hx⟩ : ∃ x, joinT false (toN (zs.take k)) = x := ⟨_, rfl⟩
        rw [hx] at hown hjs hjl
        have HJS := Lib.hid hjs
        have HOK := Lib.hid hok'
        have HKZ := Lib.hid hkz'
        have HWC := Lib.hid hwc
        clear hjs hok' hok hcz hv hx hkz' hwc
        obtain ⟨N, hN⟩ : ∃ N, x.length = N := ⟨_, rfl⟩
        rw [hN] at hown hjl
        have HN := Lib.hid hN
        clear hN
        have hbase := hb.size
        have HOW := Lib.hid hown
        obtain ⟨Av, cv, rfl, -, -, -⟩ := own_vals hown
        clear hown
        by_cases hk0 : 0 < k
        · have h63 : N + 1 ≤ maxLen := by unfold maxLen; omega
          have h47 : (N + 1) * 1 ≤ 140737488355328 := by omega
          have c33 := fun v2 w2 (h : w2.ownsRow w.heap.size 5 1 v2 (N + 1) (u8s x ++ [.int .u8 32])) hb2 => appendPoint33 c w.heap.size (N + 1) v2 (u8s x ++ [.int .u8 32]) w2 hc1 h (by omega) hb2
          have C33 := Lib.hid c33
          clear c33
          go_wp2_with (first
            | (at_builtin; refine append_lit rfl _ _ 22 rfl w.heap.size 5 i0 (.int .u8 0) 1 1 Tryd.underlying22 hi hz0 hz1 hz2 rfl (by decide) _ _ _ rfl HOW.out [.int .u8 32] rfl (by simp [Value.oneCell']) rfl h63 h47 hbase ?_; intro v2 w2 hown2 hg2; have hb2 := hg2 _ _ hb (Nat.le_refl _))
            | (go_at_call 33; (with_reducible refine (C33.out _ _ hown2 hb2.size).mono ?_); rintro e w3 ⟨v3, rfl, hown3, hg3⟩))
          go_roundw
          case rel =>
            refine ⟨hg3 _ _ hb2 (Nat.le_refl _), k + 1, by go_num, HKZ.out, HOK.out, ?_⟩
            rw [HJS.out, if_pos hk0, u8s_append, List.length_append, List.length_append, HWC.out, HN.out]
            have e : N + (([32] : List UInt8).length + wid c) = N + 1 + wid c := by simp; omega
            rw [e, u8s_append]
            rw [List.append_assoc] at hown3
            exact hown3
          case measure => simp [intOf]; omega
        · have hk : ¬ 0 < (k : Int) := by omega
          have c33 := appendPoint33 c w.heap.size N _ (u8s x) wr hc1 HOW.out (by omega) hbase
          go_wp2_with (go_at_call 33; (with_reducible refine c33.mono ?_); rintro e w3 ⟨v3, rfl, hown3, hg3⟩)
          go_roundw
          case rel =>
            refine ⟨hg3 _ _ hb (Nat.le_refl _), k + 1, by go_num, HKZ.out, HOK.out, ?_⟩
            rw [HJS.out, if_neg hk0, List.nil_append, u8s_append, List.length_append, HWC.out, HN.out]
            exact hown3
          case measure => simp [intOf]; omega
      · have hres : Hid (textOf zs = []) := Lib.hid (textOf_no (okN_not hkz' hv))
        have hv' : zs.getD k 0 < 0 ∨ (0 ≤ zs.getD k 0 ∧ 1114111 < zs.getD k 0) := by omega
        obtain ⟨z, hz⟩ : ∃ z, zs.getD k 0 = z := ⟨_, rfl⟩
        rw [hz] at hck hv'
        clear hz hok hown hv hkz' hkz
        rcases hv' with h | ⟨h, h'⟩
        all_goals
          go_wp2
          go_ret
          exact ⟨by rw [hres.out]; rfl, hb⟩
    · have hke : k = n := by have := HZ.out; omega
      subst hke
      rw [List.take_of_length_le (by rw [HZ.out]; exact Nat.le_refl _)] at hok hown
      have hres : Hid (textOf zs = joinT false (toN zs)) := Lib.hid (textOf_yes hok)
      rw [← hres.out] at hown
      obtain ⟨Av, cv, rfl, -, hV, -⟩ := own_vals hown
      have kc := conv22 cv (show Octs wr Av (textOf zs).length (textOf zs) from hV)
      clear hown hV hok hres
      go_wp2
      go_ret
      exact ⟨rfl, hb⟩

def RtxRel (zs : List Int) (w : World) (s i : Value) (wr : World) : Prop :=
  Below w.heap.size w wr ∧ ∃ (k : Nat), i = .int .i64 k ∧ k ≤ zs.length ∧ okN (zs.take k) ∧ s = .string (bs (joinT false (toN (zs.take k))))

set_option maxRecDepth 100000 in
set_option maxHeartbeats 4000000 in
theorem text19 (A : Option Addr) (n ca : Nat) (zs : List Int) (w : World) (hA : Vals w A n (nums .i64 zs)) (hn : n ≤ 1000) :
    Calls Tryd.prog 19 #[.slice A n ca] w fun e w' => e = .returned (.string (bs (textOf zs))) ∧ Below w.heap.size w w' := by
  have hl : zs.length = n := by have := hA.1; unfold nums at this; rwa [List.length_map] at this
  have HA := Lib.hid hA
  have HZ := Lib.hid hl
  clear hA hl
  go_enter Tryd.func19, Tryd.ntmps19
  go_wp2
  go_loopw [3, 4] (fun s i wr => RtxRel zs w s i wr) (fun _ i _ => n - (intOf i).toNat)
  case atStart => exact ⟨Below.refl _ _, 0, rfl, Nat.zero_le _, by intro z hz; simp at hz, rfl⟩
  case round =>
    obtain ⟨hb, k, rfl, hkz, hok, rfl⟩ := hrel
    by_cases hlt : k < n
    · have hkz' : k < zs.length := by rw [HZ.out]; exact hlt
      obtain ⟨b, off, rfl, hbl, hc⟩ := HA.out.2 (by omega)
      have hck : wr.cell? ⟨b, off + k, none⟩ = some (.int .i64 (zs.getD k 0)) := (hb.cell (p := ⟨b, off + k, none⟩) hbl).trans (hc k _ (nums_get hkz'))
      clear hc
      by_cases hv : 0 ≤ zs.getD k 0 ∧ zs.getD k 0 ≤ 1114111
      · obtain ⟨c, hcz⟩ : ∃ c : Nat, zs.getD k 0 = c := ⟨(zs.getD k 0).toNat, by omega⟩
        have hok' := okN_snoc hkz' hok hv.1 hv.2
        have hjs := join_snoc hkz' hcz
        have hjl := join_len false (toN (zs.take k))
        have htl : (toN (zs.take k)).length ≤ k := by unfold toN; rw [List.length_map]; exact List.length_take_le _ _
        have hc1 : c ≤ 1114111 := by have := hv.2; omega
        have hwc := hexT_length c
        have hwr := (wid_range c).2
        rw [hcz] at hck
        have c29 := fun w => hex29 c w hc1
        obtain ⟨x, hx⟩ : ∃ x, joinT false (toN (zs.take k)) = x := ⟨_, rfl⟩
        rw [hx] at hjs hjl ⊢
        obtain ⟨y, hy⟩ : ∃ y, hexT c = y := ⟨_, rfl⟩
        rw [hy] at hjs hwc
        simp only [hy] at c29
        have hxs : (bs x).size ≤ 7000 := by rw [bs_size]; omega
        have hys : (bs y).size ≤ 6 := by rw [bs_size]; omega
        have ha1 : bs x ++ ⟨#[32]⟩ = bs (x ++ [32]) := bs_app x [32]
        have hs1 : (bs (x ++ [32])).size ≤ 7001 := by rw [bs_size, List.length_append]; simp; rw [bs_size] at hxs; omega
        have ha2 := bs_app (x ++ [32]) y
        have ha3 := bs_app x y
        have hend : ∀ w', Below wr.heap.size wr w' → RtxRel zs w (.string (bs (x ++ ((if 0 < k then [32] else []) ++ y)))) (.int .i64 ((k : Int) + 1)) w' := fun w' hb' =>
          ⟨hb.trans (hb'.mono hb.size), k + 1, by go_num, hkz', hok', by rw [hjs]⟩
        have HE := Lib.hid hend
        clear hend hjs hok' hok hcz hv hx hkz' hwc hy
        by_cases hk0 : 0 < k
        · rw [if_pos hk0] at HE
          rw [← List.append_assoc] at HE
          obtain ⟨T1, hT1⟩ : ∃ T, bs (x ++ [32]) = T := ⟨_, rfl⟩
          obtain ⟨T2, hT2⟩ : ∃ T, bs (x ++ [32] ++ y) = T := ⟨_, rfl⟩
          rw [hT1] at ha1 hs1 ha2
          rw [hT2] at ha2 HE
          clear hT1 hT2 ha3
          go_wp2_with (go_at_call 29; (with_reducible refine (c29 _).mono ?_); rintro e w3 ⟨rfl, hb3⟩)
          go_roundw
          case rel => exact HE.out w3 hb3
          case measure => simp [intOf]; omega
        · have hk : ¬ 0 < (k : Int) := by omega
          rw [if_neg hk0] at HE
          rw [List.nil_append] at HE
          obtain ⟨T2, hT2⟩ : ∃ T, bs (x ++ y) = T := ⟨_, rfl⟩
          rw [hT2] at ha3 HE
          clear hT2 ha1 ha2 hs1
          go_wp2_with (go_at_call 29; (with_reducible refine (c29 _).mono ?_); rintro e w3 ⟨rfl, hb3⟩)
          go_roundw
          case rel => exact HE.out w3 hb3
          case measure => simp [intOf]; omega
      · have hres : Hid (textOf zs = []) := Lib.hid (textOf_no (okN_not hkz' hv))
        have hv' : zs.getD k 0 < 0 ∨ (0 ≤ zs.getD k 0 ∧ 1114111 < zs.getD k 0) := by omega
        obtain ⟨z, hz⟩ : ∃ z, zs.getD k 0 = z := ⟨_, rfl⟩
        rw [hz] at hck hv'
        clear hz hok hv hkz' hkz
        rcases hv' with h | ⟨h, h'⟩
        all_goals
          go_wp2
          go_ret
          exact ⟨by rw [hres.out]; rfl, hb⟩
    · have hke : k = n := by have := HZ.out; omega
      subst hke
      rw [List.take_of_length_le (by rw [HZ.out]; exact Nat.le_refl _)] at hok ⊢
      have hres : Hid (textOf zs = joinT false (toN zs)) := Lib.hid (textOf_yes hok)
      rw [← hres.out]
      clear hok hres
      go_wp2
      go_ret
      exact ⟨rfl, hb⟩
end Go.Proofs.YtlknffldlnhfdaaDoor
