/- What the document's own Parse of a property file hands back. -/
import Derived.Test.YtdbnegllncjhkaaGreatDoorPrpm
import Derived.Test.YtdbnegllncjhkaaGreatDoorRrange
import Derived.Test.YtdbnegllncjhkaaGreatDoorRsort
import Derived.Test.YtdbnegllncjhkaaGreatDoorRlines
import Derived.Test.YtdbnegllncjhkaaGreatDoorChk
namespace Go.Proofs.YtdbnegllncjhkaaGreatDoor
open Go.RowKit Go.Shelf
attribute [local go_sem] Oper.semAt_some

theorem bs_empt (l : List UInt8) : (bs l).toList.isEmpty = decide (l = []) := by
  have e : (bs l).toList = l := by rw [Lib.toList_data, bs_data]
  rw [e, Bool.eq_iff_iff, decide_eq_true_eq, List.isEmpty_iff]
theorem bs_same (a b : List UInt8) : ((bs a).toList == (bs b).toList) = decide (a = b) := by
  have e : ∀ l, (bs l).toList = l := fun l => by rw [Lib.toList_data, bs_data]
  rw [e, e, Bool.eq_iff_iff, beq_iff_eq, decide_eq_true_eq]
theorem box3 (W : World) (v0 v1 v2 : Value) (t : TypeId) : (W.alloc (.cells #[v0, v1, v2] t)).cell? ⟨W.heap.size, 0, none⟩ = some v0 ∧ (W.alloc (.cells #[v0, v1, v2] t)).cell? ⟨W.heap.size, 1, none⟩ = some v1 ∧ (W.alloc (.cells #[v0, v1, v2] t)).cell? ⟨W.heap.size, 2, none⟩ = some v2 := ⟨by simp, by simp, by simp⟩
theorem box_celli {W : World} {a : Addr} {v : Value} (o : Obj) (h : W.cell? a = some v) : (W.alloc o).cell? a = some v := (World.cell?_alloc_lt _ _ _ (World.block_lt_of_cell? W a h)).trans h
/-- Between two lines. w1: the world once the lines are read. -/
def PpI (w1 : World) (vs : List (List UInt8)) (L : List Ln) (v i : Value) (wr : World) : Prop :=
  ∃ (k : Nat) (out : List Sp), i = .int .i64 k ∧ k ≤ L.length ∧ (propP vs out (L.drop k) = propOf vs L ∧ out.length ≤ k) ∧ wr.ownsRow w1.heap.size 71 3 v out.length (spvs out) ∧ Below w1.heap.size w1 wr
/-- What it hands back. -/
def RPost (vs : List (List UInt8)) (L : List Ln) (w : World) (e : Ending) (w' : World) : Prop :=
  Below w.heap.size w w' ∧ ∃ A c, e = .returned (.tuple #[.slice A (propOf vs L).rows.length c, .int .i64 (propOf vs L).err, .int .i64 (propOf vs L).num]) ∧ SAt w' A (propOf vs L).rows.length (sorted (propOf vs L).rows)
theorem rp_bad {vs : List (List UInt8)} {L : List Ln} {w w' : World} {e n : Int} (h : propOf vs L = ⟨[], e, n⟩) (hb : Below w.heap.size w w') : RPost vs L w (.returned (.tuple #[.slice none 0 0, .int .i64 e, .int .i64 n])) w' :=
  ⟨hb, none, 0, by rw [h]; rfl, by rw [h]; exact SAt.nil _ _⟩
/-- In the loop over the values. -/
def AmI (vs : List (List UInt8)) (v : List UInt8) (w2 : World) (am i : Value) (wq : World) : Prop :=
  ∃ (j q : Nat) (a : Bool), i = .int .i64 j ∧ j ≤ vs.length ∧ am = .bool a ∧ Hid (amTo vs v j = a) ∧ wq = w2.drewN q

set_option maxRecDepth 100000 in
set_option maxHeartbeats 4000000 in
theorem rprop10 (l : List UInt8) (V : Option Addr) (nv cv : Nat) (vs : List (List UInt8)) (w : World) (hl : l.length ≤ 2000) (hxl : ∀ x ∈ linesIn l, ∀ f ∈ x.2, f.length ≤ 2000) (hV : Vals w V nv (strs vs)) (hnv : nv ≤ 1000) :
    Calls Tryz.prog 10 #[.string (bs l), .slice V nv cv] w (RPost vs (linesIn l) w) := by
  obtain ⟨i0, hi, hz0, hz1, hz2⟩ := info_parts info44
  have c24 := lines8 l w (by omega)
  have hvl : vs.length = nv := by have := hV.1; rwa [strs_length] at this
  obtain ⟨L, hL⟩ : ∃ L, linesIn l = L := ⟨_, rfl⟩
  rw [hL]
  have HV := Lib.hid hV
  have HVL := Lib.hid hvl
  clear hV hvl
  go_enter Tryz.func10, Tryz.ntmps10
  go_wp2_with (go_at_call 26; (with_reducible refine c24.mono ?_); rintro e w1 ⟨hb1, A, ca, rfl, hca, hLA⟩)
  clear c24
  have hlen : (linesIn l).length ≤ 2001 := by
    rw [← lines_pieces]
    have h1 := List.length_filterMap_le lineOf (numbered 1 (pieces l))
    rw [numbered_length] at h1
    have h2 := pieces_length l
    omega
  rw [hL] at hlen hLA hca hxl
  obtain ⟨N, hN⟩ : ∃ N, L.length = N := ⟨_, rfl⟩
  rw [hN] at hlen hLA hca ⊢
  have HN := Lib.hid hN
  have HXL := Lib.hid hxl
  have HLA := Lib.hid hLA
  have HB1 := Lib.hid hb1
  clear hL hN hxl hLA hb1 hl
  go_wp2
  go_loopw [8, 9] (fun v i wr => PpI w1 vs L v i wr) (fun _ i _ => N - (intOf i).toNat)
  case atStart => exact ⟨0, [], rfl, Nat.zero_le _, ⟨rfl, Nat.le_refl _⟩, World.ownsRow_nil _ _ _ _, Below.refl _ _⟩
  case round =>
    obtain ⟨k, out, rfl, hk, ⟨href, hpl⟩, hown, hbw⟩ := hrel
    have hbww : Below w.heap.size w wr := HB1.out.trans (hbw.mono HB1.out.size)
    obtain ⟨Ao, co, rfl, -, hsat, hAn⟩ := own_sat hown
    by_cases hlt : k < N
    · have hkL : k < L.length := by rw [HN.out]; exact hlt
      obtain ⟨bL, rfl, hbL, hcell⟩ := HLA.out.2 (by omega)
      obtain ⟨x, hx⟩ : ∃ x, L[k]? = some x := ⟨_, List.getElem?_eq_getElem hkL⟩
      obtain ⟨e1, F, cf, e2, hVF⟩ := hcell k x hx
      rw [Nat.mul_comm] at e1 e2
      have d1 : wr.cell? ⟨bL, k * 2, none⟩ = some (.int .i64 x.1) := (hbw.cell (p := ⟨bL, k * 2, none⟩) hbL).trans e1
      have d2 : wr.cell? ⟨bL, k * 2 + 1, none⟩ = some (.slice F x.2.length cf) := (hbw.cell (p := ⟨bL, k * 2 + 1, none⟩) hbL).trans e2
      have hbLw : bL < wr.heap.size := Nat.lt_of_lt_of_le hbL hbw.size
      have hdrop : L.drop k = x :: L.drop (k + 1) := by rw [List.drop_eq_getElem_cons hkL]; congr 1; exact (List.getElem?_eq_some_iff.1 hx).2
      have hxm := List.mem_of_getElem? hx
      have hVw := hVF.below hbw
      rw [hdrop] at href
      have HBW := Lib.hid hbww
      have HBW1 := Lib.hid hbw
      have HOW := Lib.hid hown
      have HSA := Lib.hid hsat
      have hol : out.length ≤ 3000 := by omega
      obtain ⟨n, hn⟩ : ∃ n, x.2.length = n := ⟨_, rfl⟩
      have HNL := Lib.hid hn
      clear e1 e2 hcell hdrop hVF hbww hbw hown hsat hx
      by_cases hfew : x.2.length < 2
      · have hres : propOf vs L = ⟨[], 12, x.1⟩ := by rw [← href, prp_err (by rw [line_few hfew]; decide), line_few hfew]
        have HP := Lib.hid (fun W (hb : Below w.heap.size w W) => rp_bad (w := w) (w' := W) hres hb)
        rw [hn] at d2 hfew
        have hd : decide (n < 2) = true := decide_eq_true hfew
        have hd2 : decide ((n : Int) < 2) = true := decide_eq_true (by omega)
        clear href hres hVw hn hpl
        go_wp2
        go_quiet (fail)
        go_wp2
        go_ret3
        exact HP.out _ (below_drewN HBW.out _)
      · obtain ⟨bF, oF, rfl, hbF, q0, q1⟩ := flds2 hVw hfew
        have hf0 : (pfld x.2 0).length ≤ 2000 := by
          unfold pfld
          rw [List.getD_eq_getElem?_getD]
          cases hk0 : x.2[0]? with
          | none => simp
          | some y => exact HXL.out x hxm y (List.mem_of_getElem? hk0)
        have c25 := range14 (pfld x.2 0) wr (by omega)
        unfold rgVal at c25
        rw [hn] at d2
        have hnn : 2 ≤ n := by omega
        have hd : decide (n < 2) = false := decide_eq_false (by omega)
        have hd2 : decide ((n : Int) < 2) = false := decide_eq_false (by omega)
        have hi1 : (1 : Int) < (n : Int) := by omega
        have hi0 : (0 : Int) < (n : Int) := by omega
        obtain ⟨S0, hS0⟩ : ∃ S, bs (pfld x.2 0) = S := ⟨_, rfl⟩
        rw [hS0] at q0 c25
        by_cases hre : (rangeOf (pfld x.2 0)).2.2 = 0
        · by_cases hem : pfld x.2 1 = []
          · have hres : propOf vs L = ⟨[], 16, x.1⟩ := by rw [← href, prp_err (by rw [line_emp hfew hre hem]; decide), line_emp hfew hre hem]
            have HP := Lib.hid (fun W (hb : Below w.heap.size w W) => rp_bad (w := w) (w' := W) hres hb)
            have t1 := bs_empt (pfld x.2 1)
            rw [decide_eq_true hem] at t1
            obtain ⟨S1, hS1⟩ : ∃ S, bs (pfld x.2 1) = S := ⟨_, rfl⟩
            rw [hS1] at q1 t1
            rw [hre] at c25
            obtain ⟨ra, hra⟩ : ∃ a, (rangeOf (pfld x.2 0)).1 = a := ⟨_, rfl⟩
            obtain ⟨rb, hrb⟩ : ∃ a, (rangeOf (pfld x.2 0)).2.1 = a := ⟨_, rfl⟩
            rw [hra, hrb] at c25
            clear href hres hVw hn hpl hfew hre hem hS0 hS1 hra hrb hf0 hxm
            go_wp2_with (go_at_call 27; (with_reducible refine c25.mono ?_); rintro e w2 ⟨rfl, hb2⟩; have z1 := (hb2.cell (p := ⟨bL, k * 2, none⟩) hbLw).trans d1; have z3 := (hb2.cell (p := ⟨bF, oF + 1, none⟩) hbF).trans q1; clear c25)
            go_quiet (fail)
            go_wp2
            go_ret3
            exact HP.out _ (below_drewN (HBW.out.trans (hb2.mono HBW.out.size)) _)
          · have hok := line_ok hfew hre hem
            have t1 := bs_empt (pfld x.2 1)
            rw [decide_eq_false hem] at t1
            have HSK := Lib.hid (fun (ha : amongB vs (pfld x.2 1) = false) => (prp_skip (out := out) (t := L.drop (k + 1)) hok ha).symm.trans href)
            have HBD := Lib.hid (fun (ha : amongB vs (pfld x.2 1) = true) (hc : ¬ check out (spOf x.2) = 0) => (show propOf vs L = ⟨[], check out (spOf x.2), x.1⟩ by rw [← href]; exact prp_bad hok ha hc))
            have HAD := Lib.hid (fun (ha : amongB vs (pfld x.2 1) = true) (hc : check out (spOf x.2) = 0) => (prp_add (t := L.drop (k + 1)) hok ha hc).symm.trans href)
            have C26 := Lib.hid (fun (W : World) (hb : Below wr.heap.size wr W) => check19 Ao out.length co out (spOf x.2) W (HSA.out.below hb) (by omega))
            have HSP : Hid (spOf x.2 = ⟨(rangeOf (pfld x.2 0)).1, (rangeOf (pfld x.2 0)).2.1, pfld x.2 1⟩) := Lib.hid rfl
            obtain ⟨s, hs⟩ : ∃ s, spOf x.2 = s := ⟨_, rfl⟩
            rw [hs] at HBD HAD C26 HSP
            have HSW : Hid (∀ (v : List UInt8) (u : List UInt8), ((bs v).toList == (bs u).toList) = decide (v = u)) := Lib.hid bs_same
            rw [hre] at c25
            obtain ⟨ra, hra⟩ : ∃ a, (rangeOf (pfld x.2 0)).1 = a := ⟨_, rfl⟩
            obtain ⟨rb, hrb⟩ : ∃ a, (rangeOf (pfld x.2 0)).2.1 = a := ⟨_, rfl⟩
            rw [hra, hrb] at c25 HSP
            obtain ⟨v, hv⟩ : ∃ v, pfld x.2 1 = v := ⟨_, rfl⟩
            rw [hv] at q1 t1 HSK HBD HAD HSP
            obtain ⟨S1, hS1⟩ : ∃ S, bs v = S := ⟨_, rfl⟩
            rw [hS1] at q1 t1
            have HS1 := Lib.hid hS1
            obtain ⟨b0, hb0⟩ : ∃ b, ((nv : Int) == 0) = b := ⟨_, rfl⟩
            have HB0 : Hid (decide (vs.length = 0) = b0) := Lib.hid (by rw [← hb0, HVL.out, Bool.eq_iff_iff, beq_iff_eq, decide_eq_true_eq]; omega)
            obtain ⟨M, hM⟩ : ∃ M, out.length = M := ⟨_, rfl⟩
            have HM := Lib.hid hM
            rw [hM] at hol C26 ⊢
            have hMk : M ≤ k := by omega
            clear href hVw hn hpl hfew hre hem hS0 hS1 hra hrb hf0 hxm hok hs hv hM
            go_wp2_with (go_at_call 27; (with_reducible refine c25.mono ?_); rintro e w2 ⟨rfl, hb2⟩; have z1 := (hb2.cell (p := ⟨bL, k * 2, none⟩) hbLw).trans d1; have z3 := (hb2.cell (p := ⟨bF, oF + 1, none⟩) hbF).trans q1; clear c25)
            clear hb0
            have HB2 := Lib.hid hb2
            have hV2 := (HV.out.below HBW.out).below hb2
            have HV2 := Lib.hid hV2
            have hbF2 : bF < w2.heap.size := Nat.lt_of_lt_of_le hbF hb2.size
            clear hb2 hV2 d1 d2 q0 q1
            go_loopw [14, 15] (fun am i wq => AmI vs v w2 am i wq) (fun _ i _ => nv - (intOf i).toNat)
            case atStart => exact ⟨0, 0, b0, rfl, Nat.zero_le _, rfl, Lib.hid (by rw [am_zero]; exact HB0.out), rfl⟩
            case round =>
              obtain ⟨j, q, a, rfl, hj, rfl, HA, rfl⟩ := hrel
              rw [HVL.out] at hj
              by_cases hjn : j < nv
              · obtain ⟨bV, oV, rfl, -, hcV⟩ := HV2.out.2 (by omega)
                have hjl : j < vs.length := by rw [HVL.out]; exact hjn
                have g1 : w2.cell? ⟨bV, oV + j, none⟩ = some (.string (bs (vs.getD j []))) := hcV j _ (strs_get hjl)
                have HSN := Lib.hid (am_snoc (vs := vs) (v := v) (u := vs.getD j []) (j := j) (by rw [List.getD_eq_getElem?_getD, List.getElem?_eq_getElem hjl]; rfl))
                have f1 := HSW.out (vs.getD j []) v
                rw [HS1.out] at f1
                obtain ⟨cc, hcc⟩ : ∃ c, decide (vs.getD j [] = v) = c := ⟨_, rfl⟩
                rw [hcc] at f1 HSN
                obtain ⟨SV, hSV⟩ : ∃ S, bs (vs.getD j []) = S := ⟨_, rfl⟩
                rw [hSV] at g1 f1
                clear hcV hSV hcc hjl
                cases a with
                | true =>
                  go_wp2
                  go_quiet (fail)
                  go_wp2
                  go_roundw
                  case rel => exact ⟨j + 1, _, true, by go_num, by rw [HVL.out]; omega, rfl, Lib.hid (by rw [HSN.out, HA.out]; rfl), rfl⟩
                  case measure => simp [intOf]; omega
                | false =>
                  go_wp2
                  go_quiet (fail)
                  go_wp2
                  go_roundw
                  case rel => exact ⟨j + 1, _, cc, by go_num, by rw [HVL.out]; omega, rfl, Lib.hid (by rw [HSN.out, HA.out]; rfl), rfl⟩
                  case measure => simp [intOf]; omega
              · have hje : j = nv := by omega
                subst hje
                have HAM : Hid (amongB vs v = a) := Lib.hid (by have := HA.out; rw [← HVL.out, am_all] at this; exact this)
                have b2q : Below w2.heap.size w2 (w2.drewN q) := below_drewN (Below.refl _ _) q
                obtain ⟨W, hW⟩ : ∃ W, w2.drewN q = W := ⟨_, rfl⟩
                rw [hW] at b2q ⊢
                have y1 := (b2q.cell (p := ⟨bL, k * 2, none⟩) (Nat.lt_of_lt_of_le hbLw HB2.out.size)).trans z1
                have y3 := (b2q.cell (p := ⟨bF, oF + 1, none⟩) hbF2).trans z3
                have brW : Below wr.heap.size wr W := HB2.out.trans (b2q.mono HB2.out.size)
                have HRW := Lib.hid brW
                clear hW b2q HA z1 z3 hjn hj
                cases a with
                | false =>
                  clear HBD HAD C26 brW
                  go_wp2
                  go_roundw
                  case rel => exact ⟨k + 1, out, by go_num, hkL, ⟨HSK.out HAM.out, by have := HM.out; omega⟩, by have := own_below HOW.out HRW.out (Nat.le_refl _); rw [HM.out] at this ⊢; exact this, HBW1.out.trans (HRW.out.mono HBW1.out.size)⟩
                  case measure => simp [intOf]; omega
                | true =>
                  have hsp := HSP.out
                  subst hsp
                  clear HSP HSK
                  have bo : Below W.heap.size W (W.alloc (.cells #[.int .i64 ra, .int .i64 rb, .string S1] 71)) := (Below.refl _ _).alloc (Nat.le_refl _) _
                  have BO := Lib.hid bo
                  have k26 := C26.out (W.alloc (.cells #[.int .i64 ra, .int .i64 rb, .string S1] 71)) (brW.trans (bo.mono brW.size))
                  unfold ChkPost spV at k26
                  simp only [HS1.out] at k26
                  clear bo C26 brW
                  by_cases hck : check out ⟨ra, rb, v⟩ = 0
                  · have HREF := Lib.hid (HAD.out HAM.out hck)
                    rw [hck] at k26
                    have m3 : M + 1 ≤ maxLen := by unfold maxLen; omega
                    have m4 : (M + 1) * 32 ≤ 140737488355328 := by omega
                    clear HAD HBD hck
                    go_wp2_with (first
                      | (go_at_call 28; (with_reducible refine k26.mono ?_); rintro e w4 ⟨rfl, hb4⟩; have x0 := (hb4.cell (p := ⟨W.heap.size, 0, none⟩) (by simp)).trans (box3 W (.int .i64 ra) (.int .i64 rb) (.string S1) 71).1; have x1 := (hb4.cell (p := ⟨W.heap.size, 1, none⟩) (by simp)).trans (box3 W (.int .i64 ra) (.int .i64 rb) (.string S1) 71).2.1; have x2 := (hb4.cell (p := ⟨W.heap.size, 2, none⟩) (by simp)).trans (box3 W (.int .i64 ra) (.int .i64 rb) (.string S1) 71).2.2; have br4 : Below wr.heap.size wr w4 := (HRW.out.trans (BO.out.mono HRW.out.size)).trans (hb4.mono (HRW.out.trans (BO.out.mono HRW.out.size)).size); have BR4 := Lib.hid br4; have hown4 := own_below HOW.out br4 (Nat.le_refl _); rw [HM.out] at hown4; have hs4 : w1.heap.size ≤ w4.heap.size := Nat.le_trans HBW1.out.size br4.size; clear br4 k26)
                      | (at_builtin; refine append_lit rfl _ _ 30 rfl w1.heap.size 71 i0 (.agg #[.int .i64 0, .int .i64 0, .string ⟨#[]⟩]) 3 32 Tryz.underlying30 hi hz0 hz1 hz2 rfl (by decide) (.slice Ao M co) M _ rfl hown4 [.int .i64 ra, .int .i64 rb, .string S1] rfl (by simp [Value.oneCell']) rfl m3 m4 hs4 ?_; intro v2 w5 ho5 hg5))
                    go_roundw
                    case rel => exact ⟨k + 1, out ++ [⟨ra, rb, v⟩], by go_num, hkL, ⟨HREF.out, by rw [List.length_append, List.length_singleton, HM.out]; omega⟩, by rw [List.length_append, List.length_singleton, HM.out, ← spvs_snoc]; dsimp only; rw [HS1.out]; exact ho5, hg5 _ _ (HBW1.out.trans (BR4.out.mono HBW1.out.size)) (Nat.le_refl _)⟩
                    case measure => simp [intOf]; omega
                  · have hres := HBD.out HAM.out hck
                    have HP := Lib.hid (fun W (hb : Below w.heap.size w W) => rp_bad (w := w) (w' := W) hres hb)
                    obtain ⟨E, hE⟩ : ∃ E, check out ⟨ra, rb, v⟩ = E := ⟨_, rfl⟩
                    rw [hE] at HP hck k26
                    have hx1 : (E == 0) = false := beq_false_of_ne hck
                    have hx2 : (E != 0) = true := bne_iff_ne.2 hck
                    clear HAD HBD hres hE
                    go_wp2_with (go_at_call 28; (with_reducible refine k26.mono ?_); rintro e w4 ⟨rfl, hb4⟩; have br4 : Below wr.heap.size wr w4 := (HRW.out.trans (BO.out.mono HRW.out.size)).trans (hb4.mono (HRW.out.trans (BO.out.mono HRW.out.size)).size); have BR4 := Lib.hid br4; have y4 := (hb4.cell (p := ⟨bL, k * 2, none⟩) (by have := World.block_lt_of_cell? W _ y1; simp at this ⊢; omega)).trans (box_celli _ y1); clear br4 k26)
                    go_quiet (fail)
                    go_wp2
                    go_ret3
                    exact HP.out _ (below_drewN (HBW.out.trans (BR4.out.mono HBW.out.size)) _)
        · have hres : propOf vs L = ⟨[], (rangeOf (pfld x.2 0)).2.2, x.1⟩ := by rw [← href, prp_err (by rw [line_rng hfew hre]; exact hre), line_rng hfew hre]
          have HP := Lib.hid (fun W (hb : Below w.heap.size w W) => rp_bad (w := w) (w' := W) hres hb)
          obtain ⟨ra, hra⟩ : ∃ a, (rangeOf (pfld x.2 0)).1 = a := ⟨_, rfl⟩
          obtain ⟨rb, hrb⟩ : ∃ a, (rangeOf (pfld x.2 0)).2.1 = a := ⟨_, rfl⟩
          obtain ⟨E, hE⟩ : ∃ E, (rangeOf (pfld x.2 0)).2.2 = E := ⟨_, rfl⟩
          rw [hra, hrb, hE] at c25
          rw [hE] at HP hre
          have hx1 : (E == 0) = false := beq_false_of_ne hre
          have hx2 : (E != 0) = true := bne_iff_ne.2 hre
          clear href hres hVw hn hpl hfew hS0 hra hrb hE hf0 hxm
          go_wp2_with (go_at_call 27; (with_reducible refine c25.mono ?_); rintro e w2 ⟨rfl, hb2⟩; have z1 := (hb2.cell (p := ⟨bL, k * 2, none⟩) hbLw).trans d1; clear c25)
          go_quiet (fail)
          go_wp2
          go_ret3
          exact HP.out _ (below_drewN (HBW.out.trans (hb2.mono HBW.out.size)) _)
    · have hke : k = N := by have := HN.out; omega
      subst hke
      have hd0 : L.drop k = [] := List.drop_eq_nil_of_le (by rw [HN.out]; exact Nat.le_refl _)
      rw [hd0] at href
      have hres : propOf vs L = ⟨out, 0, 0⟩ := by rw [← href, propP]
      have c27 := sorted24 Ao out.length co out wr hsat (by omega)
      have HP : Hid (∀ A c W, Below wr.heap.size wr W → SAt W A out.length (sorted out) → RPost vs L w (.returned (.tuple #[.slice A out.length c, .int .i64 0, .int .i64 0])) W) := Lib.hid (fun A c W hb hS => ⟨hbww.trans (hb.mono hbww.size), A, c, by rw [hres], by rw [hres]; exact hS⟩)
      clear href hres hown hbw hbww hsat hd0 hpl
      go_wp2_with (go_at_call 29; (with_reducible refine c27.mono ?_); rintro e w2 ⟨hb2, A2, c2, rfl, -, hS2⟩)
      go_ret3
      exact HP.out _ _ _ hb2 hS2
end Go.Proofs.YtdbnegllncjhkaaGreatDoor
