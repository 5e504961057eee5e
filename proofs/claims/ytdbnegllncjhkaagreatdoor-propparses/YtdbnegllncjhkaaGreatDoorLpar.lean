/- The laws PropParses, PropPoints and PropOthers, walked. -/
import Derived.Test.YtdbnegllncjhkaaGreatDoorPlaw
namespace Go.Proofs.YtdbnegllncjhkaaGreatDoor.propParses
open Go.RowKit Go.Shelf

set_option maxRecDepth 100000 in
set_option maxHeartbeats 1000000 in
theorem walk_long (a0 : Option Addr) (len0 cap0 : Nat) (V : Option Addr) (nv cv : Nat) (w : World) (hM : ML w) (h : 800 < len0) :
    Calls Tryz.prog 3 #[.slice a0 len0 cap0, .slice V nv cv] w fun e w' => e = .returned (.bool true) ∧ Below w.heap.size w w' := by
  have c7 := awake7 w hM
  have C7 := Lib.hid (fun w1 (hb : Below w.heap.size w w1) => awake7 w1 (hM.below hb))
  have hd : decide (800 < (len0 : Int)) = true := decide_eq_true (by omega)
  clear hM
  go_enter Tryz.func3, Tryz.ntmps3
  go_wp2_with (first
    | (go_at_call 7; (with_reducible refine c7.mono ?_); rintro e w1 ⟨rfl, hb1⟩; clear c7; have k7 := C7.out w1 hb1)
    | (go_at_call 7; (with_reducible refine k7.mono ?_); rintro e w2 ⟨rfl, hb2⟩))
  go_ret
  exact ⟨rfl, hb1.trans (hb2.mono hb1.size)⟩
set_option maxRecDepth 100000 in
set_option maxHeartbeats 1000000 in
theorem walk_many (a0 : Option Addr) (len0 cap0 : Nat) (V : Option Addr) (nv cv : Nat) (vs : List (List UInt8)) (w : World) (hM : ML w) (hV : Vals w V nv (strs vs)) (h : len0 ≤ 800) (hf : fewB vs = false) :
    Calls Tryz.prog 3 #[.slice a0 len0 cap0, .slice V nv cv] w fun e w' => e = .returned (.bool true) ∧ Below w.heap.size w w' := by
  have c7 := awake7 w hM
  have C7 := Lib.hid (fun w1 (hb : Below w.heap.size w w1) => awake7 w1 (hM.below hb))
  have c8 := fun w1 (hb : Below w.heap.size w w1) => few8 V nv cv vs w1 (hV.below hb)
  rw [hf] at c8
  have C8 := Lib.hid c8
  have hd : decide (800 < (len0 : Int)) = false := decide_eq_false (by omega)
  clear hM hV c8 hf
  go_enter Tryz.func3, Tryz.ntmps3
  go_wp2_with (first
    | (go_at_call 7; (with_reducible refine c7.mono ?_); rintro e w1 ⟨rfl, hb1⟩; clear c7; have k7 := C7.out w1 hb1; have k8 := C8.out w1 hb1)
    | (go_at_call 8; (with_reducible refine k8.mono ?_); rintro e w' ⟨rfl, rfl⟩)
    | (go_at_call 7; (with_reducible refine k7.mono ?_); rintro e w2 ⟨rfl, hb2⟩))
  go_ret
  exact ⟨rfl, hb1.trans (hb2.mono hb1.size)⟩
set_option maxRecDepth 100000 in
set_option maxHeartbeats 4000000 in
theorem walk_ok (a0 : Option Addr) (len0 cap0 : Nat) (l : List UInt8) (V : Option Addr) (nv cv : Nat) (vs : List (List UInt8)) (w : World) (hM : ML w) (hO : Octs w a0 len0 l) (hV : Vals w V nv (strs vs)) (h : len0 ≤ 800) (hf : fewB vs = true) (he : (propOf vs (linesIn l)).err = 0) :
    Calls Tryz.prog 3 #[.slice a0 len0 cap0, .slice V nv cv] w fun e w' => e = .returned (.bool true) ∧ Below w.heap.size w w' := by
  have hll := hO.len
  have hnv : nv ≤ 1000 := by
    have h1 : vs.length = nv := by have := hV.1; rwa [strs_length] at this
    unfold fewB at hf
    rw [Bool.and_eq_true, decide_eq_true_eq] at hf
    omega
  have hmany := prp_many vs l
  have hnum := prp_num vs (linesIn l) he
  have c7 := awake7 w hM
  have c8 := fun w1 (hb : Below w.heap.size w w1) => few8 V nv cv vs w1 (hV.below hb)
  rw [hf] at c8
  have C8 := Lib.hid c8
  have C9 := Lib.hid (fun w1 (hb : Below w.heap.size w w1) => pp_ok a0 len0 cap0 l V nv cv vs w1 (hO.below hb) (by omega) (hV.below hb) hnv (hM.below hb) he)
  have c10 := fun w1 (hb : Below w.heap.size w w1) => rp_any l V nv cv vs w1 (by omega) (hV.below hb) hnv
  rw [he, hnum] at c10
  have C10 := Lib.hid c10
  have HCV := Lib.hid (fun w1 (hb : Below w.heap.size w w1) => conv22 cap0 (hO.below hb))
  obtain ⟨S, hS⟩ : ∃ S, bs l = S := ⟨_, rfl⟩
  obtain ⟨R, hR⟩ : ∃ R, (propOf vs (linesIn l)).rows = R := ⟨_, rfl⟩
  rw [hR] at C9 C10 hmany
  rw [hS] at C10 HCV
  have hd : decide (800 < (len0 : Int)) = false := decide_eq_false (by omega)
  have hml : R.length ≤ 100000 := by omega
  obtain ⟨N, hN⟩ : ∃ N, R.length = N := ⟨_, rfl⟩
  rw [hN] at C10 hml
  clear hM hO hV c8 c10 hf he hnum hll hS hR hmany hN
  go_enter Tryz.func3, Tryz.ntmps3
  go_wp2_with (first
    | (go_at_call 7; (with_reducible refine c7.mono ?_); rintro e w1 ⟨rfl, hb1⟩; clear c7; have hcv1 := HCV.out w1 hb1; have k8 := C8.out w1 hb1; have k9 := C9.out w1 hb1)
    | (go_at_call 8; (with_reducible refine k8.mono ?_); rintro e w' ⟨rfl, rfl⟩)
    | (go_at_call 9; (with_reducible refine k9.mono ?_); rintro e w2 ⟨b, A, c, rfl, HT⟩; clear hcv1; have z2 := hb1.trans (HT.out.1.mono hb1.size); have k10 := C10.out w2 z2)
    | (go_at_call 10; (with_reducible refine k10.mono ?_); rintro e w3 ⟨A', c', rfl, HS⟩; have z3 := z2.trans (HS.out.1.mono z2.size); have k11 := is11 _ A A' c N c' _ w3 (HT.out.2.below HS.out.1) HS.out.2 hml)
    | (go_at_call 11; (with_reducible refine k11.mono ?_); rintro e w4 ⟨rfl, hb4⟩; have z4 := z3.trans (hb4.mono z3.size); have hcv4 := HCV.out w4 z4))
  go_ret
  exact ⟨rfl, z4⟩
set_option maxRecDepth 100000 in
set_option maxHeartbeats 4000000 in
theorem walk_no (a0 : Option Addr) (len0 cap0 : Nat) (l : List UInt8) (V : Option Addr) (nv cv : Nat) (vs : List (List UInt8)) (w : World) (hM : ML w) (hO : Octs w a0 len0 l) (hV : Vals w V nv (strs vs)) (h : len0 ≤ 800) (hf : fewB vs = true) (he : ¬ (propOf vs (linesIn l)).err = 0) :
    Calls Tryz.prog 3 #[.slice a0 len0 cap0, .slice V nv cv] w fun e w' => e = .returned (.bool true) ∧ Below w.heap.size w w' := by
  have hll := hO.len
  have hnv : nv ≤ 1000 := by
    have h1 : vs.length = nv := by have := hV.1; rwa [strs_length] at this
    unfold fewB at hf
    rw [Bool.and_eq_true, decide_eq_true_eq] at hf
    omega
  have c7 := awake7 w hM
  have c8 := fun w1 (hb : Below w.heap.size w w1) => few8 V nv cv vs w1 (hV.below hb)
  rw [hf] at c8
  have C8 := Lib.hid c8
  have C9 := Lib.hid (fun w1 (hb : Below w.heap.size w w1) => pp_no a0 len0 cap0 l V nv cv vs w1 (hO.below hb) (by omega) (hV.below hb) hnv (hM.below hb) he)
  have C10 := Lib.hid (fun w1 (hb : Below w.heap.size w w1) => rp_any l V nv cv vs w1 (by omega) (hV.below hb) hnv)
  have HCV := Lib.hid (fun w1 (hb : Below w.heap.size w w1) => conv22 cap0 (hO.below hb))
  obtain ⟨S, hS⟩ : ∃ S, bs l = S := ⟨_, rfl⟩
  obtain ⟨R, hR⟩ : ∃ R, propOf vs (linesIn l) = R := ⟨_, rfl⟩
  rw [hR] at C9 C10 he
  rw [hS] at C10 HCV
  obtain ⟨E, hE⟩ : ∃ E, R.err = E := ⟨_, rfl⟩
  obtain ⟨M, hMM⟩ : ∃ M, R.num = M := ⟨_, rfl⟩
  rw [hE] at C9 C10 he
  rw [hMM] at C9 C10
  have hx1 : (E == 0) = false := beq_false_of_ne he
  have hx2 : (E != 0) = true := bne_iff_ne.2 he
  have hd : decide (800 < (len0 : Int)) = false := decide_eq_false (by omega)
  clear hM hO hV c8 hf hll hS hR hE hMM
  go_enter Tryz.func3, Tryz.ntmps3
  go_wp2_with (first
    | (go_at_call 7; (with_reducible refine c7.mono ?_); rintro e w1 ⟨rfl, hb1⟩; clear c7; have hcv1 := HCV.out w1 hb1; have k8 := C8.out w1 hb1; have k9 := C9.out w1 hb1)
    | (go_at_call 8; (with_reducible refine k8.mono ?_); rintro e w' ⟨rfl, rfl⟩)
    | (go_at_call 9; (with_reducible refine k9.mono ?_); rintro e w2 ⟨A, c, rfl, HT⟩; clear hcv1; have z2 := hb1.trans (HT.out.1.mono hb1.size); have k10 := C10.out w2 z2)
    | (go_at_call 10; (with_reducible refine k10.mono ?_); rintro e w3 ⟨A', c', rfl, HS⟩; have z3 := z2.trans (HS.out.1.mono z2.size); have hcv4 := HCV.out w3 z3))
  go_ret
  exact ⟨rfl, z3⟩
end Go.Proofs.YtdbnegllncjhkaaGreatDoor.propParses
namespace Go.Proofs.YtdbnegllncjhkaaGreatDoor.propPoints
open Go.RowKit Go.Shelf
set_option maxRecDepth 100000 in
set_option maxHeartbeats 1000000 in
theorem walk_long (a0 : Option Addr) (len0 cap0 : Nat) (S : ByteArray) (w : World) (hM : ML w) (h : 800 < len0 ∨ 30 < S.size) :
    Calls Tryz.prog 4 #[.slice a0 len0 cap0, .string S] w fun e w' => e = .returned (.bool true) ∧ Below w.heap.size w w' := by
  have c7 := awake7 w hM
  have C7 := Lib.hid (fun w1 (hb : Below w.heap.size w w1) => awake7 w1 (hM.below hb))
  clear hM
  by_cases h1 : 800 < len0
  · have hd : decide (800 < (len0 : Int)) = true := decide_eq_true (by omega)
    clear h
    go_enter Tryz.func4, Tryz.ntmps4
    go_wp2_with (first
      | (go_at_call 7; (with_reducible refine c7.mono ?_); rintro e w1 ⟨rfl, hb1⟩; clear c7; have k7 := C7.out w1 hb1)
      | (go_at_call 7; (with_reducible refine k7.mono ?_); rintro e w2 ⟨rfl, hb2⟩))
    go_ret
    exact ⟨rfl, hb1.trans (hb2.mono hb1.size)⟩
  · have hd : decide (800 < (len0 : Int)) = false := decide_eq_false (by omega)
    have hs : 30 < S.size := by omega
    have hd2 : decide (30 < (S.size : Int)) = true := decide_eq_true (by omega)
    clear h
    go_enter Tryz.func4, Tryz.ntmps4
    go_wp2_with (first
      | (go_at_call 7; (with_reducible refine c7.mono ?_); rintro e w1 ⟨rfl, hb1⟩; clear c7; have k7 := C7.out w1 hb1)
      | (go_at_call 7; (with_reducible refine k7.mono ?_); rintro e w2 ⟨rfl, hb2⟩))
    go_ret
    exact ⟨rfl, hb1.trans (hb2.mono hb1.size)⟩
set_option maxRecDepth 100000 in
set_option maxHeartbeats 4000000 in
theorem walk_ok (a0 : Option Addr) (len0 cap0 : Nat) (l v : List UInt8) (w : World) (hM : ML w) (hO : Octs w a0 len0 l) (h : len0 ≤ 800) (hv : v.length ≤ 30) :
    Calls Tryz.prog 4 #[.slice a0 len0 cap0, .string (bs v)] w fun e w' => e = .returned (.bool true) ∧ Below w.heap.size w w' := by
  have hll := hO.len
  have hmany := prp_many [] l
  have hgood := prp_good [] (linesIn l)
  have hsz := bs_size v
  have c7 := awake7 w hM
  have C9 := Lib.hid (fun w1 (hb : Below w.heap.size w w1) => pp_any a0 len0 cap0 l none 0 0 [] w1 (hO.below hb) (by omega) (vals_none _) (by omega) (hM.below hb))
  have C10 := Lib.hid (fun w1 => rp_any l none 0 0 [] w1 (by omega) (vals_none w1) (by omega))
  have HCV := Lib.hid (fun w1 (hb : Below w.heap.size w w1) => conv22 cap0 (hO.below hb))
  obtain ⟨S, hS⟩ : ∃ S, bs l = S := ⟨_, rfl⟩
  obtain ⟨R, hR⟩ : ∃ R, propOf [] (linesIn l) = R := ⟨_, rfl⟩
  rw [hR] at C9 C10 hmany hgood
  rw [hS] at C10 HCV
  have hml : R.rows.length ≤ 100000 := by omega
  have hml2 : (sorted R.rows).length ≤ 100000 := by rw [sorted_length]; exact hml
  have C13 := Lib.hid (fun (W : World) (p A : Option Addr) (c : Nat) (hT : TIn W p A c (sorted R.rows)) => ppoints13 p A c (sorted R.rows) v W hT hgood hml2)
  have C14 := Lib.hid (fun (W : World) (A : Option Addr) (ca : Nat) (hV : SAt W A R.rows.length (sorted R.rows)) => show Calls Tryz.prog 14 #[.slice A R.rows.length ca, .string (bs v), .int .i64 4096] W (RpPost (sorted R.rows) v 4096 W) from points21 A R.rows.length ca 4096 (sorted R.rows) v W hV (by omega) (by omega) hgood)
  have hpl : ((pointsOf (sorted R.rows) v).take 4096).length ≤ 4096 := by rw [List.length_take]; omega
  obtain ⟨Z, hZ⟩ : ∃ Z, (pointsOf (sorted R.rows) v).take 4096 = Z := ⟨_, rfl⟩
  unfold PoPost at C13
  unfold RpPost at C14
  rw [hZ] at C13 C14 hpl
  obtain ⟨VV, hVV⟩ : ∃ S, bs v = S := ⟨_, rfl⟩
  rw [hVV] at C13 C14 hsz ⊢
  have hs30 : VV.size ≤ 30 := by omega
  have hd2 : decide (30 < (VV.size : Int)) = false := decide_eq_false (by omega)
  have hd : decide (800 < (len0 : Int)) = false := decide_eq_false (by omega)
  clear hM hO hll hmany hgood hsz hS hR hZ hVV
  go_enter Tryz.func4, Tryz.ntmps4
  go_wp2_with (first
    | (go_at_call 7; (with_reducible refine c7.mono ?_); rintro e w1 ⟨rfl, hb1⟩; clear c7; have k9 := C9.out w1 hb1)
    | (go_at_call 9; (with_reducible refine k9.mono ?_); rintro e w2 ⟨p, A, c, E, M, rfl, HT⟩; have z2 := hb1.trans (HT.out.1.mono hb1.size); have hcv2 := HCV.out w2 z2; have k10 := C10.out w2)
    | (go_at_call 10; (with_reducible refine k10.mono ?_); rintro e w3 ⟨A', c', rfl, HS⟩; clear hcv2; have z3 := z2.trans (HS.out.1.mono z2.size); have k13 := C13.out w3 p A c (HT.out.2.below HS.out.1))
    | (go_at_call 13; (with_reducible refine k13.mono ?_); rintro e w4 ⟨A4, c4, rfl, hb4, hV4⟩; have z4 := z3.trans (hb4.mono z3.size); have k14 := C14.out w4 A' c' (HS.out.2.below hb4))
    | (go_at_call 14; (with_reducible refine k14.mono ?_); rintro e w5 ⟨hb5, A5, c5, rfl, hV5⟩; have z5 := z4.trans (hb5.mono z4.size); have HV5 := Lib.hid hV5; clear hV5; have k12 := same17 A4 A5 Z.length c4 c5 Z w5 (hV4.out.below hb5) HV5.out (by omega))
    | (go_at_call 12; (with_reducible refine k12.mono ?_); rintro e w6 ⟨rfl, q, rfl⟩))
  go_ret
  exact ⟨rfl, below_drewN z5 q⟩
end Go.Proofs.YtdbnegllncjhkaaGreatDoor.propPoints
namespace Go.Proofs.YtdbnegllncjhkaaGreatDoor.propOthers
open Go.RowKit Go.Shelf
/-- It is let go. -/
def letB (len0 : Nat) (S U : ByteArray) : Prop := 800 < len0 ∨ 30 < S.size ∨ 30 < U.size ∨ S.toList.isEmpty = true
set_option maxRecDepth 100000 in
set_option maxHeartbeats 2000000 in
theorem walk_long (a0 : Option Addr) (len0 cap0 : Nat) (S U : ByteArray) (w : World) (hM : ML w) (h : letB len0 S U) :
    Calls Tryz.prog 5 #[.slice a0 len0 cap0, .string S, .string U] w fun e w' => e = .returned (.bool true) ∧ Below w.heap.size w w' := by
  have c7 := awake7 w hM
  have C7 := Lib.hid (fun w1 (hb : Below w.heap.size w w1) => awake7 w1 (hM.below hb))
  clear hM
  have hc : decide (800 < (len0 : Int)) = true ∨ (decide (800 < (len0 : Int)) = false ∧ decide (30 < (S.size : Int)) = true) ∨ (decide (800 < (len0 : Int)) = false ∧ decide (30 < (S.size : Int)) = false ∧ decide (30 < (U.size : Int)) = true) ∨ (decide (800 < (len0 : Int)) = false ∧ decide (30 < (S.size : Int)) = false ∧ decide (30 < (U.size : Int)) = false ∧ S.toList.isEmpty = true) := by
    by_cases h1 : 800 < len0
    · exact .inl (decide_eq_true (by omega))
    · have e1 : decide (800 < (len0 : Int)) = false := decide_eq_false (by omega)
      by_cases h2 : 30 < S.size
      · exact .inr (.inl ⟨e1, decide_eq_true (by omega)⟩)
      · have e2 : decide (30 < (S.size : Int)) = false := decide_eq_false (by omega)
        by_cases h3 : 30 < U.size
        · exact .inr (.inr (.inl ⟨e1, e2, decide_eq_true (by omega)⟩))
        · refine .inr (.inr (.inr ⟨e1, e2, decide_eq_false (by omega), ?_⟩))
          rcases h with h | h | h | h
          · exact absurd h h1
          · exact absurd h h2
          · exact absurd h h3
          · exact h
  clear h
  rcases hc with d1 | ⟨d1, d2⟩ | ⟨d1, d2, d3⟩ | ⟨d1, d2, d3, d4⟩
  all_goals
    go_enter Tryz.func5, Tryz.ntmps5
    go_wp2_with (first
      | (go_at_call 7; (with_reducible refine c7.mono ?_); rintro e w1 ⟨rfl, hb1⟩; clear c7; have k7 := C7.out w1 hb1)
      | (go_at_call 7; (with_reducible refine k7.mono ?_); rintro e w2 ⟨rfl, hb2⟩))
    go_ret
    exact ⟨rfl, hb1.trans (hb2.mono hb1.size)⟩
set_option maxRecDepth 100000 in
set_option maxHeartbeats 4000000 in
theorem walk_ok (a0 : Option Addr) (len0 cap0 : Nat) (l v o : List UInt8) (w : World) (hM : ML w) (hO : Octs w a0 len0 l) (h : len0 ≤ 800) (hv : v.length ≤ 30) (ho : o.length ≤ 30) (hne : ¬ v = []) (hf : (propOf [v, o] (linesIn l)).err = 0) :
    Calls Tryz.prog 5 #[.slice a0 len0 cap0, .string (bs v), .string (bs o)] w fun e w' => e = .returned (.bool true) ∧ Below w.heap.size w w' := by
  have hll := hO.len
  obtain ⟨he, -, hpts⟩ := others_points v o (linesIn l) hf
  have hmany := prp_many [v] l
  have hmany2 := prp_many [v, o] l
  have hgood := prp_good [v] (linesIn l)
  have hgood2 := prp_good [v, o] (linesIn l)
  have hsz := bs_size v
  have hsz2 := bs_size o
  have hem := bs_some hne
  have c7 := awake7 w hM
  have b1 : ∀ (W : World) ob, Below W.heap.size W (W.alloc ob) := fun W ob => (Below.refl _ _).alloc (Nat.le_refl _) _
  have C9 := Lib.hid (fun w1 (hb : Below w.heap.size w w1) => pp_ok a0 len0 cap0 l (some ⟨w1.heap.size, 0, none⟩) 1 1 [v] (w1.alloc (.cells #[.string (bs v)] 9)) ((hO.below hb).below (b1 _ _)) (by omega) (one_val w1 v) (by omega) ((hM.below hb).below (b1 _ _)) he)
  have D9 := Lib.hid (fun w1 (hb : Below w.heap.size w w1) => pp_ok a0 len0 cap0 l (some ⟨w1.heap.size, 0, none⟩) 2 2 [v, o] (w1.alloc (.cells #[.string (bs v), .string (bs o)] 9)) ((hO.below hb).below (b1 _ _)) (by omega) (two_val w1 v o) (by omega) ((hM.below hb).below (b1 _ _)) hf)
  obtain ⟨R, hR⟩ : ∃ R, propOf [v] (linesIn l) = R := ⟨_, rfl⟩
  obtain ⟨Q, hQ⟩ : ∃ R, propOf [v, o] (linesIn l) = R := ⟨_, rfl⟩
  rw [hR] at C9 hmany hgood hpts
  rw [hQ] at D9 hmany2 hgood2 hpts
  have hml : (sorted R.rows).length ≤ 100000 := by rw [sorted_length]; omega
  have hml2 : (sorted Q.rows).length ≤ 100000 := by rw [sorted_length]; omega
  have C13 := Lib.hid (fun (W : World) (p A : Option Addr) (c : Nat) (hT : TIn W p A c (sorted R.rows)) => ppoints13 p A c (sorted R.rows) v W hT hgood hml)
  have D13 := Lib.hid (fun (W : World) (p A : Option Addr) (c : Nat) (hT : TIn W p A c (sorted Q.rows)) => ppoints13 p A c (sorted Q.rows) v W hT hgood2 hml2)
  unfold PoPost at C13 D13
  rw [hpts] at C13
  have hpl : ((pointsOf (sorted Q.rows) v).take 4096).length ≤ 4096 := by rw [List.length_take]; omega
  obtain ⟨Z, hZ⟩ : ∃ Z, (pointsOf (sorted Q.rows) v).take 4096 = Z := ⟨_, rfl⟩
  rw [hZ] at C13 D13 hpl
  obtain ⟨VV, hVV⟩ : ∃ S, bs v = S := ⟨_, rfl⟩
  obtain ⟨OO, hOO⟩ : ∃ S, bs o = S := ⟨_, rfl⟩
  rw [hVV] at C9 D9 C13 D13 hsz hem ⊢
  rw [hOO] at D9 hsz2 ⊢
  have d1 : decide (800 < (len0 : Int)) = false := decide_eq_false (by omega)
  have d2 : decide (30 < (VV.size : Int)) = false := decide_eq_false (by omega)
  have d3 : decide (30 < (OO.size : Int)) = false := decide_eq_false (by omega)
  have s1 : VV.size ≤ 30 := by omega
  have s2 : OO.size ≤ 30 := by omega
  have HB1 := Lib.hid b1
  clear hM hO hll hmany hmany2 hgood hgood2 hsz hsz2 hR hQ hZ hVV hOO hpts he hf b1
  go_enter Tryz.func5, Tryz.ntmps5
  go_wp2_with (first
    | (go_at_call 7; (with_reducible refine c7.mono ?_); rintro e w1 ⟨rfl, hb1⟩; clear c7; have k9 := C9.out w1 hb1)
    | (go_at_call 9; (with_reducible refine k9.mono ?_); rintro e w2 ⟨p, A, c, rfl, HT⟩; have y2 := (HB1.out w1 (.cells #[.string VV] 9)).trans (HT.out.1.mono (HB1.out w1 _).size); have z2 := hb1.trans (y2.mono hb1.size); have j9 := D9.out w2 z2)
    | (go_at_call 9; (with_reducible refine j9.mono ?_); rintro e w3 ⟨p', A', c', rfl, HU⟩; have y3 := (HB1.out w2 (.cells #[.string VV, .string OO] 9)).trans (HU.out.1.mono (HB1.out w2 _).size); have z3 := z2.trans (y3.mono z2.size); have k13 := C13.out w3 _ A c (HT.out.2.below y3))
    | (go_at_call 13; (with_reducible refine k13.mono ?_); rintro e w4 ⟨A4, c4, rfl, hb4, hV4⟩; have z4 := z3.trans (hb4.mono z3.size); have j13 := D13.out w4 _ A' c' (HU.out.2.below hb4); clear k13)
    | (go_at_call 13; (with_reducible refine j13.mono ?_); rintro e w5 ⟨A5, c5, rfl, hb5, hV5⟩; have z5 := z4.trans (hb5.mono z4.size); have k12 := same17 A4 A5 Z.length c4 c5 Z w5 (hV4.out.below hb5) hV5.out (by omega))
    | (go_at_call 12; (with_reducible refine k12.mono ?_); rintro e w6 ⟨rfl, q, rfl⟩))
  go_ret
  exact ⟨rfl, below_drewN z5 q⟩
set_option maxRecDepth 100000 in
set_option maxHeartbeats 4000000 in
theorem walk_no (a0 : Option Addr) (len0 cap0 : Nat) (l v o : List UInt8) (w : World) (hM : ML w) (hO : Octs w a0 len0 l) (h : len0 ≤ 800) (hv : v.length ≤ 30) (ho : o.length ≤ 30) (hne : ¬ v = []) (hf : ¬ (propOf [v, o] (linesIn l)).err = 0) :
    Calls Tryz.prog 5 #[.slice a0 len0 cap0, .string (bs v), .string (bs o)] w fun e w' => e = .returned (.bool true) ∧ Below w.heap.size w w' := by
  have hll := hO.len
  have hsz := bs_size v
  have hsz2 := bs_size o
  have hem := bs_some hne
  have c7 := awake7 w hM
  have b1 : ∀ (W : World) ob, Below W.heap.size W (W.alloc ob) := fun W ob => (Below.refl _ _).alloc (Nat.le_refl _) _
  have D9 := Lib.hid (fun w1 (hb : Below w.heap.size w w1) => pp_no a0 len0 cap0 l (some ⟨w1.heap.size, 0, none⟩) 2 2 [v, o] (w1.alloc (.cells #[.string (bs v), .string (bs o)] 9)) ((hO.below hb).below (b1 _ _)) (by omega) (two_val w1 v o) (by omega) ((hM.below hb).below (b1 _ _)) hf)
  have C9 := Lib.hid (fun w1 (hb : Below w.heap.size w w1) => pparse9 a0 len0 cap0 l (some ⟨w1.heap.size, 0, none⟩) 1 1 [v] (w1.alloc (.cells #[.string (bs v)] 9)) ((hO.below hb).below (b1 _ _)) (by omega) (one_val w1 v) (by omega) ((hM.below hb).below (b1 _ _)))
  obtain ⟨Q, hQ⟩ : ∃ R, propOf [v, o] (linesIn l) = R := ⟨_, rfl⟩
  rw [hQ] at D9 hf
  obtain ⟨E, hE⟩ : ∃ E, Q.err = E := ⟨_, rfl⟩
  obtain ⟨M, hMM⟩ : ∃ M, Q.num = M := ⟨_, rfl⟩
  rw [hE] at D9 hf
  rw [hMM] at D9
  have hx1 : (E == 0) = false := beq_false_of_ne hf
  have hx2 : (E != 0) = true := bne_iff_ne.2 hf
  have HB1 := Lib.hid b1
  have d1 : decide (800 < (len0 : Int)) = false := decide_eq_false (by omega)
  by_cases he : (propOf [v] (linesIn l)).err = 0
  · have C9' : Hid (∀ w1, Below w.heap.size w w1 → Calls Tryz.prog 9 #[.slice a0 len0 cap0, .slice (some ⟨w1.heap.size, 0, none⟩) 1 1] (w1.alloc (.cells #[.string (bs v)] 9)) fun e w' => ∃ p, e = .returned (.tuple #[.pointer p, .int .i64 0, .int .i64 0]) ∧ Below (w1.alloc (.cells #[.string (bs v)] 9)).heap.size (w1.alloc (.cells #[.string (bs v)] 9)) w') := Lib.hid (fun w1 hb => (C9.out w1 hb).mono (by
      rintro e w' ⟨hb', ⟨-, b, A, c, rfl, -⟩ | ⟨h1, -⟩⟩
      · exact ⟨_, rfl, hb'⟩
      · exact absurd he h1))
    obtain ⟨VV, hVV⟩ : ∃ S, bs v = S := ⟨_, rfl⟩
    obtain ⟨OO, hOO⟩ : ∃ S, bs o = S := ⟨_, rfl⟩
    rw [hVV] at C9' D9 hsz hem ⊢
    rw [hOO] at D9 hsz2 ⊢
    have d2 : decide (30 < (VV.size : Int)) = false := decide_eq_false (by omega)
    have d3 : decide (30 < (OO.size : Int)) = false := decide_eq_false (by omega)
    have s1 : VV.size ≤ 30 := by omega
    have s2 : OO.size ≤ 30 := by omega
    clear hM hO hll hsz hsz2 hQ hVV hOO b1 C9 he hE hMM
    go_enter Tryz.func5, Tryz.ntmps5
    go_wp2_with (first
      | (go_at_call 7; (with_reducible refine c7.mono ?_); rintro e w1 ⟨rfl, hb1⟩; clear c7; have k9 := C9'.out w1 hb1)
      | (go_at_call 9; (with_reducible refine k9.mono ?_); rintro e w2 ⟨p, rfl, hb2⟩; have y2 := (HB1.out w1 (.cells #[.string VV] 9)).trans (hb2.mono (HB1.out w1 _).size); have z2 := hb1.trans (y2.mono hb1.size); have j9 := D9.out w2 z2)
      | (go_at_call 9; (with_reducible refine j9.mono ?_); rintro e w3 ⟨A', c', rfl, HU⟩; have y3 := (HB1.out w2 (.cells #[.string VV, .string OO] 9)).trans (HU.out.1.mono (HB1.out w2 _).size); have z3 := z2.trans (y3.mono z2.size)))
    go_ret
    exact ⟨rfl, z3⟩
  · obtain ⟨E1, hE1⟩ : ∃ E, (propOf [v] (linesIn l)).err = E := ⟨_, rfl⟩
    obtain ⟨M1, hM1⟩ : ∃ E, (propOf [v] (linesIn l)).num = E := ⟨_, rfl⟩
    have C9' : Hid (∀ w1, Below w.heap.size w w1 → Calls Tryz.prog 9 #[.slice a0 len0 cap0, .slice (some ⟨w1.heap.size, 0, none⟩) 1 1] (w1.alloc (.cells #[.string (bs v)] 9)) fun e w' => e = .returned (.tuple #[.pointer none, .int .i64 E1, .int .i64 M1]) ∧ Below (w1.alloc (.cells #[.string (bs v)] 9)).heap.size (w1.alloc (.cells #[.string (bs v)] 9)) w') := Lib.hid (fun w1 hb => (C9.out w1 hb).mono (by
      rintro e w' ⟨hb', ⟨h1, -⟩ | ⟨-, rfl⟩⟩
      · exact absurd h1 he
      · exact ⟨by rw [hE1, hM1], hb'⟩))
    rw [hE1] at he
    have hx3 : (E1 == 0) = false := beq_false_of_ne he
    have hx4 : (E1 != 0) = true := bne_iff_ne.2 he
    obtain ⟨VV, hVV⟩ : ∃ S, bs v = S := ⟨_, rfl⟩
    obtain ⟨OO, hOO⟩ : ∃ S, bs o = S := ⟨_, rfl⟩
    rw [hVV] at C9' D9 hsz hem ⊢
    rw [hOO] at D9 hsz2 ⊢
    have d2 : decide (30 < (VV.size : Int)) = false := decide_eq_false (by omega)
    have d3 : decide (30 < (OO.size : Int)) = false := decide_eq_false (by omega)
    have s1 : VV.size ≤ 30 := by omega
    have s2 : OO.size ≤ 30 := by omega
    clear hM hO hll hsz hsz2 hQ hVV hOO b1 C9 hE hMM hE1 hM1
    go_enter Tryz.func5, Tryz.ntmps5
    go_wp2_with (first
      | (go_at_call 7; (with_reducible refine c7.mono ?_); rintro e w1 ⟨rfl, hb1⟩; clear c7; have k9 := C9'.out w1 hb1)
      | (go_at_call 9; (with_reducible refine k9.mono ?_); rintro e w2 ⟨rfl, hb2⟩; have y2 := (HB1.out w1 (.cells #[.string VV] 9)).trans (hb2.mono (HB1.out w1 _).size); have z2 := hb1.trans (y2.mono hb1.size); have j9 := D9.out w2 z2)
      | (go_at_call 9; (with_reducible refine j9.mono ?_); rintro e w3 ⟨A', c', rfl, HU⟩; have y3 := (HB1.out w2 (.cells #[.string VV, .string OO] 9)).trans (HU.out.1.mono (HB1.out w2 _).size); have z3 := z2.trans (y3.mono z2.size)))
    go_ret
    exact ⟨rfl, z3⟩
end Go.Proofs.YtdbnegllncjhkaaGreatDoor.propOthers
