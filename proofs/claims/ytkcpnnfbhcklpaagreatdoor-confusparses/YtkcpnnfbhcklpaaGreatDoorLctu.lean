/- The law ConfusTurned, walked. -/
import Derived.Test.YtkcpnnfbhcklpaaGreatDoorClaw
import Derived.Test.YtkcpnnfbhcklpaaGreatDoorLtn
import Derived.Test.YtkcpnnfbhcklpaaGreatDoorRst
import Derived.Test.YtkcpnnfbhcklpaaGreatDoorCut
import Derived.Laws.IdiomStrings
namespace Go.Proofs.YtkcpnnfbhcklpaaGreatDoor.confusTurned
open Go.RowKit Go.Shelf

/-- The octets of a text, laid as a row. -/
theorem bytes_octs (w : World) (l : List UInt8) : ∃ (c : Nat) (o : Obj), (convert 9 22 (.string (bs l))).run Tryz.prog w = .ok (.slice (some ⟨w.heap.size, 0, none⟩) l.length c) ((w.alloc o).drew) ∧ Octs ((w.alloc o).drew) (some ⟨w.heap.size, 0, none⟩) l.length l := by
  suffices hh : ∃ (c : Nat) (o : Obj), (convert 9 22 (.string (bs l))).run Tryz.prog w = .ok (.slice (some ⟨w.heap.size, 0, none⟩) l.length c) (w.drew.alloc o) ∧ Octs (w.drew.alloc o) (some ⟨w.heap.size, 0, none⟩) l.length l from hh
  have h := run_bytes_of_string (P := Tryz.prog) w 9 22 5 (bs l) Tryz.underlying9 Tryz.underlying22 Tryz.underlying5
  rw [bs_size] at h
  refine ⟨_, _, h, ?_⟩
  refine ⟨by unfold nums; rw [List.length_map, ints_length], fun _ => ⟨w.heap.size, 0, rfl, by simp, fun j v hj => ?_⟩⟩
  have hjl : j < l.length := by
    have := (List.getElem?_eq_some_iff.1 hj).1
    unfold nums at this
    rwa [List.length_map, ints_length] at this
  have hh := World.alloc_heap_new w.drew (.cells (bytesRow (bs l) (grownCap w l.length 0 5)) 5 ((bytesRow (bs l) (grownCap w l.length 0 5)).size, (bytesRow (bs l) (grownCap w l.length 0 5)).size + 1))
  rw [cell_of_row _ w.heap.size _ _ 5 _ hh, Nat.zero_add]
  unfold bytesRow
  rw [Array.getElem?_append_left (by rw [Array.size_map]; show j < (bs l).data.size; simp [bs]; exact hjl)]
  unfold nums ints at hj
  rw [List.map_map, List.getElem?_map, List.getElem?_eq_getElem hjl] at hj
  rw [Array.getElem?_map]
  have e : (bs l).data[j]? = some l[j] := by simp [bs, hjl]
  rw [e]
  exact hj
set_option maxRecDepth 100000 in
set_option maxHeartbeats 1000000 in
theorem walk_long (a0 : Option Addr) (len0 cap0 : Nat) (t : Int) (w : World) (hM : ML w) (h : 800 < len0) :
    Calls Tryz.prog 5 #[.slice a0 len0 cap0, .int .i64 t] w fun e w' => e = .returned (.bool true) ∧ Below w.heap.size w w' := by
  have c7 := cawake6 w hM
  have C7 := Lib.hid (fun w1 (hb : Below w.heap.size w w1) => cawake6 w1 (hM.below hb))
  have hd : decide (800 < (len0 : Int)) = true := decide_eq_true (by omega)
  clear hM
  go_enter Tryz.func5, Tryz.ntmps5
  go_wp2_with (first
    | (go_at_call 6; (with_reducible refine c7.mono ?_); rintro e w1 ⟨rfl, hb1⟩; clear c7; have k7 := C7.out w1 hb1)
    | (go_at_call 6; (with_reducible refine k7.mono ?_); rintro e w2 ⟨rfl, hb2⟩))
  go_ret
  exact ⟨rfl, hb1.trans (hb2.mono hb1.size)⟩
set_option maxRecDepth 100000 in
set_option maxHeartbeats 4000000 in
theorem walk_no (a0 : Option Addr) (len0 cap0 : Nat) (l : List UInt8) (t : Int) (w : World) (hM : ML w) (hO : Octs w a0 len0 l) (h : len0 ≤ 800) (he : ¬ (cfOf (linesIn l)).err = 0) :
    Calls Tryz.prog 5 #[.slice a0 len0 cap0, .int .i64 t] w fun e w' => e = .returned (.bool true) ∧ Below w.heap.size w w' := by
  have hll := hO.len
  have hPl := cutAll_length 10 l
  have hP0 : 0 < (cutAll 10 l).length := List.length_pos_iff.2 (cutAll_ne 10 l)
  obtain ⟨n, hn⟩ : ∃ n, (cutAll 10 l).length = n := ⟨_, rfl⟩
  have hn0 : 0 < n := by omega
  have hn1 : n ≤ 801 := by omega
  have hRlt : restOf t n < n := rest_lt (by omega)
  have hel := end_rot l (restOf t n)
  have hpm : ∀ p ∈ cutAll 10 l, p.length ≤ 801 := fun p hp => by have := cutAll_mem_length 10 l p hp; omega
  have c7 := cawake6 w hM
  have C9 := Lib.hid (fun w1 (hb : Below w.heap.size w w1) => cp_no a0 len0 cap0 l w1 (hO.below hb) (by omega) (hM.below hb) he)
  have C15 := Lib.hid (fun w1 => show Calls Tryz.prog 14 #[.string (bs l), .int .u8 10] w1 (CutPost 10 l w1) from cut20 10 l w1 (by omega))
  unfold CutPost at C15
  have C16 := Lib.hid (fun w1 => show Calls Tryz.prog 15 #[.int .i64 t, .int .i64 n] w1 fun e w' => e = .returned (.int .i64 (restOf t n)) ∧ w1 = w' from (rest20 t n w1 (by omega) (by omega)).mono fun e w' h => ⟨h.1, h.2.symm⟩)
  have D9 := Lib.hid (fun (w1 : World) (A : Option Addr) (m c : Nat) (hm : m ≤ 2000) (ho : Octs w1 A m (endAll (rotL (cutAll 10 l) (restOf t n)))) (hml : ML w1) => cp_any A m c (endAll (rotL (cutAll 10 l) (restOf t n))) w1 ho hm hml)
  have HCV := Lib.hid (fun w1 (hb : Below w.heap.size w w1) => conv22 cap0 (hO.below hb))
  have HML := Lib.hid (fun w1 (hb : Below w.heap.size w w1) => hM.below hb)
  obtain ⟨R, hR⟩ : ∃ R, restOf t n = R := ⟨_, rfl⟩
  rw [hR] at D9 C16 hRlt hel
  obtain ⟨Q, hQ⟩ : ∃ Q, rotL (cutAll 10 l) R = Q := ⟨_, rfl⟩
  have HGET := Lib.hid (fun k (hk : k < n) => rotL_get hn hRlt hk)
  rw [hQ] at D9 hel HGET
  have hQl : Q.length = n := by rw [← hQ, ← (rotL_perm (cutAll 10 l) R).length_eq, hn]
  have HQL := Lib.hid hQl
  have HEL := Lib.hid hel
  rw [hn] at C15
  obtain ⟨P, hP⟩ : ∃ P, cutAll 10 l = P := ⟨_, rfl⟩
  rw [hP] at C15 HGET hpm hn
  have HPN := Lib.hid hn
  have HPM := Lib.hid hpm
  obtain ⟨S, hS⟩ : ∃ S, bs l = S := ⟨_, rfl⟩
  rw [hS] at C15 HCV
  obtain ⟨E, hE⟩ : ∃ E, (cfOf (linesIn l)).err = E := ⟨_, rfl⟩
  rw [hE] at C9 he
  have hx1 : (E == 0) = false := beq_false_of_ne he
  have hx2 : (E != 0) = true := bne_iff_ne.2 he
  have hd : decide (800 < (len0 : Int)) = false := decide_eq_false (by omega)
  have HLL := Lib.hid hll
  clear hM hO he hE hll hR hQ hQl hel hP hpm hS hPl hP0
  go_enter Tryz.func5, Tryz.ntmps5
  go_wp2_with (first
    | (go_at_call 6; (with_reducible refine c7.mono ?_); rintro e w1 ⟨rfl, hb1⟩; clear c7; have k9 := C9.out w1 hb1)
    | (go_at_call 7; (with_reducible refine k9.mono ?_); rintro e w2 ⟨rfl, HT⟩; have z2 := hb1.trans (HT.out.1.mono hb1.size); have hcv2 := HCV.out w2 z2; have k15 := C15.out w2)
    | (go_at_call 14; (with_reducible refine k15.mono ?_); rintro e w3 ⟨hb3, Ac, cc, rfl, hVc⟩; clear hcv2; have HVC := Lib.hid hVc; clear hVc; have z3 := z2.trans (hb3.mono z2.size); have k16 := C16.out w3)
    | (go_at_call 15; (with_reducible refine k16.mono ?_); rintro e w' ⟨rfl, rfl⟩))
  clear k9 k15 k16 C9 C15 C16
  have Z3 := Lib.hid z3
  go_loop [9, 11] (fun s i => ∃ k : Nat, i = .int .i64 k ∧ k ≤ n ∧ s = .string (bs (endAll (Q.take k)))) (fun _ i => n - (intOf i).toNat)
  case atStart => exact ⟨0, rfl, Nat.zero_le _, rfl⟩
  case round =>
    obtain ⟨k, rfl, hk, rfl⟩ := hrel
    have hsz : (bs (endAll (Q.take k))).size ≤ 900 := by
      rw [bs_size]
      have h1 := end_take Q k
      have h2 := HEL.out
      have h3 := HLL.out
      omega
    by_cases hlt : k < n
    · obtain ⟨p, hp⟩ : ∃ p, P[(k + R) % n]? = some p := ⟨_, List.getElem?_eq_getElem (by rw [HPN.out]; exact Nat.mod_lt _ hn0)⟩
      have hqk : Q[k]? = some p := by rw [HGET.out k hlt]; exact hp
      have HSN := Lib.hid (end_snoc hqk)
      have hpl := HPM.out p (List.mem_of_getElem? hp)
      obtain ⟨bV, oV, rfl, -, hcV⟩ := HVC.out.2 hn0
      have hMlt : (k + R) % n < n := Nat.mod_lt _ hn0
      have g1 : w3.cell? ⟨bV, oV + (k + R) % n, none⟩ = some (.string (bs p)) := hcV _ _ (by rw [strs_get (by rw [HPN.out]; exact hMlt), List.getD_eq_getElem?_getD, hp]; rfl)
      obtain ⟨M, hMM⟩ : ∃ M, (k + R) % n = M := ⟨_, rfl⟩
      have hMI : ((k : Int) + (R : Int)).tmod (n : Int) = (M : Int) := by
        rw [← hMM, Int.tmod_eq_emod_of_nonneg (by omega)]
        push_cast
        rfl
      rw [hMM] at g1 hMlt
      have hcat1 := bs_append (endAll (Q.take k)) p
      have hcat2 := bs_append (endAll (Q.take k) ++ p) [10]
      have hsz2 : (bs (endAll (Q.take k) ++ p)).size ≤ 1800 := by
        rw [bs_size] at hsz ⊢
        rw [List.length_append]
        omega
      have hszp : (bs p).size ≤ 900 := by rw [bs_size]; omega
      rw [show bs [10] = ⟨#[10]⟩ from rfl] at hcat2
      rw [← HSN.out] at hcat2
      obtain ⟨S0, hS0⟩ : ∃ S, bs (endAll (Q.take k)) = S := ⟨_, rfl⟩
      obtain ⟨SP, hSP⟩ : ∃ S, bs p = S := ⟨_, rfl⟩
      obtain ⟨S1, hS1⟩ : ∃ S, bs (endAll (Q.take k) ++ p) = S := ⟨_, rfl⟩
      obtain ⟨S2, hS2⟩ : ∃ S, bs (endAll (Q.take (k + 1))) = S := ⟨_, rfl⟩
      have HS2 := Lib.hid hS2
      rw [hS0, hSP, hS1] at hcat1
      rw [hS1, hS2] at hcat2
      rw [hS0] at hsz ⊢
      rw [hS1] at hsz2
      rw [hSP] at g1 hszp
      have hz : ((n : Int) == 0) = false := beq_false_of_ne (by omega)
      clear hp hqk hcV hMM hS0 hSP hS1 hS2 hpl
      go_wp2
      go_round
      case rel => exact ⟨k + 1, by go_num, by omega, by rw [HS2.out]⟩
      case measure => simp [intOf]; omega
    · have hke : k = n := by omega
      subst hke
      have hQQ : Q.take k = Q := List.take_of_length_le (by rw [HQL.out]; exact Nat.le_refl _)
      rw [hQQ]
      clear hQQ hsz HGET HPM
      obtain ⟨cb, ob, hby, hob⟩ := bytes_octs w3 (endAll Q)
      have hEl : (endAll Q).length ≤ 2000 := by have h1 := HEL.out; have h2 := HLL.out; omega
      have b3 : Below w3.heap.size w3 ((w3.alloc ob).drew) := below_drew ((Below.refl _ _).alloc (Nat.le_refl _) _)
      have z4 := Z3.out.trans (b3.mono Z3.out.size)
      have k9 := D9.out ((w3.alloc ob).drew) _ _ cb hEl hob (HML.out _ z4)
      obtain ⟨X, hX⟩ : ∃ X, bs (endAll Q) = X := ⟨_, rfl⟩
      obtain ⟨m, hm⟩ : ∃ m, (endAll Q).length = m := ⟨_, rfl⟩
      rw [hX] at hby ⊢
      rw [hm] at hby k9
      clear hX hm hob hEl
      go_wp2_with (first
        | (go_at_call 7; (with_reducible refine k9.mono ?_); rintro e w5 ⟨p', E', M', rfl, HU⟩; clear hby; have z5 := z4.trans (HU.out.1.mono z4.size)))
      go_ret
      exact ⟨rfl, z5⟩
set_option maxRecDepth 100000 in
set_option maxHeartbeats 4000000 in
theorem walk_ok (a0 : Option Addr) (len0 cap0 : Nat) (l : List UInt8) (t : Int) (w : World) (hM : ML w) (hO : Octs w a0 len0 l) (h : len0 ≤ 800) (he : (cfOf (linesIn l)).err = 0) :
    Calls Tryz.prog 5 #[.slice a0 len0 cap0, .int .i64 t] w fun e w' => e = .returned (.bool true) ∧ Below w.heap.size w w' := by
  have hll := hO.len
  have hmany := cf_many l
  have hnum := cf_num (linesIn l) he
  have hPl := cutAll_length 10 l
  have hP0 : 0 < (cutAll 10 l).length := List.length_pos_iff.2 (cutAll_ne 10 l)
  obtain ⟨n, hn⟩ : ∃ n, (cutAll 10 l).length = n := ⟨_, rfl⟩
  have hn0 : 0 < n := by omega
  have hn1 : n ≤ 801 := by omega
  have hRlt : restOf t n < n := rest_lt (by omega)
  have hr := cf_turned (lines_turned (rotL_perm (cutAll 10 l) (restOf t n))) he
  have hel := end_rot l (restOf t n)
  have hpm : ∀ p ∈ cutAll 10 l, p.length ≤ 801 := fun p hp => by have := cutAll_mem_length 10 l p hp; omega
  have c7 := cawake6 w hM
  have C9 := Lib.hid (fun w1 (hb : Below w.heap.size w w1) => cp_ok a0 len0 cap0 l w1 (hO.below hb) (by omega) (hM.below hb) he)
  have C15 := Lib.hid (fun w1 => show Calls Tryz.prog 14 #[.string (bs l), .int .u8 10] w1 (CutPost 10 l w1) from cut20 10 l w1 (by omega))
  unfold CutPost at C15
  have C16 := Lib.hid (fun w1 => show Calls Tryz.prog 15 #[.int .i64 t, .int .i64 n] w1 fun e w' => e = .returned (.int .i64 (restOf t n)) ∧ w1 = w' from (rest20 t n w1 (by omega) (by omega)).mono fun e w' h => ⟨h.1, h.2.symm⟩)
  have D9 := Lib.hid (fun (w1 : World) (A : Option Addr) (m c : Nat) (hm : m ≤ 2000) (ho : Octs w1 A m (endAll (rotL (cutAll 10 l) (restOf t n)))) (hml : ML w1) => cp_ok A m c (endAll (rotL (cutAll 10 l) (restOf t n))) w1 ho hm hml (by rw [hr]))
  have c10 := fun w1 => rc_any l w1 (by omega)
  rw [he, hnum] at c10
  have C10 := Lib.hid c10
  have HCV := Lib.hid (fun w1 (hb : Below w.heap.size w w1) => conv22 cap0 (hO.below hb))
  have HML := Lib.hid (fun w1 (hb : Below w.heap.size w w1) => hM.below hb)
  rw [hr] at D9
  obtain ⟨R, hR⟩ : ∃ R, restOf t n = R := ⟨_, rfl⟩
  rw [hR] at D9 C16 hRlt hel
  obtain ⟨Q, hQ⟩ : ∃ Q, rotL (cutAll 10 l) R = Q := ⟨_, rfl⟩
  have HGET := Lib.hid (fun k (hk : k < n) => rotL_get hn hRlt hk)
  rw [hQ] at D9 hel HGET
  have hQl : Q.length = n := by rw [← hQ, ← (rotL_perm (cutAll 10 l) R).length_eq, hn]
  have HQL := Lib.hid hQl
  have HEL := Lib.hid hel
  rw [hn] at C15
  obtain ⟨P, hP⟩ : ∃ P, cutAll 10 l = P := ⟨_, rfl⟩
  rw [hP] at C15 HGET hpm hn
  have HPN := Lib.hid hn
  have HPM := Lib.hid hpm
  obtain ⟨S, hS⟩ : ∃ S, bs l = S := ⟨_, rfl⟩
  rw [hS] at C10 C15 HCV
  obtain ⟨B, hB⟩ : ∃ B, (cfOf (linesIn l)).rows = B := ⟨_, rfl⟩
  rw [hB] at C9 C10 D9 hmany
  have hml : B.length ≤ 100000 := by omega
  obtain ⟨N, hN⟩ : ∃ N, B.length = N := ⟨_, rfl⟩
  rw [hN] at C10 hml
  have hd : decide (800 < (len0 : Int)) = false := decide_eq_false (by omega)
  have HLL := Lib.hid hll
  clear hM hO c10 he hnum hll hmany hr hR hQ hQl hel hP hpm hS hB hN hPl hP0
  go_enter Tryz.func5, Tryz.ntmps5
  go_wp2_with (first
    | (go_at_call 6; (with_reducible refine c7.mono ?_); rintro e w1 ⟨rfl, hb1⟩; clear c7; have k9 := C9.out w1 hb1)
    | (go_at_call 7; (with_reducible refine k9.mono ?_); rintro e w2 ⟨b, rfl, HT⟩; have z2 := hb1.trans (HT.out.1.mono hb1.size); have hcv2 := HCV.out w2 z2; have k15 := C15.out w2)
    | (go_at_call 14; (with_reducible refine k15.mono ?_); rintro e w3 ⟨hb3, Ac, cc, rfl, hVc⟩; clear hcv2; have HVC := Lib.hid hVc; clear hVc; have z3 := z2.trans (hb3.mono z2.size); have k16 := C16.out w3)
    | (go_at_call 15; (with_reducible refine k16.mono ?_); rintro e w' ⟨rfl, rfl⟩))
  clear k9 k15 k16 C9 C15 C16
  have Z3 := Lib.hid z3
  go_loop [9, 11] (fun s i => ∃ k : Nat, i = .int .i64 k ∧ k ≤ n ∧ s = .string (bs (endAll (Q.take k)))) (fun _ i => n - (intOf i).toNat)
  case atStart => exact ⟨0, rfl, Nat.zero_le _, rfl⟩
  case round =>
    obtain ⟨k, rfl, hk, rfl⟩ := hrel
    have hsz : (bs (endAll (Q.take k))).size ≤ 900 := by
      rw [bs_size]
      have h1 := end_take Q k
      have h2 := HEL.out
      have h3 := HLL.out
      omega
    by_cases hlt : k < n
    · obtain ⟨p, hp⟩ : ∃ p, P[(k + R) % n]? = some p := ⟨_, List.getElem?_eq_getElem (by rw [HPN.out]; exact Nat.mod_lt _ hn0)⟩
      have hqk : Q[k]? = some p := by rw [HGET.out k hlt]; exact hp
      have HSN := Lib.hid (end_snoc hqk)
      have hpl := HPM.out p (List.mem_of_getElem? hp)
      obtain ⟨bV, oV, rfl, -, hcV⟩ := HVC.out.2 hn0
      have hMlt : (k + R) % n < n := Nat.mod_lt _ hn0
      have g1 : w3.cell? ⟨bV, oV + (k + R) % n, none⟩ = some (.string (bs p)) := hcV _ _ (by rw [strs_get (by rw [HPN.out]; exact hMlt), List.getD_eq_getElem?_getD, hp]; rfl)
      obtain ⟨M, hMM⟩ : ∃ M, (k + R) % n = M := ⟨_, rfl⟩
      have hMI : ((k : Int) + (R : Int)).tmod (n : Int) = (M : Int) := by
        rw [← hMM, Int.tmod_eq_emod_of_nonneg (by omega)]
        push_cast
        rfl
      rw [hMM] at g1 hMlt
      have hcat1 := bs_append (endAll (Q.take k)) p
      have hcat2 := bs_append (endAll (Q.take k) ++ p) [10]
      have hsz2 : (bs (endAll (Q.take k) ++ p)).size ≤ 1800 := by
        rw [bs_size] at hsz ⊢
        rw [List.length_append]
        omega
      have hszp : (bs p).size ≤ 900 := by rw [bs_size]; omega
      rw [show bs [10] = ⟨#[10]⟩ from rfl] at hcat2
      rw [← HSN.out] at hcat2
      obtain ⟨S0, hS0⟩ : ∃ S, bs (endAll (Q.take k)) = S := ⟨_, rfl⟩
      obtain ⟨SP, hSP⟩ : ∃ S, bs p = S := ⟨_, rfl⟩
      obtain ⟨S1, hS1⟩ : ∃ S, bs (endAll (Q.take k) ++ p) = S := ⟨_, rfl⟩
      obtain ⟨S2, hS2⟩ : ∃ S, bs (endAll (Q.take (k + 1))) = S := ⟨_, rfl⟩
      have HS2 := Lib.hid hS2
      rw [hS0, hSP, hS1] at hcat1
      rw [hS1, hS2] at hcat2
      rw [hS0] at hsz ⊢
      rw [hS1] at hsz2
      rw [hSP] at g1 hszp
      have hz : ((n : Int) == 0) = false := beq_false_of_ne (by omega)
      clear hp hqk hcV hMM hS0 hSP hS1 hS2 hpl
      go_wp2
      go_round
      case rel => exact ⟨k + 1, by go_num, by omega, by rw [HS2.out]⟩
      case measure => simp [intOf]; omega
    · have hke : k = n := by omega
      subst hke
      have hQQ : Q.take k = Q := List.take_of_length_le (by rw [HQL.out]; exact Nat.le_refl _)
      rw [hQQ]
      clear hQQ hsz HGET HPM
      obtain ⟨cb, ob, hby, hob⟩ := bytes_octs w3 (endAll Q)
      have hEl : (endAll Q).length ≤ 2000 := by have h1 := HEL.out; have h2 := HLL.out; omega
      have b3 : Below w3.heap.size w3 ((w3.alloc ob).drew) := below_drew ((Below.refl _ _).alloc (Nat.le_refl _) _)
      have z4 := Z3.out.trans (b3.mono Z3.out.size)
      have k9 := D9.out ((w3.alloc ob).drew) _ _ cb hEl hob (HML.out _ z4)
      obtain ⟨X, hX⟩ : ∃ X, bs (endAll Q) = X := ⟨_, rfl⟩
      obtain ⟨m, hm⟩ : ∃ m, (endAll Q).length = m := ⟨_, rfl⟩
      rw [hX] at hby ⊢
      rw [hm] at hby k9
      clear hX hm hob hEl
      go_wp2_with (first
        | (go_at_call 7; (with_reducible refine k9.mono ?_); rintro e w5 ⟨b', rfl, HU⟩; clear hby; have z5 := z4.trans (HU.out.1.mono z4.size); have hcv5 := HCV.out w5 z5; have k10 := C10.out w5)
        | (go_at_call 8; (with_reducible refine k10.mono ?_); rintro e w6 ⟨A6, c6, qs, rfl, HS⟩; clear hcv5; have z6 := z5.trans (HS.out.1.mono z5.size); have k11 := is9 (some ⟨b', 0, none⟩) A6 N c6 qs _ 100000 w6 (HU.out.2.below HS.out.1) HS.out.2.1 HS.out.2.2 hml (by omega))
        | (go_at_call 9; (with_reducible refine k11.mono ?_); rintro e w7 ⟨rfl, hb7⟩))
      go_ret
      exact ⟨rfl, z6.trans (hb7.mono z6.size)⟩
end Go.Proofs.YtkcpnnfbhcklpaaGreatDoor.confusTurned
