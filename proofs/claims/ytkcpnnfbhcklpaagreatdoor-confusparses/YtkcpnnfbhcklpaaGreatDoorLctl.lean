/- The law ConfusTells, walked. -/
import Derived.Test.YtkcpnnfbhcklpaaGreatDoorClaw
import Derived.Test.YtkcpnnfbhcklpaaGreatDoorLoop
namespace Go.Proofs.YtkcpnnfbhcklpaaGreatDoor.confusTells
open Go.RowKit Go.Shelf

set_option maxRecDepth 100000 in
set_option maxHeartbeats 1000000 in
theorem walk_long (a0 : Option Addr) (len0 cap0 : Nat) (c : Int) (w : World) (hM : ML w) (h : 800 < len0) :
    Calls Tryz.prog 4 #[.slice a0 len0 cap0, .int .i64 c] w fun e w' => e = .returned (.bool true) ∧ Below w.heap.size w w' := by
  have c7 := cawake6 w hM
  have C7 := Lib.hid (fun w1 (hb : Below w.heap.size w w1) => cawake6 w1 (hM.below hb))
  have hd : decide (800 < (len0 : Int)) = true := decide_eq_true (by omega)
  clear hM
  go_enter Tryz.func4, Tryz.ntmps4
  go_wp2_with (first
    | (go_at_call 6; (with_reducible refine c7.mono ?_); rintro e w1 ⟨rfl, hb1⟩; clear c7; have k7 := C7.out w1 hb1)
    | (go_at_call 6; (with_reducible refine k7.mono ?_); rintro e w2 ⟨rfl, hb2⟩))
  go_ret
  exact ⟨rfl, hb1.trans (hb2.mono hb1.size)⟩
theorem proto_no {p : Option Addr} {ps : List Pp} {c : Int} {w : World} (h : CT w p ps) (hl : (Lit.int .i64 c).wf = true) (hf : findC ps c < 0) : Calls Tryz.prog 10 #[.pointer p, .int .i64 c] w fun e w' => ∃ A k, e = .returned (.tuple #[.slice A 0 k, .bool false]) ∧ Below w.heap.size w w' :=
  (cproto10 p ps c w h hl).mono (by
    rintro e w' ⟨hb, ⟨-, A, k, rfl⟩ | ⟨r, A, k, -, h1, -⟩⟩
    · exact ⟨A, k, rfl, hb⟩
    · omega)
theorem proto_yes {p : Option Addr} {ps : List Pp} {c : Int} {w : World} {r : Pp} (h : CT w p ps) (hl : (Lit.int .i64 c).wf = true) (hf : ¬ findC ps c < 0) (hr : ps[(findC ps c).toNat]? = some r) : Calls Tryz.prog 10 #[.pointer p, .int .i64 c] w fun e w' => ∃ A k, e = .returned (.tuple #[.slice A r.p.length k, .bool true]) ∧ Hid (Below w.heap.size w w' ∧ Vals w' A r.p.length (nums .i64 r.p)) :=
  (cproto10 p ps c w h hl).mono (by
    rintro e w' ⟨hb, ⟨h1, -⟩ | ⟨r', A, k, h1, -, rfl, hv⟩⟩
    · exact absurd h1 hf
    · rw [hr] at h1
      cases h1
      exact ⟨A, k, rfl, Lib.hid ⟨hb, hv⟩⟩)
set_option maxRecDepth 100000 in
set_option maxHeartbeats 4000000 in
theorem walk_none (a0 : Option Addr) (len0 cap0 : Nat) (c : Int) (l : List UInt8) (w : World) (hM : ML w) (hcw : (Lit.int .i64 c).wf = true) (hO : Octs w a0 len0 l) (h : len0 ≤ 800) (hf : findC (cfOf (linesIn l)).rows c < 0) :
    Calls Tryz.prog 4 #[.slice a0 len0 cap0, .int .i64 c] w fun e w' => e = .returned (.bool true) ∧ Below w.heap.size w w' := by
  have hll := hO.len
  have hmany := cf_many l
  have c7 := cawake6 w hM
  have C9 := Lib.hid (fun w1 (hb : Below w.heap.size w w1) => cp_any a0 len0 cap0 l w1 (hO.below hb) (by omega) (hM.below hb))
  have C10 := Lib.hid (fun w1 (_ : Below w.heap.size w w1) => rc_any l w1 (by omega))
  have HCV := Lib.hid (fun w1 (hb : Below w.heap.size w w1) => conv22 cap0 (hO.below hb))
  obtain ⟨S, hS⟩ : ∃ S, bs l = S := ⟨_, rfl⟩
  obtain ⟨R, hR⟩ : ∃ R, (cfOf (linesIn l)).rows = R := ⟨_, rfl⟩
  obtain ⟨E, hE⟩ : ∃ E, (cfOf (linesIn l)).err = E := ⟨_, rfl⟩
  obtain ⟨M, hMm⟩ : ∃ M, (cfOf (linesIn l)).num = M := ⟨_, rfl⟩
  rw [hR] at C9 C10 hmany hf
  rw [hE, hMm] at C10
  rw [hS] at C10 HCV
  have hd : decide (800 < (len0 : Int)) = false := decide_eq_false (by omega)
  have hml : R.length ≤ 100000 := by omega
  have C11 := Lib.hid (fun W A N ca qs (hN : R.length = N) (hP : PAt W A N qs) (hI : IsPs W qs R) => find11 A N ca qs R c W hP hI (by omega))
  obtain ⟨fi, hfi⟩ : ∃ fi, findC R c = fi := ⟨_, rfl⟩
  have HPN := Lib.hid (fun W p (hT : CT W p R) => proto_no (c := c) hT hcw hf)
  rw [hfi] at hf
  simp only [hfi] at C11
  have HN0 := Lib.hid (fun W => proto_no (p := none) (c := c) (ct_nil W) hcw (show findC [] c < 0 by show (-1 : Int) < 0; decide))
  have HLE := Lib.hid (fun W => clen13 none [] W (ct_nil W) (by simp))
  have HIS := Lib.hid (fun W => is9 none none 0 0 [] [] 9 W (ct_nil W) (PAt.nil _ _) trivial (by omega) (by omega))
  obtain ⟨N, hN⟩ : ∃ N, R.length = N := ⟨_, rfl⟩
  have HN := Lib.hid hN
  rw [hN] at C10 hml
  clear hM hO hll hS hR hE hMm hmany hN hfi
  go_enter Tryz.func4, Tryz.ntmps4
  go_wp2_with (first
    | (go_at_call 6; (with_reducible refine c7.mono ?_); rintro e w1 ⟨rfl, hb1⟩; clear c7; have k9 := C9.out w1 hb1)
    | (go_at_call 7; (with_reducible refine k9.mono ?_); rintro e w2 ⟨p, E', M', rfl, HT⟩; have z2 := hb1.trans (HT.out.1.mono hb1.size); have hcv2 := HCV.out w2 z2; have k10 := C10.out w2 z2)
    | (go_at_call 8; (with_reducible refine k10.mono ?_); rintro e w3 ⟨A', c', qs, rfl, HS⟩; have z3 := z2.trans (HS.out.1.mono z2.size); have kp := HPN.out w3 p (HT.out.2.below HS.out.1); clear hcv2)
    | (go_at_call 10; (with_reducible refine kp.mono ?_); rintro e w4 ⟨A4, k4, rfl, hb4⟩; have z4 := z3.trans (hb4.mono z3.size); have kf := C11.out w4 A' N c' qs HN.out (HS.out.2.1.below hb4) (HS.out.2.2.below hb4))
    | (go_at_call 11; (with_reducible refine kf.mono ?_); rintro e w5 ⟨rfl, rfl⟩; have kn := HN0.out w5)
    | (go_at_call 10; (with_reducible refine kn.mono ?_); rintro e w6 ⟨A6, k6, rfl, hb6⟩; have kl := HLE.out w6; have ki := HIS.out w6)
    | (go_at_call 13; (with_reducible refine kl.mono ?_); rintro e w7 ⟨rfl, rfl⟩)
    | (go_at_call 9; (with_reducible refine ki.mono ?_); rintro e w8 ⟨rfl, hb8⟩))
  go_ret
  have z6 := z4.trans (hb6.mono z4.size)
  exact ⟨rfl, z6.trans (hb8.mono z6.size)⟩
set_option maxRecDepth 100000 in
set_option maxHeartbeats 4000000 in
theorem walk_some (a0 : Option Addr) (len0 cap0 : Nat) (c : Int) (l : List UInt8) (w : World) (hM : ML w) (hcw : (Lit.int .i64 c).wf = true) (hO : Octs w a0 len0 l) (h : len0 ≤ 800) (hf : ¬ findC (cfOf (linesIn l)).rows c < 0) (hpl : ∀ r ∈ (cfOf (linesIn l)).rows, r.p.length ≤ 1000) :
    Calls Tryz.prog 4 #[.slice a0 len0 cap0, .int .i64 c] w fun e w' => e = .returned (.bool true) ∧ Below w.heap.size w w' := by
  have hll := hO.len
  have hmany := cf_many l
  have c7 := cawake6 w hM
  have C9 := Lib.hid (fun w1 (hb : Below w.heap.size w w1) => cp_any a0 len0 cap0 l w1 (hO.below hb) (by omega) (hM.below hb))
  have C10 := Lib.hid (fun w1 (_ : Below w.heap.size w w1) => rc_any l w1 (by omega))
  have HCV := Lib.hid (fun w1 (hb : Below w.heap.size w w1) => conv22 cap0 (hO.below hb))
  obtain ⟨S, hS⟩ : ∃ S, bs l = S := ⟨_, rfl⟩
  obtain ⟨R, hR⟩ : ∃ R, (cfOf (linesIn l)).rows = R := ⟨_, rfl⟩
  obtain ⟨E, hE⟩ : ∃ E, (cfOf (linesIn l)).err = E := ⟨_, rfl⟩
  obtain ⟨M, hMm⟩ : ∃ M, (cfOf (linesIn l)).num = M := ⟨_, rfl⟩
  rw [hR] at C9 C10 hmany hf hpl
  rw [hE, hMm] at C10
  rw [hS] at C10 HCV
  have hd : decide (800 < (len0 : Int)) = false := decide_eq_false (by omega)
  have hml : R.length ≤ 100000 := by omega
  have hfl := find_lt R c
  obtain ⟨j, hj⟩ : ∃ j : Nat, findC R c = (j : Int) := ⟨(findC R c).toNat, by omega⟩
  obtain ⟨r, hr⟩ : ∃ r, R[j]? = some r := ⟨_, List.getElem?_eq_getElem (by omega)⟩
  have hrp := hpl r (List.mem_of_getElem? hr)
  have C11 := Lib.hid (fun W A N ca qs (hN : R.length = N) (hP : PAt W A N qs) (hI : IsPs W qs R) => find11 A N ca qs R c W hP hI (by omega))
  have HPN := Lib.hid (fun W p (hT : CT W p R) => proto_yes (c := c) hT hcw hf (by rw [hj]; exact hr))
  simp only [hj] at C11
  have HCL : Hid (∀ W A N qs, PAt W A N qs → IsPs W qs R → ∃ b off Aq cq, A = some ⟨b, off, none⟩ ∧ j < N ∧ W.cell? ⟨b, off + j * 2 + 1, none⟩ = some (.slice Aq r.p.length cq) ∧ Vals W Aq r.p.length (nums .i64 r.p)) := Lib.hid fun W A N qs hP hI => by
    have hjR : j < R.length := by omega
    have hql := hI.len
    have hNq := hP.1
    obtain ⟨b, off, rfl, -, hc⟩ := hP.2 (by omega)
    obtain ⟨q, hq⟩ : ∃ q, qs[j]? = some q := ⟨_, List.getElem?_eq_getElem (by omega)⟩
    obtain ⟨r', hr', hqr⟩ := hI.get hq
    rw [hr] at hr'
    cases hr'
    have h2 := (hc j q hq).2
    have h3 := hqr.2.2
    rw [hqr.2.1] at h2 h3
    exact ⟨b, off, q.A, q.cap, rfl, by omega, h2, h3⟩
  have HN0 := Lib.hid (fun W => proto_no (p := none) (c := c) (ct_nil W) hcw (show findC [] c < 0 by show (-1 : Int) < 0; decide))
  have HLE := Lib.hid (fun W => clen13 none [] W (ct_nil W) (by simp))
  have HIS := Lib.hid (fun W => is9 none none 0 0 [] [] 9 W (ct_nil W) (PAt.nil _ _) trivial (by omega) (by omega))
  obtain ⟨N, hN⟩ : ∃ N, R.length = N := ⟨_, rfl⟩
  have HN := Lib.hid hN
  rw [hN] at C10 hml
  have HRP := Lib.hid hrp
  obtain ⟨m, hm⟩ : ∃ m, r.p.length = m := ⟨_, rfl⟩
  simp only [hm] at HPN HCL
  have HM := Lib.hid hm
  clear hM hO hll hS hR hE hMm hmany hN hj hr hf hfl hpl hrp hm
  go_enter Tryz.func4, Tryz.ntmps4
  go_wp2_with (first
    | (go_at_call 6; (with_reducible refine c7.mono ?_); rintro e w1 ⟨rfl, hb1⟩; clear c7; have k9 := C9.out w1 hb1)
    | (go_at_call 7; (with_reducible refine k9.mono ?_); rintro e w2 ⟨p, E', M', rfl, HT⟩; have z2 := hb1.trans (HT.out.1.mono hb1.size); have hcv2 := HCV.out w2 z2; have k10 := C10.out w2 z2)
    | (go_at_call 8; (with_reducible refine k10.mono ?_); rintro e w3 ⟨A', c', qs, rfl, HS⟩; have z3 := z2.trans (HS.out.1.mono z2.size); have kp := HPN.out w3 p (HT.out.2.below HS.out.1); clear hcv2)
    | (go_at_call 10; (with_reducible refine kp.mono ?_); rintro e w4 ⟨A4, k4, rfl, H4⟩; have z4 := z3.trans (H4.out.1.mono z3.size); have kf := C11.out w4 A' N c' qs HN.out (HS.out.2.1.below H4.out.1) (HS.out.2.2.below H4.out.1); obtain ⟨b5, o5, Aq, cq, rfl, hjN, hcq, hvq⟩ := HCL.out w4 A' N qs (HS.out.2.1.below H4.out.1) (HS.out.2.2.below H4.out.1); have ks := same17 A4 Aq m k4 cq r.p w4 H4.out.2 hvq (by have := HRP.out; have := HM.out; omega); have HVQ := Lib.hid hvq; clear hvq)
    | (go_at_call 11; (with_reducible refine kf.mono ?_); rintro e w5 ⟨rfl, rfl⟩)
    | (go_at_call 12; (with_reducible refine ks.mono ?_); rintro e w5b ⟨rfl, q, rfl⟩; have kn := HN0.out (w5.drewN q))
    | (go_at_call 10; (with_reducible refine kn.mono ?_); rintro e w6 ⟨A6, k6, rfl, hb6⟩; have kl := HLE.out w6; have ki := HIS.out w6)
    | (go_at_call 13; (with_reducible refine kl.mono ?_); rintro e w7 ⟨rfl, rfl⟩)
    | (go_at_call 9; (with_reducible refine ki.mono ?_); rintro e w8 ⟨rfl, hb8⟩))
  go_ret
  have z5 := below_drewN z4 q
  have z6 := z5.trans (hb6.mono z5.size)
  exact ⟨rfl, z6.trans (hb8.mono z6.size)⟩
end Go.Proofs.YtkcpnnfbhcklpaaGreatDoor.confusTells
