/- The law of what is told of any code point, walked. -/
import Derived.Test.YtfmkhfjdihfppaaDoorUpa
import Derived.Test.YtfmkhfjdihfppaaDoorLaid
import Derived.Deep.RegionHeld3
namespace Go.Proofs.YtfmkhfjdihfppaaDoor.unicodeTells
open Go.RowKit Go.Shelf
attribute [local go_sem] Oper.semAt_some

set_option maxRecDepth 100000 in
set_option maxHeartbeats 1000000 in
theorem walk_long (a0 : Option Addr) (len0 cap0 : Nat) (z : Int) (w : World) (hM : ML w) (h : 1500 < len0) :
    Calls Tryd.prog 4 #[.slice a0 len0 cap0, .int .i64 z] w fun e w' => e = .returned (.bool true) ∧ Below w.heap.size w w' := by
  have c7 := awake7 w hM
  have C7 := Lib.hid (fun w1 (hb : Below w.heap.size w w1) => awake7 w1 (hM.below hb))
  have hd : decide (1500 < (len0 : Int)) = true := decide_eq_true (by omega)
  clear hM
  go_enter Tryd.func4, Tryd.ntmps4
  go_wp2_with (first
    | (go_at_call 7; (with_reducible refine c7.mono ?_); rintro e w1 ⟨rfl, hb1⟩; clear c7; have k7 := C7.out w1 hb1)
    | (go_at_call 7; (with_reducible refine k7.mono ?_); rintro e w2 ⟨rfl, hb2⟩))
  go_ret
  exact ⟨rfl, hb1.trans (hb2.mono hb1.size)⟩

set_option maxRecDepth 100000 in
set_option maxHeartbeats 8000000 in
theorem walk_ok (a0 : Option Addr) (len0 cap0 : Nat) (z : Int) (l : List UInt8) (w : World) (hM : ML w) (hO : Octs w a0 len0 l) (h : len0 ≤ 1500) :
    Calls Tryd.prog 4 #[.slice a0 len0 cap0, .int .i64 z] w fun e w' => e = .returned (.bool true) ∧ Below w.heap.size w w' := by
  have hll := hO.len
  have c7 := awake7 w hM
  have C8 := Lib.hid (fun w1 (hb : Below w.heap.size w w1) => parse_any a0 len0 cap0 l w1 (hO.below hb) (by omega) (hM.below hb))
  have HCV := Lib.hid (fun w1 (hb : Below w.heap.size w w1) => conv22 cap0 (hO.below hb))
  have C9 := Lib.hid (fun w1 => ref_any l w1 (by omega))
  have hgood := good_parse (linesIn l)
  have hlen : (parseOf (linesIn l)).rows.length ≤ 100000 := by
    have h1 := len_parse (linesIn l)
    have h2 := lines_num (l := l)
    omega
  obtain ⟨R, hR⟩ : ∃ R, parseOf (linesIn l) = R := ⟨_, rfl⟩
  rw [hR] at C8 C9 hgood hlen
  have HG := Lib.hid hgood
  have HLN := Lib.hid hlen
  have hd : decide (1500 < (len0 : Int)) = false := decide_eq_false (by omega)
  clear hM hO hll hgood hlen hR
  go_enter Tryd.func4, Tryd.ntmps4
  go_wp2_with (first
    | (go_at_call 7; (with_reducible refine c7.mono ?_); rintro e w1 ⟨rfl, hb1⟩; clear c7; have k8 := C8.out w1 hb1; clear C8)
    | (go_at_call 8; (with_reducible refine k8.mono ?_); rintro e w2 ⟨p, A, c, ls, E, M, rfl, HH⟩; clear k8; have hcv := HCV.out w2 (hb1.trans (HH.out.1.mono hb1.size)); have k9 := C9.out w2; clear C9)
    | (go_at_call 9; (with_reducible refine k9.mono ?_); rintro e w3 ⟨A', n', c', ls', rfl, hn1, hn2, HR⟩; have HN' := Lib.hid hn1; clear hn1 k9; have hI0 := ist_at z HR.out.2.2; have k13 := at13 A' n' c' ls' z w3 HR.out.2.1 (by omega); obtain ⟨r, hr⟩ : ∃ r, atOf ls' z = r := ⟨_, rfl⟩; rw [hr] at hI0 k13; have HI0 := Lib.hid hI0; clear hI0 hr; unfold rwV at k13)
    | (go_at_call 13; (with_reducible refine k13.mono ?_); rintro e w4 ⟨rfl, hb4⟩; clear k13))
  clear hcv HCV
  obtain ⟨ra, rb, rgc, rccc, rbd, dp, dm, dc⟩ := r
  dsimp only
  obtain ⟨i1, i2, i3, i4, i5, i6, i7⟩ := HI0.out
  dsimp only at i1 i2 i3 i4 i5 i6 i7
  obtain ⟨hb2, hT, hI⟩ := HH.out
  have hb3 := HR.out.1
  obtain ⟨q, hq⟩ : ∃ q, patOf R.rows z = q := ⟨_, rfl⟩
  have hqd : q.dec.length ≤ 1000 := by
    by_cases hm : q ∈ R.rows
    · have := (HG.out.2 q hm).2.2.2; omega
    · rw [← hq] at hm ⊢
      unfold patOf at hm ⊢
      cases hf : R.rows.find? (fun p => decide (p.a ≤ z ∧ z ≤ p.b)) with
      | none => simp [pr0]
      | some y => rw [hf] at hm; exact absurd (List.mem_of_find?_eq_some hf) hm
  rw [hq] at i1 i2 i3 i4 i5 i6 i7
  have hIz := ist_at z hI
  rw [hq] at hIz
  have hrises := ist_rises hI HG.out
  have hln : ls.length ≤ 100000 := by rw [hI.len]; exact HLN.out
  rw [i6] at i7 ⊢
  have b4X : Below w4.heap.size w4 (w4.alloc (.cells #[.int .i64 ra, .int .i64 rb, .string (bs rgc), .int .i64 rccc, .string (bs rbd), .slice dp q.dec.length dc] 36)) := (Below.refl _ _).alloc (Nat.le_refl _) _
  have hbx := six_box (w := w4) (w1 := w4.alloc (.cells #[.int .i64 ra, .int .i64 rb, .string (bs rgc), .int .i64 rccc, .string (bs rbd), .slice dp q.dec.length dc] 36)) (t := 36) (Below.refl _ _)
  have hebX : w4.heap.size < (w4.alloc (.cells #[.int .i64 ra, .int .i64 rb, .string (bs rgc), .int .i64 rccc, .string (bs rbd), .slice dp q.dec.length dc] 36)).heap.size := by simp
  obtain ⟨X, hX⟩ : ∃ X, w4.alloc (.cells #[.int .i64 ra, .int .i64 rb, .string (bs rgc), .int .i64 rccc, .string (bs rbd), .slice dp q.dec.length dc] 36) = X := ⟨_, rfl⟩
  rw [hX] at b4X hbx hebX ⊢
  obtain ⟨eb, heb⟩ : ∃ eb, w4.heap.size = eb := ⟨_, rfl⟩
  have b3X : Below w3.heap.size w3 X := hb4.trans (b4X.mono hb4.size)
  have b2X : Below w2.heap.size w2 X := hb3.trans (b3X.mono hb3.size)
  have b1X : Below w1.heap.size w1 X := hb2.trans (b2X.mono hb2.size)
  have bwX : Below w.heap.size w X := hb1.trans (b1X.mono hb1.size)
  rw [heb] at hbx hebX ⊢
  obtain ⟨⟨-, -, x2, x3, x4, x5⟩, -⟩ := hbx
  have hTX := hT.below b2X
  have i7X := i7.below b3X
  have hIX : Is X (atOf ls z) q := hIz.below b2X
  have e3 : (atOf ls z).gc = rgc := hIz.2.2.1.trans i3.symm
  have e4 : (atOf ls z).ccc = rccc := hIz.2.2.2.1.trans i4.symm
  have e5 : (atOf ls z).bd = rbd := hIz.2.2.2.2.1.trans i5.symm
  have K14 : Hid (∀ W, Below X.heap.size X W → Calls Tryd.prog 14 #[.pointer p, .int .i64 z] W fun e w' => e = .returned (.string (bs rgc)) ∧ Below X.heap.size X w') := Lib.hid fun W hb => (gc14 p A c ls z W (hTX.below hb) hln hrises).mono fun e w' h => ⟨by rw [h.1, e3], hb.trans (h.2.mono hb.size)⟩
  have K15 : Hid (∀ W, Below X.heap.size X W → Calls Tryd.prog 15 #[.pointer p, .int .i64 z] W fun e w' => e = .returned (.int .i64 rccc) ∧ Below X.heap.size X w') := Lib.hid fun W hb => (ccc15 p A c ls z W (hTX.below hb) hln hrises).mono fun e w' h => ⟨by rw [h.1, e4], hb.trans (h.2.mono hb.size)⟩
  have K16 : Hid (∀ W, Below X.heap.size X W → Calls Tryd.prog 16 #[.pointer p, .int .i64 z] W fun e w' => e = .returned (.string (bs rbd)) ∧ Below X.heap.size X w') := Lib.hid fun W hb => (bidi16 p A c ls z W (hTX.below hb) hln hrises).mono fun e w' h => ⟨by rw [h.1, e5], hb.trans (h.2.mono hb.size)⟩
  have K18 : Hid (∀ W, Below X.heap.size X W → Calls Tryd.prog 18 #[.pointer p, .int .i64 z] W fun e w' => ∃ A2 c2, e = .returned (.slice A2 q.dec.length c2) ∧ Below X.heap.size X w' ∧ Hid (Vals w' A2 q.dec.length (nums .i64 (q.dec.map fun c : Nat => (c : Int))))) := Lib.hid fun W hb => (decomp18 p A c ls z q W (hTX.below hb) hln hrises (hIX.below hb) (by omega)).mono fun e w' ⟨A2, c2, h1, h2, h3⟩ => ⟨A2, c2, h1, hb.trans (h2.mono hb.size), h3⟩
  have K17 : Hid (∀ (A2 : Option Addr) (c2 : Nat) W, Below X.heap.size X W → Vals W A2 q.dec.length (nums .i64 (q.dec.map fun c : Nat => (c : Int))) → Calls Tryd.prog 17 #[.slice A2 q.dec.length c2, .slice dp q.dec.length dc] W fun e w' => e = .returned (.bool true) ∧ Below X.heap.size X w') := Lib.hid fun A2 c2 W hb hV => (same17 A2 dp q.dec.length c2 dc _ W hV (i7X.below hb) (by omega)).mono fun e w' ⟨h1, k, h2⟩ => ⟨h1, by rw [h2]; exact below_drewN hb k⟩
  have N14 : Hid (∀ W, Below X.heap.size X W → Calls Tryd.prog 14 #[.pointer none, .int .i64 z] W fun e w' => e = .returned (.string ⟨#[]⟩) ∧ Below X.heap.size X w') := Lib.hid fun W hb => (gc14 none none 0 [] z W (TIn.none W) (by simp) ⟨List.Pairwise.nil, fun s h => by cases h⟩).mono fun e w' h => ⟨by rw [h.1]; rfl, hb.trans (h.2.mono hb.size)⟩
  have N15 : Hid (∀ W, Below X.heap.size X W → Calls Tryd.prog 15 #[.pointer none, .int .i64 z] W fun e w' => e = .returned (.int .i64 0) ∧ Below X.heap.size X w') := Lib.hid fun W hb => (ccc15 none none 0 [] z W (TIn.none W) (by simp) ⟨List.Pairwise.nil, fun s h => by cases h⟩).mono fun e w' h => ⟨by rw [h.1]; rfl, hb.trans (h.2.mono hb.size)⟩
  have N18 : Hid (∀ W, Below X.heap.size X W → Calls Tryd.prog 18 #[.pointer none, .int .i64 z] W fun e w' => ∃ A2 c2, e = .returned (.slice A2 0 c2) ∧ Below X.heap.size X w') := Lib.hid fun W hb => (decomp18 none none 0 [] z pr0 W (TIn.none W) (by simp) ⟨List.Pairwise.nil, fun s h => by cases h⟩ (is0 W) (by simp [pr0])).mono fun e w' ⟨A2, c2, h1, h2, h3⟩ => ⟨A2, c2, h1, hb.trans (h2.mono hb.size)⟩
  have N12 : Hid (∀ W, Calls Tryd.prog 12 #[.pointer none] W fun e w' => e = .returned (.int .i64 0) ∧ W = w') := Lib.hid fun W => (len12 none none 0 [] W (TIn.none W))
  obtain ⟨G, hG⟩ : ∃ S, bs rgc = S := ⟨_, rfl⟩
  obtain ⟨U, hU⟩ : ∃ S, bs rbd = S := ⟨_, rfl⟩
  obtain ⟨N, hN⟩ : ∃ N, q.dec.length = N := ⟨_, rfl⟩
  rw [hG] at x2 K14
  rw [hU] at x4 K16
  rw [hN] at x5 K17 K18 hqd
  have HS : Hid (∀ W, Below X.heap.size X W → W.cell? ⟨eb, 2, none⟩ = some (.string G) ∧ W.cell? ⟨eb, 3, none⟩ = some (.int .i64 rccc) ∧ W.cell? ⟨eb, 4, none⟩ = some (.string U) ∧ W.cell? ⟨eb, 5, none⟩ = some (.slice dp N dc)) := Lib.hid fun W hb =>
    ⟨(hb.cell (p := ⟨eb, 2, none⟩) hebX).trans x2, (hb.cell (p := ⟨eb, 3, none⟩) hebX).trans x3, (hb.cell (p := ⟨eb, 4, none⟩) hebX).trans x4, (hb.cell (p := ⟨eb, 5, none⟩) hebX).trans x5⟩
  have BX : Hid (Below X.heap.size X X) := Lib.hid (Below.refl _ _)
  have BW := Lib.hid bwX
  clear hb1 hb2 hb3 hb4 b4X b3X b2X b1X bwX hX heb hTX i7X hIX e3 e4 e5 hG hU hN hT hI hIz hrises hln i1 i2 i3 i4 i5 i6 i7 hq HI0 HH HR HN' HG HLN hebX
  go_region_held3 (fun w' => w'.cell? ⟨eb, 2, none⟩ = some (.string G) ∧ w'.cell? ⟨eb, 3, none⟩ = some (.int .i64 rccc) ∧ w'.cell? ⟨eb, 4, none⟩ = some (.string U) ∧ w'.cell? ⟨eb, 5, none⟩ = some (.slice dp N dc))
    (first | exact HS.out _ BX.out | exact HS.out _ (below_drew BX.out) | go_keep)
    ((go_simp; first
      | (go_at_call 14; (first | (with_reducible refine (K14.out _ (by first | with_reducible exact BX.out | with_reducible exact below_drew BX.out)).mono ?_) | (with_reducible refine (N14.out _ (by first | with_reducible exact BX.out | with_reducible exact below_drew BX.out)).mono ?_)); rintro e w5 ⟨rfl, hb5⟩; have BX := Lib.hid hb5; clear hb5)
      | (go_at_call 15; (first | (with_reducible refine (K15.out _ (by first | with_reducible exact BX.out | with_reducible exact below_drew BX.out)).mono ?_) | (with_reducible refine (N15.out _ (by first | with_reducible exact BX.out | with_reducible exact below_drew BX.out)).mono ?_)); rintro e w5 ⟨rfl, hb5⟩; have BX := Lib.hid hb5; clear hb5)
      | (go_at_call 16; (with_reducible refine (K16.out _ (by first | with_reducible exact BX.out | with_reducible exact below_drew BX.out)).mono ?_); rintro e w5 ⟨rfl, hb5⟩; have BX := Lib.hid hb5; clear hb5)
      | (go_at_call 18; (with_reducible refine (K18.out _ (by first | with_reducible exact BX.out | with_reducible exact below_drew BX.out)).mono ?_); rintro e w5 ⟨A2, c2, rfl, hb5, hV5⟩; have BX := Lib.hid hb5; clear hb5)
      | (go_at_call 18; (with_reducible refine (N18.out _ (by first | with_reducible exact BX.out | with_reducible exact below_drew BX.out)).mono ?_); rintro e w5 ⟨A2, c2, rfl, hb5⟩; have BX := Lib.hid hb5; clear hb5)
      | (go_at_call 17; (with_reducible refine (K17.out A2 c2 _ (by first | with_reducible exact BX.out | with_reducible exact below_drew BX.out) hV5.out).mono ?_); rintro e w5 ⟨rfl, hb5⟩; have BX := Lib.hid hb5; clear hb5)
      | (go_at_call 12; (with_reducible refine (N12.out _).mono ?_); rintro e w5 ⟨rfl, rfl⟩)))
  go_wp2
  go_ret
  exact ⟨rfl, BW.out.trans (BX.out.mono BW.out.size)⟩
theorem walk (a0 : Option Addr) (len0 cap0 : Nat) (z0 : List Int) (a1 : Int) (w : World) (hM : ML w) (hR : IsRow .u8 w a0 len0 cap0 z0) (_ : (Lit.int .i64 a1).wf = true) :
    Calls Tryd.prog 4 #[.slice a0 len0 cap0, .int .i64 a1] w fun e w' => e = .returned (.bool true) ∧ Below w.heap.size w w' := by
  obtain ⟨l, hO, -, -⟩ := hR.octs
  by_cases h : 1500 < len0
  · exact walk_long a0 len0 cap0 a1 w hM h
  · exact walk_ok a0 len0 cap0 a1 l w hM hO (by omega)
end Go.Proofs.YtfmkhfjdihfppaaDoor.unicodeTells
