/- The statement SpanApart at any spans. -/
import Derived.Test.YtfggoegofbghhaaAwk
import Derived.Test.YtfggoegofbghhaaListed
import Derived.BigQuiet
import Derived.Lib.QuietBelow
namespace Go.Proofs.Ytfggoegofbghhaa
open Go.RowKit Go.Sort Go.Shelf

theorem has_own {r : List Sp} {k : Nat} {s : Sp} {c : Int} (hg : Good r) (hs : r[k]? = some s) (h1 : s.a ≤ c) (h2 : c ≤ s.b) : hasOf r c s.v = true := by
  have hm := List.mem_of_getElem? hs
  unfold hasOf
  rw [value_at hg.1 hm h1 h2, decide_eq_true (hg.2 s hm).2.2.2, decide_eq_true rfl]; rfl
def ApRel (w : World) (n : Nat) (i : Value) (wr : World) : Prop := Below w.heap.size w wr ∧ ∃ k : Nat, i = .int .i64 k ∧ k ≤ n
theorem sat_lt {w : World} {A : Option Addr} {n : Nat} {ls : List Sp} (h : SAt w A n ls) {k : Nat} {s : Sp} (hs : ls[k]? = some s) : ∃ b off, A = some ⟨b, off, none⟩ ∧ b < w.heap.size ∧ w.cell? ⟨b, off + k * 3, none⟩ = some (.int .i64 s.a) ∧ w.cell? ⟨b, off + k * 3 + 1, none⟩ = some (.int .i64 s.b) ∧ w.cell? ⟨b, off + k * 3 + 2, none⟩ = some (.string (bs s.v)) := by
  have hlt := (List.getElem?_eq_some_iff.1 hs).1
  obtain ⟨b, off, e, hb, hc⟩ := h.2 (by rw [← h.1]; omega)
  exact ⟨b, off, e, hb, hc k s hs⟩

set_option maxRecDepth 100000 in
set_option maxHeartbeats 4000000 in
theorem walkApart (A : Option Addr) (n c : Nat) (ls : List Sp) (w : World) (hS : SAt w A n ls) (hA : Flat A) (hA0 : A = none → c = 0) (hc : n ≤ c) :
    Calls Try.prog 6 #[.slice A n c] w fun e w' => e = .returned (.bool true) ∧ Below w.heap.size w w' := by
  have c7 := fun W => awake7 W
  have c8 := fun W (hb : Below w.heap.size w W) => small8 A n c ls W (hS.below hb)
  have HL := Lib.hid hS.1
  have C8 := Lib.hid c8
  have HB := Lib.hid (Below.refl w.heap.size w)
  have mixed : Try.prog.follows .mixedOrders = true := by kernel_rfl
  clear c8
  by_cases hsm : isSmall ls = true
  · have hn : n ≤ 30 := by
      unfold isSmall at hsm
      rw [Bool.and_eq_true] at hsm
      rw [← hS.1]
      exact of_decide_eq_true hsm.1
    have HSM := Lib.hid hsm
    clear hsm
    cases hr : addAll [] ls with
    | error x =>
      have c9 := fun W (hb : Below w.heap.size w W) => new_none A n c ls x W (hS.below hb) hA hA0 hc (by omega) hr
      have hx := err_ne hr
      have HX := Lib.hid hx
      have C9 := Lib.hid c9
      clear c9 hS hA hA0 hr hx
      go_enter Try.func6, Try.ntmps6
      go_wp2_with (first
        | (go_at_call 7; (with_reducible refine (c7 _).mono ?_); rintro e w1 ⟨rfl, hb1⟩; have k8 := C8.out w1 hb1; rw [HSM.out] at k8)
        | (go_at_call 8; (with_reducible refine k8.mono ?_); rintro e w2 ⟨rfl, rfl⟩; have k9 := C9.out _ hb1)
        | (go_at_call 9; (with_reducible refine k9.mono ?_); rintro e w3 ⟨rfl, hb3⟩; have hb0 : (x == 0) = false := beq_false_of_ne HX.out))
      go_ret
      exact ⟨congrArg (fun f => Ending.returned (.bool f)) (show (x != 0) = true by simp [bne, hb0]), hb1.trans (hb3.mono hb1.size)⟩
    | ok r =>
      have c9 := fun W (hb : Below w.heap.size w W) => new_some A n c ls r W (hS.below hb) hA hA0 hc (by omega) hr
      obtain ⟨hg, -, hl0⟩ := addAll_good ls [] r good_nil hr
      have hlen : r.length = n := by rw [hl0, hS.1]; simp
      clear hl0
      have C9 := Lib.hid c9
      have HG := Lib.hid hg
      have HLN := Lib.hid hlen
      have c15 := fun W p A2 c2 (hT : TIn W p A2 c2 r) => listed15 p A2 c2 r W hT (by omega)
      have c17 := fun W p A2 c2 z v (hT : TIn W p A2 c2 r) => has17 p A2 c2 r z v W hT (by omega) hg.1 (good_fit hg)
      have C15 := Lib.hid c15
      have C17 := Lib.hid c17
      clear c9 hS hA hA0 hr c15 c17 hg hlen
      go_enter Try.func6, Try.ntmps6
      go_wp2_with (first
        | (go_at_call 7; (with_reducible refine (c7 _).mono ?_); rintro e w1 ⟨rfl, hb1⟩; have k8 := C8.out w1 hb1; rw [HSM.out] at k8)
        | (go_at_call 8; (with_reducible refine k8.mono ?_); rintro e w2 ⟨rfl, rfl⟩; have k9 := C9.out _ hb1)
        | (go_at_call 9; (with_reducible refine k9.mono ?_); rintro e w3 ⟨p, A2, c2, rfl, hb3, hT⟩; have HT := Lib.hid hT; clear hT; have k15 := C15.out w3 _ A2 c2 HT.out.out)
        | (go_at_call 15; (with_reducible refine k15.mono ?_); rintro e w4 ⟨hb4, A4, c4, rfl, hA4, hS4⟩; have HS4 := Lib.hid hS4; clear hS4 hA4))
      have hB4 : Hid (Below w.heap.size w w4) := Lib.hid (hb1.trans ((hb3.trans (hb4.mono hb3.size)).mono hb1.size))
      have HT4 := Lib.hid (HT.out.out.below hb4)
      clear k15 k8 k9 c7 C8 C9 C15 HT HSM hb1 hb3 hb4
      go_loopw [6] (fun i wr => ApRel w4 r.length i wr) (fun i _ => r.length - (intOf i).toNat)
      case atStart => exact ⟨Below.refl _ _, 0, rfl, Nat.zero_le _⟩
      case round =>
        obtain ⟨hbel, k, rfl, hkn⟩ := hrel
        have hrl : r.length ≤ 30 := by rw [HLN.out]; exact hn
        by_cases hlt : k < r.length
        · obtain ⟨s, hs⟩ := getSp (ls := r) (k := k) hlt
          obtain ⟨b, off, rfl, hblt, h1, h2, h3⟩ := sat_lt (HS4.out.below hbel) hs
          obtain ⟨f1, f2, f3, f4⟩ := HG.out.2 s (List.mem_of_getElem? hs)
          have hv1 := has_own HG.out hs (Int.le_refl _) f3
          have hv2 := has_own HG.out hs f3 (Int.le_refl _)
          have hemp := bs_some f4
          have c17a := fun d os => C17.out (grow (redrawn (wr.alloc (.cells #[.int .i64 s.a, .int .i64 s.b, .string (bs s.v)] 44)) d) os) (some ⟨p, 0, none⟩) A2 c2 s.a s.v (((HT4.out.below hbel).below ((Below.refl _ _).alloc (Nat.le_refl _) _)).below (below_regrown _ d os))
          have c17b := fun d os => C17.out (grow (redrawn (wr.alloc (.cells #[.int .i64 s.a, .int .i64 s.b, .string (bs s.v)] 44)) d) os) (some ⟨p, 0, none⟩) A2 c2 s.b s.v (((HT4.out.below hbel).below ((Below.refl _ _).alloc (Nat.le_refl _) _)).below (below_regrown _ d os))
          rw [hv1] at c17a
          rw [hv2] at c17b
          have d1 : decide (s.a < 0) = false := by simp; omega
          have d2 : decide (1114111 < s.b) = false := by simp; omega
          have d3 : decide (s.b < s.a) = false := by simp; omega
          cases k with
          | zero =>
            simp only [Nat.zero_mul, Nat.add_zero] at h1 h2 h3
            have HK := Lib.hid hbel
            obtain ⟨T, hT⟩ : ∃ T, bs s.v = T := ⟨_, rfl⟩
            rw [hT] at c17a c17b h3 hemp
            have b0 : (wr.alloc (.cells #[.int .i64 s.a, .int .i64 s.b, .string T] 44)).cell? ⟨wr.heap.size, 0, none⟩ = some (.int .i64 s.a) := by simp
            have b1 : (wr.alloc (.cells #[.int .i64 s.a, .int .i64 s.b, .string T] 44)).cell? ⟨wr.heap.size, 1, none⟩ = some (.int .i64 s.b) := by simp
            have b2 : (wr.alloc (.cells #[.int .i64 s.a, .int .i64 s.b, .string T] 44)).cell? ⟨wr.heap.size, 2, none⟩ = some (.string T) := by simp
            have HB5 := Lib.hid (show Below wr.heap.size wr (wr.alloc (.cells #[.int .i64 s.a, .int .i64 s.b, .string T] 44)) from (Below.refl _ _).alloc (Nat.le_refl _) _)
            have b0 := cell_regrown b0
            have b1 := cell_regrown b1
            have b2 := cell_regrown b2
            clear hs hT hv1 hv2
            go_wp2_with (fail)
            obtain ⟨W, hW⟩ : ∃ W, wr.alloc (.cells #[.int .i64 s.a, .int .i64 s.b, .string T] 44) = W := ⟨_, rfl⟩
            obtain ⟨l, hl⟩ : ∃ l, wr.heap.size = l := ⟨_, rfl⟩
            rw [hW] at b0 b1 b2 c17a c17b HB5 ⊢
            rw [hl] at b0 b1 b2 ⊢
            clear hW h1 h2 h3 hbel hl
            have g0 : decide ((0 : Int) < ((0 : Nat) : Int)) = false := by simp
            refine wp_region_quiet_below mixed (by kernel_rfl) ?_
            repeat (go_big_quiet_step (first | (go_at_call 17; with_reducible exact Calls.regrown_of (c17a _ _)) | (go_at_call 17; with_reducible exact Calls.regrown_of (c17b _ _))))
            refine wpQuiet_nil ?_
            intro _ hw'
            obtain ⟨⟨dq, osq⟩, hw''⟩ := hw'
            subst hw''
            clear c17a c17b b0 b1 b2
            go_wp2
            go_roundw
            case rel => exact ⟨HK.out.trans ((HB5.out.trans ((below_regrown W dq osq).mono HB5.out.size)).mono HK.out.size), 1, by go_num, by omega⟩
            case measure => simp [intOf]; omega
          | succ k =>
            obtain ⟨t, ht⟩ := getSp (ls := r) (k := k) (by omega)
            have hap := List.pairwise_iff_getElem.1 HG.out.1 k (k + 1) (by omega) hlt (by omega)
            rw [(List.getElem?_eq_some_iff.1 hs).2, (List.getElem?_eq_some_iff.1 ht).2] at hap
            obtain ⟨b', off', e', hblt', k1, k2, k3⟩ := sat_lt (HS4.out.below hbel) ht
            cases e'
            have d4 : decide (s.a ≤ t.b) = false := by simp; omega
            have e1 := cell_regrown (box_cell (.cells #[.int .i64 s.a, .int .i64 s.b, .string (bs s.v)] 44) k2)
            have HK := Lib.hid hbel
            obtain ⟨T, hT⟩ : ∃ T, bs s.v = T := ⟨_, rfl⟩
            rw [hT] at c17a c17b h3 hemp e1
            have b0 : (wr.alloc (.cells #[.int .i64 s.a, .int .i64 s.b, .string T] 44)).cell? ⟨wr.heap.size, 0, none⟩ = some (.int .i64 s.a) := by simp
            have b1 : (wr.alloc (.cells #[.int .i64 s.a, .int .i64 s.b, .string T] 44)).cell? ⟨wr.heap.size, 1, none⟩ = some (.int .i64 s.b) := by simp
            have b2 : (wr.alloc (.cells #[.int .i64 s.a, .int .i64 s.b, .string T] 44)).cell? ⟨wr.heap.size, 2, none⟩ = some (.string T) := by simp
            have HB5 := Lib.hid (show Below wr.heap.size wr (wr.alloc (.cells #[.int .i64 s.a, .int .i64 s.b, .string T] 44)) from (Below.refl _ _).alloc (Nat.le_refl _) _)
            have b0 := cell_regrown b0
            have b1 := cell_regrown b1
            have b2 := cell_regrown b2
            clear hs ht k1 k2 k3 hap hT hv1 hv2
            go_wp2_with (fail)
            obtain ⟨W, hW⟩ : ∃ W, wr.alloc (.cells #[.int .i64 s.a, .int .i64 s.b, .string T] 44) = W := ⟨_, rfl⟩
            obtain ⟨l, hl⟩ : ∃ l, wr.heap.size = l := ⟨_, rfl⟩
            rw [hW] at b0 b1 b2 c17a c17b HB5 e1 ⊢
            rw [hl] at b0 b1 b2 ⊢
            clear hW h1 h2 h3 hbel hl
            have g0 : (0 : Int) < ((k : Int) + 1) := by omega
            refine wp_region_quiet_below mixed (by kernel_rfl) ?_
            repeat (go_big_quiet_step (first | (go_at_call 17; with_reducible exact Calls.regrown_of (c17a _ _)) | (go_at_call 17; with_reducible exact Calls.regrown_of (c17b _ _))))
            refine wpQuiet_nil ?_
            intro _ hw'
            obtain ⟨⟨dq, osq⟩, hw''⟩ := hw'
            subst hw''
            clear c17a c17b b0 b1 b2 e1
            go_wp2
            go_roundw
            case rel => exact ⟨HK.out.trans ((HB5.out.trans ((below_regrown W dq osq).mono HB5.out.size)).mono HK.out.size), k + 1 + 1, by go_num, by omega⟩
            case measure => simp [intOf]; omega
        · have hke : k = r.length := by omega
          have hrn := HLN.out
          rw [hrn] at hke hlt hrl hkn ⊢
          subst hke
          have HK := Lib.hid hbel
          clear hbel hrn
          go_wp2
          go_ret
          exact ⟨rfl, hB4.out.trans (HK.out.mono hB4.out.size)⟩
  · have hsf : isSmall ls = false := by simpa using hsm
    have HSM := Lib.hid hsf
    clear hsm hsf hS
    go_enter Try.func6, Try.ntmps6
    go_wp2_with (fail)
    refine (c7 _).mono ?_
    rintro e w1 ⟨rfl, hb1⟩
    have k8 := C8.out w1 hb1
    rw [HSM.out] at k8
    go_wp2_with (go_at_call 8; (with_reducible refine k8.mono ?_); rintro e w2 ⟨rfl, rfl⟩)
    refine (c7 _).mono ?_
    rintro e w3 ⟨rfl, hb3⟩
    go_wp2
    go_ret
    exact ⟨rfl, hb1.trans (hb3.mono hb1.size)⟩
end Go.Proofs.Ytfggoegofbghhaa
