/- The statement SpanTables at any spans, any code point, any value. -/
import Derived.Test.YtfggoegofbghhaaAwk
import Derived.Test.YtfggoegofbghhaaListed
import Derived.Test.YtfggoegofbghhaaPln
namespace Go.Proofs.Ytfggoegofbghhaa
open Go.RowKit Go.Sort Go.Shelf

theorem sorted_nil : sorted [] = [] := rfl
theorem addAll_is (ls : List Sp) : addAll [] ls = (came [] ls).map sorted := by
  have := addAll_came ls []
  rw [sorted_nil] at this
  exact this
theorem rnew_some (A : Option Addr) (n ca : Nat) (ls r : List Sp) (w : World) (hS : SAt w A n ls) (hn : n ≤ 100000) (hr : addAll [] ls = .ok r) :
    Calls Try.prog 10 #[.slice A n ca] w fun e w' => ∃ A2 c2, e = .returned (.tuple #[.slice A2 r.length c2, .int .i64 0]) ∧ Below w.heap.size w w' ∧ Hid (SAt w' A2 r.length r) := by
  refine (new10 A n ca ls w hS hn).mono ?_
  rintro e w' ⟨hb, ⟨h1, A2, c2, rfl, -, hS2⟩ | ⟨x, h1, -, -⟩⟩
  · rw [addAll_is, h1] at hr
    have e : sorted ls = r := by injection hr
    rw [e] at hS2
    have hl : ls.length = r.length := by rw [← e, sorted_length]
    rw [hl] at hS2 ⊢
    exact ⟨A2, c2, rfl, hb, Lib.hid hS2⟩
  · rw [addAll_is, h1] at hr
    cases hr
theorem rnew_none (A : Option Addr) (n ca : Nat) (ls : List Sp) (x : Int) (w : World) (hS : SAt w A n ls) (hn : n ≤ 100000) (hr : addAll [] ls = .error x) :
    Calls Try.prog 10 #[.slice A n ca] w fun e w' => e = .returned (.tuple #[.slice none 0 0, .int .i64 x]) ∧ Below w.heap.size w w' := by
  refine (new10 A n ca ls w hS hn).mono ?_
  rintro e w' ⟨hb, ⟨h1, A2, c2, rfl, -, hS2⟩ | ⟨y, h1, -, rfl⟩⟩
  · rw [addAll_is, h1] at hr
    cases hr
  · rw [addAll_is, h1] at hr
    cases hr
    exact ⟨rfl, hb⟩
theorem plain_any (A : Option Addr) (n ca : Nat) (ls : List Sp) (w : World) (hS : SAt w A n ls) (hn : n ≤ 100000) :
    Calls Try.prog 11 #[.slice A n ca] w fun e w' => ∃ A2 c2, e = .returned (.slice A2 n c2) ∧ Below w.heap.size w w' ∧ Hid (SAt w' A2 n ls) := by
  refine (plain11 A n ca ls w hS hn).mono ?_
  rintro e w' ⟨hb, A2, c2, rfl, -, hS2⟩
  rw [hS.1] at hS2 ⊢
  exact ⟨A2, c2, rfl, hb, Lib.hid hS2⟩
theorem listed_any (p A : Option Addr) (c : Nat) (ls : List Sp) (w : World) (hT : TIn w p A c ls) (hn : ls.length ≤ 100000) :
    Calls Try.prog 15 #[.pointer p] w fun e w' => ∃ A2 c2, e = .returned (.slice A2 ls.length c2) ∧ Below w.heap.size w w' ∧ Hid (SAt w' A2 ls.length ls) := by
  refine (listed15 p A c ls w hT hn).mono ?_
  rintro e w' ⟨hb, A2, c2, rfl, -, hS2⟩
  exact ⟨A2, c2, rfl, hb, Lib.hid hS2⟩
theorem listed_nil (w : World) : Calls Try.prog 15 #[.pointer none] w fun e w' => ∃ A2 c2, e = .returned (.slice A2 0 c2) ∧ Below w.heap.size w w' := by
  refine (listed15 none none 0 [] w (TIn.none w) (by decide)).mono ?_
  rintro e w' ⟨hb, A2, c2, rfl, -, -⟩
  exact ⟨A2, c2, rfl, hb⟩
theorem same_yes (A B : Option Addr) (n ca cb : Nat) (ls : List Sp) (w : World) (hA : SAt w A n ls) (hB : SAt w B n ls) (hn : n ≤ 100000) :
    Calls Try.prog 14 #[.slice A n ca, .slice B n cb] w fun e w' => e = .returned (.bool true) ∧ Below w.heap.size w w' := by
  refine (same14 A B n n ca cb ls ls w hA hB hn hn).mono ?_
  rintro e w' ⟨rfl, q, rfl⟩
  exact ⟨by rw [decide_eq_true rfl], below_drewN (Below.refl _ _) q⟩
theorem value_any (A : Option Addr) (n ca : Nat) (ls : List Sp) (c : Int) (w : World) (hV : SAt w A n ls) (hn : n ≤ 1000000) :
    Calls Try.prog 12 #[.slice A n ca, .int .i64 c] w fun e w' => e = .returned (.string (bs (valueOf ls c))) ∧ Below w.heap.size w w' := by
  refine (value12 A n ca ls c w hV hn).mono ?_
  rintro e w' ⟨rfl, q, rfl⟩
  exact ⟨rfl, below_drewN (Below.refl _ _) q⟩
theorem good_nil' : Good [] := good_nil
theorem bmore {B : Nat} {w w1 w2 : World} (h : Below B w w1) (h2 : Below w1.heap.size w1 w2) (hB : B ≤ w1.heap.size) : Below B w w2 := h.trans (h2.mono hB)

set_option maxRecDepth 100000 in
set_option maxHeartbeats 4000000 in
theorem tables_ok (A : Option Addr) (n c : Nat) (ls r : List Sp) (z : Int) (v : List UInt8) (w : World) (hS : SAt w A n ls) (hA : Flat A) (hA0 : A = none → c = 0) (hc : n ≤ c) (hsm : isSmall ls = true) (hn : n ≤ 30) (hv : v.length ≤ 30) (hr : addAll [] ls = .ok r) :
    Calls Try.prog 3 #[.slice A n c, .int .i64 z, .string (bs v)] w fun e w' => e = .returned (.bool true) ∧ Below w.heap.size w w' := by
  have c7 := fun W => awake7 W
  have c8 := fun W (hb : Below w.heap.size w W) => small8 A n c ls W (hS.below hb)
  have c9 := fun W (hb : Below w.heap.size w W) => new_some A n c ls r W (hS.below hb) hA hA0 hc (by omega) hr
  have c11 := fun W (hb : Below w.heap.size w W) => plain_any A n c ls W (hS.below hb) (by omega)
  have c10 := fun W A2 c2 (hS2 : SAt W A2 n ls) => rnew_some A2 n c2 ls r W hS2 (by omega) hr
  obtain ⟨hg, -, hl0⟩ := addAll_good ls [] r good_nil hr
  have hlen : r.length ≤ 30 := by rw [hl0, hS.1]; simpa using hn
  have c12 := fun W A2 c2 (hS2 : SAt W A2 r.length r) => value_any A2 r.length c2 r z W hS2 (by omega)
  have c13 := fun W p A2 c2 (hT : TIn W p A2 c2 r) => len13 p A2 c2 r W hT
  have c15 := fun W p A2 c2 (hT : TIn W p A2 c2 r) => listed_any p A2 c2 r W hT (by omega)
  have c14 := fun W A2 B2 c2 d2 (h1 : SAt W A2 r.length r) (h2 : SAt W B2 r.length r) => same_yes A2 B2 r.length c2 d2 r W h1 h2 (by omega)
  have c16 := fun W p A2 c2 (hT : TIn W p A2 c2 r) => value16 p A2 c2 r z W hT (by omega) hg.1 (good_fit hg)
  have c17 := fun W p A2 c2 (hT : TIn W p A2 c2 r) => has17 p A2 c2 r z v W hT (by omega) hg.1 (good_fit hg)
  have n16 := fun W => value16 none none 0 [] z W (TIn.none W) (by decide) good_nil.1 (good_fit good_nil)
  have n13 := fun W => len13 none none 0 [] W (TIn.none W)
  have n17 := fun W => has17 none none 0 [] z v W (TIn.none W) (by decide) good_nil.1 (good_fit good_nil)
  rw [show bs (valueOf [] z) = ⟨#[]⟩ from rfl] at n16
  have hno : hasOf [] z v = false := by
    unfold hasOf
    by_cases h : v = []
    · rw [decide_eq_false (by simp [h]), Bool.false_and]
    · rw [decide_eq_false (show ¬ valueOf [] z = v from fun e => h e.symm), Bool.and_false]
  rw [hno] at n17
  have hsz : (bs v).size ≤ 30 := by rw [bs_size]; exact hv
  have heq := bs_eq (valueOf r z) v
  have hemp : ¬ v = [] → (bs v).toList.isEmpty = false := bs_some
  have hnil : v = [] → bs v = ⟨#[]⟩ := fun h => by rw [h]; rfl
  have hhas : hasOf r z v = (decide (v ≠ []) && decide (valueOf r z = v)) := rfl
  rw [hhas] at c17
  obtain ⟨V, hV⟩ : ∃ V, bs v = V := ⟨_, rfl⟩
  obtain ⟨T, hT⟩ : ∃ T, bs (valueOf r z) = T := ⟨_, rfl⟩
  rw [hV] at hsz heq hemp hnil c17 n17 ⊢
  rw [hT] at heq c12 c16
  have C8 := Lib.hid c8
  have C9 := Lib.hid c9
  have C11 := Lib.hid c11
  have C10 := Lib.hid c10
  have C12 := Lib.hid c12
  have C13 := Lib.hid c13
  have C14 := Lib.hid c14
  have C15 := Lib.hid c15
  have C16 := Lib.hid c16
  have HSM := Lib.hid hsm
  have HHB := Lib.hid (fun W (hb : Below w.heap.size w W) => hS.below hb)
  clear c8 c9 c11 c10 c12 c13 c14 c15 c16 hS hA hA0 hr hg hl0 hV hT hno hhas hsm hv
  obtain ⟨f, hf⟩ : ∃ f, decide (valueOf r z = v) = f := ⟨_, rfl⟩
  rw [hf] at heq c17
  clear hf
  by_cases hv0 : v = []
  · have hV := hnil hv0
    rw [decide_eq_false (by simp [hv0]), Bool.false_and] at c17
    clear hemp hnil heq
    subst hV
    have C17 := Lib.hid c17
    clear c17 hv0
    go_enter Try.func3, Try.ntmps3
    go_wp2_with (first
      | (go_at_call 7; (with_reducible refine (c7 _).mono ?_); rintro e w1 ⟨rfl, hb1⟩; have k8 := C8.out w1 hb1; rw [HSM.out] at k8)
      | (go_at_call 8; (with_reducible refine k8.mono ?_); rintro e w2 ⟨rfl, rfl⟩; have k9 := C9.out _ hb1)
      | (go_at_call 9; (with_reducible refine k9.mono ?_); rintro e w3 ⟨p, A2, c2, rfl, hb3, hT⟩; have HT := Lib.hid hT; clear hT; have hB3 := bmore hb1 hb3 hb1.size; have k11 := C11.out w3 hB3)
      | (go_at_call 11; (with_reducible refine k11.mono ?_); rintro e w4 ⟨A4, c4, rfl, hb4, hS4⟩; have HS4 := Lib.hid hS4; clear hS4; have k10 := C10.out w4 A4 c4 HS4.out.out)
      | (go_at_call 10; (with_reducible refine k10.mono ?_); rintro e w5 ⟨A5, c5, rfl, hb5, hS5⟩; have HS5 := Lib.hid hS5; clear hS5; have k12 := C12.out w5 A5 c5 HS5.out.out)
      | (go_at_call 12; (with_reducible refine k12.mono ?_); rintro e w6 ⟨rfl, hb6⟩; have HT6 := Lib.hid (((HT.out.out.below hb4).below hb5).below hb6); have k13 := C13.out w6 (some ⟨p, 0, none⟩) A2 c2 HT6.out)
      | (go_at_call 13; (with_reducible refine k13.mono ?_); rintro e w7 ⟨rfl, hb7⟩; have k15 := C15.out w7 (some ⟨p, 0, none⟩) A2 c2 (HT6.out.below hb7))
      | (go_at_call 15; (with_reducible refine k15.mono ?_); rintro e w8 ⟨A8, c8, rfl, hb8, hS8⟩; have HS8 := Lib.hid hS8; clear hS8; have k14 := C14.out w8 A8 A5 c8 c5 HS8.out.out (((HS5.out.out.below hb6).below hb7).below hb8))
      | (go_at_call 14; (with_reducible refine k14.mono ?_); rintro e w9 ⟨rfl, hb9⟩; have HT9 := Lib.hid (((HT6.out.below hb7).below hb8).below hb9); have k16 := C16.out w9 (some ⟨p, 0, none⟩) A2 c2 HT9.out; clear k13 k15)
      | (go_at_call 16; (with_reducible refine k16.mono ?_); rintro e w10 ⟨rfl, hb10⟩; have k17 := C17.out w10 (some ⟨p, 0, none⟩) A2 c2 (HT9.out.below hb10); clear k16)
      | (go_at_call 17; (with_reducible refine k17.mono ?_); rintro e w11 ⟨rfl, hb11⟩; clear k17))
    refine (n16 _).mono ?_
    rintro e w12 ⟨rfl, hb12⟩
    go_wp2_with (fail)
    refine (n13 _).mono ?_
    rintro e w13 ⟨rfl, hb13⟩
    go_wp2_with (fail)
    refine (listed_nil _).mono ?_
    rintro e w14 ⟨A14, c14, rfl, hb14⟩
    go_wp2_with (fail)
    refine (n17 _).mono ?_
    rintro e w15 ⟨rfl, hb15⟩
    go_wp2
    go_ret
    have z4 := bmore hB3 hb4 (Nat.le_trans hB3.size (Nat.le_refl _))
    have z5 := bmore z4 hb5 z4.size
    have z6 := bmore z5 hb6 z5.size
    have z7 := bmore z6 hb7 z6.size
    have z8 := bmore z7 hb8 z7.size
    have z9 := bmore z8 hb9 z8.size
    have z10 := bmore z9 hb10 z9.size
    have z11 := bmore z10 hb11 z10.size
    have z12 := bmore z11 hb12 z11.size
    have z13 := bmore z12 hb13 z12.size
    have z14 := bmore z13 hb14 z13.size
    exact ⟨rfl, bmore z14 hb15 z14.size⟩
  · have hem := hemp hv0
    rw [decide_eq_true hv0, Bool.true_and] at c17
    have C17 := Lib.hid c17
    clear c17 hemp hnil hv0
    cases f
    · go_enter Try.func3, Try.ntmps3
      go_wp2_with (first
        | (go_at_call 7; (with_reducible refine (c7 _).mono ?_); rintro e w1 ⟨rfl, hb1⟩; have k8 := C8.out w1 hb1; rw [HSM.out] at k8)
        | (go_at_call 8; (with_reducible refine k8.mono ?_); rintro e w2 ⟨rfl, rfl⟩; have k9 := C9.out _ hb1)
        | (go_at_call 9; (with_reducible refine k9.mono ?_); rintro e w3 ⟨p, A2, c2, rfl, hb3, hT⟩; have HT := Lib.hid hT; clear hT; have hB3 := bmore hb1 hb3 hb1.size; have k11 := C11.out w3 hB3)
        | (go_at_call 11; (with_reducible refine k11.mono ?_); rintro e w4 ⟨A4, c4, rfl, hb4, hS4⟩; have HS4 := Lib.hid hS4; clear hS4; have k10 := C10.out w4 A4 c4 HS4.out.out)
        | (go_at_call 10; (with_reducible refine k10.mono ?_); rintro e w5 ⟨A5, c5, rfl, hb5, hS5⟩; have HS5 := Lib.hid hS5; clear hS5; have k12 := C12.out w5 A5 c5 HS5.out.out)
        | (go_at_call 12; (with_reducible refine k12.mono ?_); rintro e w6 ⟨rfl, hb6⟩; have HT6 := Lib.hid (((HT.out.out.below hb4).below hb5).below hb6); have k13 := C13.out w6 (some ⟨p, 0, none⟩) A2 c2 HT6.out)
        | (go_at_call 13; (with_reducible refine k13.mono ?_); rintro e w7 ⟨rfl, hb7⟩; have k15 := C15.out w7 (some ⟨p, 0, none⟩) A2 c2 (HT6.out.below hb7))
        | (go_at_call 15; (with_reducible refine k15.mono ?_); rintro e w8 ⟨A8, c8, rfl, hb8, hS8⟩; have HS8 := Lib.hid hS8; clear hS8; have k14 := C14.out w8 A8 A5 c8 c5 HS8.out.out (((HS5.out.out.below hb6).below hb7).below hb8))
        | (go_at_call 14; (with_reducible refine k14.mono ?_); rintro e w9 ⟨rfl, hb9⟩; have HT9 := Lib.hid (((HT6.out.below hb7).below hb8).below hb9); have k16 := C16.out w9 (some ⟨p, 0, none⟩) A2 c2 HT9.out; clear k13 k15)
        | (go_at_call 16; (with_reducible refine k16.mono ?_); rintro e w10 ⟨rfl, hb10⟩; have k17 := C17.out w10 (some ⟨p, 0, none⟩) A2 c2 (HT9.out.below hb10); clear k16)
        | (go_at_call 17; (with_reducible refine k17.mono ?_); rintro e w11 ⟨rfl, hb11⟩; clear k17))
      refine (n16 _).mono ?_
      rintro e w12 ⟨rfl, hb12⟩
      go_wp2_with (fail)
      refine (n13 _).mono ?_
      rintro e w13 ⟨rfl, hb13⟩
      go_wp2_with (fail)
      refine (listed_nil _).mono ?_
      rintro e w14 ⟨A14, c14, rfl, hb14⟩
      go_wp2_with (fail)
      refine (n17 _).mono ?_
      rintro e w15 ⟨rfl, hb15⟩
      go_wp2
      go_ret
      have z4 := bmore hB3 hb4 (Nat.le_trans hB3.size (Nat.le_refl _))
      have z5 := bmore z4 hb5 z4.size
      have z6 := bmore z5 hb6 z5.size
      have z7 := bmore z6 hb7 z6.size
      have z8 := bmore z7 hb8 z7.size
      have z9 := bmore z8 hb9 z8.size
      have z10 := bmore z9 hb10 z9.size
      have z11 := bmore z10 hb11 z10.size
      have z12 := bmore z11 hb12 z11.size
      have z13 := bmore z12 hb13 z12.size
      have z14 := bmore z13 hb14 z13.size
      exact ⟨rfl, bmore z14 hb15 z14.size⟩
    · go_enter Try.func3, Try.ntmps3
      go_wp2_with (first
        | (go_at_call 7; (with_reducible refine (c7 _).mono ?_); rintro e w1 ⟨rfl, hb1⟩; have k8 := C8.out w1 hb1; rw [HSM.out] at k8)
        | (go_at_call 8; (with_reducible refine k8.mono ?_); rintro e w2 ⟨rfl, rfl⟩; have k9 := C9.out _ hb1)
        | (go_at_call 9; (with_reducible refine k9.mono ?_); rintro e w3 ⟨p, A2, c2, rfl, hb3, hT⟩; have HT := Lib.hid hT; clear hT; have hB3 := bmore hb1 hb3 hb1.size; have k11 := C11.out w3 hB3)
        | (go_at_call 11; (with_reducible refine k11.mono ?_); rintro e w4 ⟨A4, c4, rfl, hb4, hS4⟩; have HS4 := Lib.hid hS4; clear hS4; have k10 := C10.out w4 A4 c4 HS4.out.out)
        | (go_at_call 10; (with_reducible refine k10.mono ?_); rintro e w5 ⟨A5, c5, rfl, hb5, hS5⟩; have HS5 := Lib.hid hS5; clear hS5; have k12 := C12.out w5 A5 c5 HS5.out.out)
        | (go_at_call 12; (with_reducible refine k12.mono ?_); rintro e w6 ⟨rfl, hb6⟩; have HT6 := Lib.hid (((HT.out.out.below hb4).below hb5).below hb6); have k13 := C13.out w6 (some ⟨p, 0, none⟩) A2 c2 HT6.out)
        | (go_at_call 13; (with_reducible refine k13.mono ?_); rintro e w7 ⟨rfl, hb7⟩; have k15 := C15.out w7 (some ⟨p, 0, none⟩) A2 c2 (HT6.out.below hb7))
        | (go_at_call 15; (with_reducible refine k15.mono ?_); rintro e w8 ⟨A8, c8, rfl, hb8, hS8⟩; have HS8 := Lib.hid hS8; clear hS8; have k14 := C14.out w8 A8 A5 c8 c5 HS8.out.out (((HS5.out.out.below hb6).below hb7).below hb8))
        | (go_at_call 14; (with_reducible refine k14.mono ?_); rintro e w9 ⟨rfl, hb9⟩; have HT9 := Lib.hid (((HT6.out.below hb7).below hb8).below hb9); have k16 := C16.out w9 (some ⟨p, 0, none⟩) A2 c2 HT9.out; clear k13 k15)
        | (go_at_call 16; (with_reducible refine k16.mono ?_); rintro e w10 ⟨rfl, hb10⟩; have k17 := C17.out w10 (some ⟨p, 0, none⟩) A2 c2 (HT9.out.below hb10); clear k16)
        | (go_at_call 17; (with_reducible refine k17.mono ?_); rintro e w11 ⟨rfl, hb11⟩; clear k17))
      refine (n16 _).mono ?_
      rintro e w12 ⟨rfl, hb12⟩
      go_wp2_with (fail)
      refine (n13 _).mono ?_
      rintro e w13 ⟨rfl, hb13⟩
      go_wp2_with (fail)
      refine (listed_nil _).mono ?_
      rintro e w14 ⟨A14, c14, rfl, hb14⟩
      go_wp2_with (fail)
      refine (n17 _).mono ?_
      rintro e w15 ⟨rfl, hb15⟩
      go_wp2
      go_ret
      have z4 := bmore hB3 hb4 (Nat.le_trans hB3.size (Nat.le_refl _))
      have z5 := bmore z4 hb5 z4.size
      have z6 := bmore z5 hb6 z5.size
      have z7 := bmore z6 hb7 z6.size
      have z8 := bmore z7 hb8 z7.size
      have z9 := bmore z8 hb9 z8.size
      have z10 := bmore z9 hb10 z9.size
      have z11 := bmore z10 hb11 z10.size
      have z12 := bmore z11 hb12 z11.size
      have z13 := bmore z12 hb13 z12.size
      have z14 := bmore z13 hb14 z13.size
      exact ⟨rfl, bmore z14 hb15 z14.size⟩

theorem small_len {A : Option Addr} {n : Nat} {ls : List Sp} {w : World} (hS : SAt w A n ls) (h : isSmall ls = true) : n ≤ 30 := by
  unfold isSmall at h
  rw [Bool.and_eq_true] at h
  rw [← hS.1]
  exact of_decide_eq_true h.1
set_option maxRecDepth 100000 in
set_option maxHeartbeats 4000000 in
theorem walkTables (A : Option Addr) (n c : Nat) (ls : List Sp) (z : Int) (v : List UInt8) (w : World) (hS : SAt w A n ls) (hA : Flat A) (hA0 : A = none → c = 0) (hc : n ≤ c) :
    Calls Try.prog 3 #[.slice A n c, .int .i64 z, .string (bs v)] w fun e w' => e = .returned (.bool true) ∧ Below w.heap.size w w' := by
  have c7 := fun W => awake7 W
  have c8 := fun W (hb : Below w.heap.size w W) => small8 A n c ls W (hS.below hb)
  have C8 := Lib.hid c8
  clear c8
  by_cases hsm : isSmall ls = true
  · have hn := small_len hS hsm
    by_cases hv : v.length ≤ 30
    · cases hr : addAll [] ls with
      | ok r => exact tables_ok A n c ls r z v w hS hA hA0 hc hsm hn hv hr
      | error x =>
        have c9 := fun W (hb : Below w.heap.size w W) => new_none A n c ls x W (hS.below hb) hA hA0 hc (by omega) hr
        have c11 := fun W (hb : Below w.heap.size w W) => plain_any A n c ls W (hS.below hb) (by omega)
        have c10 := fun W A2 c2 (hS2 : SAt W A2 n ls) => rnew_none A2 n c2 ls x W hS2 (by omega) hr
        have HX := Lib.hid (err_ne hr)
        have hsz : (bs v).size ≤ 30 := by rw [bs_size]; exact hv
        obtain ⟨V, hV⟩ : ∃ V, bs v = V := ⟨_, rfl⟩
        rw [hV] at hsz ⊢
        have C9 := Lib.hid c9
        have C11 := Lib.hid c11
        have C10 := Lib.hid c10
        have HSM := Lib.hid hsm
        clear c9 c11 c10 hS hA hA0 hr hV hsm hv
        go_enter Try.func3, Try.ntmps3
        go_wp2_with (first
          | (go_at_call 7; (with_reducible refine (c7 _).mono ?_); rintro e w1 ⟨rfl, hb1⟩; have k8 := C8.out w1 hb1; rw [HSM.out] at k8)
          | (go_at_call 8; (with_reducible refine k8.mono ?_); rintro e w2 ⟨rfl, rfl⟩; have k9 := C9.out _ hb1)
          | (go_at_call 9; (with_reducible refine k9.mono ?_); rintro e w3 ⟨rfl, hb3⟩; have hB3 := bmore hb1 hb3 hb1.size; have k11 := C11.out w3 hB3)
          | (go_at_call 11; (with_reducible refine k11.mono ?_); rintro e w4 ⟨A4, c4, rfl, hb4, hS4⟩; have HS4 := Lib.hid hS4; clear hS4; have k10 := C10.out w4 A4 c4 HS4.out.out)
          | (go_at_call 10; (with_reducible refine k10.mono ?_); rintro e w5 ⟨rfl, hb5⟩; have hb0 : (x == 0) = false := beq_false_of_ne HX.out))
        go_ret
        have z4 := bmore hB3 hb4 hB3.size
        exact ⟨rfl, bmore z4 hb5 z4.size⟩
    · have hsz : ¬ (bs v).size ≤ 30 := by rw [bs_size]; exact hv
      obtain ⟨V, hV⟩ : ∃ V, bs v = V := ⟨_, rfl⟩
      rw [hV] at hsz ⊢
      have HSM := Lib.hid hsm
      clear hS hA hA0 hV hsm hv
      go_enter Try.func3, Try.ntmps3
      go_wp2_with (fail)
      refine (c7 _).mono ?_
      rintro e w1 ⟨rfl, hb1⟩
      have k8 := C8.out w1 hb1
      rw [HSM.out] at k8
      go_wp2_with (go_at_call 8; (with_reducible refine k8.mono ?_); rintro e w2 ⟨rfl, rfl⟩)
      refine (c7 _).mono ?_
      rintro e w3 ⟨rfl, hb3⟩
      go_wp2
      go_ret
      exact ⟨rfl, bmore hb1 hb3 hb1.size⟩
  · have hsf : isSmall ls = false := by simpa using hsm
    have HSM := Lib.hid hsf
    obtain ⟨V, hV⟩ : ∃ V, bs v = V := ⟨_, rfl⟩
    rw [hV]
    clear hsm hsf hS hV
    go_enter Try.func3, Try.ntmps3
    go_wp2_with (fail)
    refine (c7 _).mono ?_
    rintro e w1 ⟨rfl, hb1⟩
    have k8 := C8.out w1 hb1
    rw [HSM.out] at k8
    go_wp2_with (go_at_call 8; (with_reducible refine k8.mono ?_); rintro e w2 ⟨rfl, rfl⟩)
    refine (c7 _).mono ?_
    rintro e w3 ⟨rfl, hb3⟩
    go_wp2
    go_ret
    exact ⟨rfl, bmore hb1 hb3 hb1.size⟩
end Go.Proofs.Ytfggoegofbghhaa
