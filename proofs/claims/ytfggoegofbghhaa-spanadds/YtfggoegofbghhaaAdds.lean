/- The statement SpanAdds at any spans, any span, any turn. -/
import Derived.Test.YtfggoegofbghhaaRot
import Derived.Test.YtfggoegofbghhaaTables
namespace Go.Proofs.Ytfggoegofbghhaa
open Go.RowKit Go.Sort Go.Shelf

theorem check_any (A : Option Addr) (n ca : Nat) (ls : List Sp) (x : Sp) (w : World) (hV : SAt w A n ls) (hn : n ≤ 1000000) : Calls Try.prog 19 #[.slice A n ca, spV x] w fun e w' => e = .returned (.int .i64 (check ls x)) ∧ Below w.heap.size w w' := check19 A n ca ls x w hV hn
theorem add_none (p A : Option Addr) (c : Nat) (r : List Sp) (x : Sp) (w : World) (hT : TIn w p A c r) (hA : Flat A) (hn : r.length ≤ 30) (hg : Good r) (hx : check r x ≠ 0) : Calls Try.prog 18 #[.pointer p, spV x] w fun e w' => e = .returned (.tuple #[.pointer none, .int .i64 (check r x)]) ∧ Below w.heap.size w w' := by
  refine (add18 p A c r x w hT hA hn hg).mono ?_
  rintro e w' ⟨hb, q, rfl, ⟨rfl, -⟩ | ⟨h, -⟩⟩
  · exact ⟨rfl, hb⟩
  · exact absurd h hx
theorem add_yes (p A : Option Addr) (c : Nat) (r : List Sp) (x : Sp) (w : World) (hT : TIn w p A c r) (hA : Flat A) (hn : r.length ≤ 30) (hg : Good r) (hx : check r x = 0) : Calls Try.prog 18 #[.pointer p, spV x] w fun e w' => ∃ b, e = .returned (.tuple #[.pointer (some ⟨b, 0, none⟩), .int .i64 0]) ∧ Below w.heap.size w w' := by
  refine (add18 p A c r x w hT hA hn hg).mono ?_
  rintro e w' ⟨hb, q, rfl, ⟨-, h⟩ | ⟨-, b, rfl⟩⟩
  · exact absurd hx h
  · exact ⟨b, by rw [hx], hb⟩
theorem sat_ltA {w : World} {A : Option Addr} {n : Nat} {ls : List Sp} (h : SAt w A n ls) {k : Nat} {s : Sp} (hs : ls[k]? = some s) : ∃ b off, A = some ⟨b, off, none⟩ ∧ b < w.heap.size ∧ w.cell? ⟨b, off + k * 3, none⟩ = some (.int .i64 s.a) ∧ w.cell? ⟨b, off + k * 3 + 1, none⟩ = some (.int .i64 s.b) ∧ w.cell? ⟨b, off + k * 3 + 2, none⟩ = some (.string (bs s.v)) := by
  have hlt := (List.getElem?_eq_some_iff.1 hs).1
  obtain ⟨b, off, e, hb, hc⟩ := h.2 (by rw [← h.1]; omega)
  exact ⟨b, off, e, hb, hc k s hs⟩
def AdRel (ls : List Sp) (r n B : Nat) (W : World) (v i : Value) (wr : World) : Prop :=
  Below B W wr ∧ ∃ k : Nat, i = .int .i64 k ∧ k ≤ n ∧ wr.ownsRow B 41 3 v k (spvs ((rot ls r).take k))
theorem box_at {w W : World} {b : Nat} {x : Sp} (h : SpBox x b w) (hlt : b < w.heap.size) (hb : Below w.heap.size w W) : SpBox x b W :=
  ⟨(hb.cell (p := ⟨b, 0, none⟩) hlt).trans h.1, (hb.cell (p := ⟨b, 1, none⟩) hlt).trans h.2.1, (hb.cell (p := ⟨b, 2, none⟩) hlt).trans h.2.2⟩
theorem take_snoc3 {ls : List Sp} {k : Nat} {s : Sp} (hs : ls[k]? = some s) : spvs (ls.take k) ++ [.int .i64 s.a, .int .i64 s.b, .string (bs s.v)] = spvs (ls.take (k + 1)) := take_snoc hs

set_option maxRecDepth 100000 in
set_option maxHeartbeats 4000000 in
theorem adds_ok (A : Option Addr) (n c : Nat) (ls r : List Sp) (x : Sp) (t : Int) (w : World) (hS : SAt w A n ls) (hA : Flat A) (hA0 : A = none → c = 0) (hc : n ≤ c) (hsm : isSmall ls = true) (hn : n ≤ 30) (hv : x.v.length ≤ 30) (hr : addAll [] ls = .ok r) (hx : check r x = 0) :
    Calls Try.prog 4 #[.slice A n c, spV x, .int .i64 t] w fun e w' => e = .returned (.bool true) ∧ Below w.heap.size w w' := by
  obtain ⟨i0, hi, hz0, hz1, hz2⟩ := info_parts info41
  have c7 := fun W => awake7 W
  have c8 := fun W (hb : Below w.heap.size w W) => small8 A n c ls W (hS.below hb)
  have c9 := fun W (hb : Below w.heap.size w W) => new_flat A n c ls r W (hS.below hb) hA hA0 hc (by omega) hr
  obtain ⟨hg, -, hl0⟩ := addAll_good ls [] r good_nil hr
  have hlen : r.length ≤ 30 := by rw [hl0, hS.1]; simpa using hn
  have c15 := fun W p A2 c2 (hT : TIn W p A2 c2 r) => listed_any p A2 c2 r W hT (by omega)
  have c14 := fun W A2 B2 c2 d2 (h1 : SAt W A2 r.length r) (h2 : SAt W B2 r.length r) => same_yes A2 B2 r.length c2 d2 r W h1 h2 (by omega)
  have c18 := fun W p A2 c2 (hT : TIn W p A2 c2 r) (hF : Flat A2) => add_yes p A2 c2 r x W hT hF hlen hg hx
  have c19 := fun W A2 c2 (hS2 : SAt W A2 r.length r) => check_any A2 r.length c2 r x W hS2 (by omega)
  have c20 := fun W (h0 : 0 < n) => rest20 t n W h0 hn
  have hrot : addAll [] (rot ls (restOf t n)) = .ok r := addAll_perm (rot_perm ls _) hr
  have crot := fun W A2 c2 (hS2 : SAt W A2 n (rot ls (restOf t n))) hF h0 hcc => new_some A2 n c2 (rot ls (restOf t n)) r W hS2 hF h0 hcc (by omega) hrot
  have hget := fun k (h0 : 0 < n) (hk : k < n) => rot_get (r := restOf t n) (k := k) hS.1 (rest_lt h0) hk
  have hRlt := fun (h0 : 0 < n) => rest_lt (t := t) h0
  have hRl : (rot ls (restOf t n)).length = n := by rw [rot_length, hS.1]
  have hsz : (bs x.v).size ≤ 30 := by rw [bs_size]; exact hv
  have hbw : Below w.heap.size w (w.alloc (.cells #[.int .i64 x.a, .int .i64 x.b, .string (bs x.v)] 41)) := (Below.refl _ _).alloc (Nat.le_refl _) _
  have hbox := spBox_new x w 41
  have hbl : w.heap.size < (w.alloc (.cells #[.int .i64 x.a, .int .i64 x.b, .string (bs x.v)] 41)).heap.size := by simp
  have cells := fun W (hb : Below w.heap.size w W) => hS.below hb
  unfold spV at c18 c19 ⊢
  unfold SpBox at hbox
  rw [hx] at c19
  obtain ⟨T, hT⟩ : ∃ T, bs x.v = T := ⟨_, rfl⟩
  rw [hT] at c18 c19 hsz hbw hbox hbl ⊢
  obtain ⟨R, hR⟩ : ∃ R, restOf t n = R := ⟨_, rfl⟩
  rw [hR] at c20 crot hget hRlt hRl
  have C8 := Lib.hid c8
  have C9 := Lib.hid c9
  have C14 := Lib.hid c14
  have C15 := Lib.hid c15
  have C18 := Lib.hid c18
  have C19 := Lib.hid c19
  have C20 := Lib.hid c20
  have CR := Lib.hid crot
  have HGET := Lib.hid hget
  have HRLT := Lib.hid hRlt
  have HRL := Lib.hid hRl
  have CS := Lib.hid cells
  have HSM := Lib.hid hsm
  have HBW := Lib.hid hbw
  have HL := Lib.hid hS.1
  have HLR := Lib.hid hlen
  clear c8 c9 c14 c15 c18 c19 c20 crot hget hRlt hRl cells hS hA hA0 hr hg hl0 hT hsm hv hrot hR hbw hlen hx
  go_enter Try.func4, Try.ntmps4
  go_wp2_with (fail)
  obtain ⟨W, hW⟩ : ∃ W, w.alloc (.cells #[.int .i64 x.a, .int .i64 x.b, .string T] 41) = W := ⟨_, rfl⟩
  obtain ⟨l, hl⟩ : ∃ l, w.heap.size = l := ⟨_, rfl⟩
  rw [hW] at hbox hbl HBW ⊢
  have HWL := Lib.hid hl
  rw [hl] at hbox hbl ⊢
  obtain ⟨b0, b1, b2⟩ := hbox
  clear hW hl
  refine (c7 _).mono ?_
  rintro e w1 ⟨rfl, hb1⟩
  have z1 := bmore HBW.out hb1 HBW.out.size
  have l1 : l < w1.heap.size := Nat.lt_of_lt_of_le hbl hb1.size
  have d0 := (hb1.cell (p := ⟨l, 0, none⟩) hbl).trans b0
  have d1 := (hb1.cell (p := ⟨l, 1, none⟩) hbl).trans b1
  have d2 := (hb1.cell (p := ⟨l, 2, none⟩) hbl).trans b2
  have k8 := C8.out w1 z1
  rw [HSM.out] at k8
  have k9 := C9.out w1 z1
  clear b0 b1 b2
  go_wp2_with (first
    | (go_at_call 8; (with_reducible refine k8.mono ?_); rintro e w2 ⟨rfl, rfl⟩)
    | (go_at_call 9; (with_reducible refine k9.mono ?_); rintro e w3 ⟨p, A2, c2, rfl, hb3, hT⟩; have HT := Lib.hid hT; clear hT; have k15 := C15.out w3 _ A2 c2 HT.out.out.1))
  refine k15.mono ?_
  rintro e w4 ⟨A4, c4, rfl, hb4, hS4⟩
  have HS4 := Lib.hid hS4
  clear hS4 k8 k9 k15
  have z3 := bmore z1 hb3 z1.size
  have z4 := bmore z3 hb4 z3.size
  have l3 : l < w3.heap.size := Nat.lt_of_lt_of_le l1 hb3.size
  have l4 : l < w4.heap.size := Nat.lt_of_lt_of_le l3 hb4.size
  have d0 := (hb4.cell (p := ⟨l, 0, none⟩) l3).trans ((hb3.cell (p := ⟨l, 0, none⟩) l1).trans d0)
  have d1 := (hb4.cell (p := ⟨l, 1, none⟩) l3).trans ((hb3.cell (p := ⟨l, 1, none⟩) l1).trans d1)
  have d2 := (hb4.cell (p := ⟨l, 2, none⟩) l3).trans ((hb3.cell (p := ⟨l, 2, none⟩) l1).trans d2)
  have HT4 := Lib.hid (HT.out.out.1.below hb4)
  have k18 := C18.out w4 (some ⟨p, 0, none⟩) A2 c2 HT4.out HT.out.out.2
  go_wp2_with (go_at_call 18; (with_reducible refine k18.mono ?_); rintro e w5 ⟨bq, rfl, hb5⟩; have m0 := (hb5.cell (p := ⟨l, 0, none⟩) l4).trans d0; have m1 := (hb5.cell (p := ⟨l, 1, none⟩) l4).trans d1; have m2 := (hb5.cell (p := ⟨l, 2, none⟩) l4).trans d2)
  clear k18 d0 d1 d2
  have z5 := bmore z4 hb5 z4.size
  refine (C19.out w5 A4 c4 (HS4.out.out.below hb5)).mono ?_
  rintro e w6 ⟨rfl, hb6⟩
  have z6 := bmore z5 hb6 z5.size
  have HT6 := Lib.hid ((HT4.out.below hb5).below hb6)
  have HS6 := Lib.hid ((HS4.out.out.below hb5).below hb6)
  clear m0 m1 m2
  go_wp2_with (fail)
  refine (C15.out w6 _ A2 c2 HT6.out).mono ?_
  rintro e w7 ⟨A7, c7', rfl, hb7, hS7⟩
  have HS7 := Lib.hid hS7
  clear hS7
  have z7 := bmore z6 hb7 z6.size
  go_wp2_with (fail)
  refine (C14.out w7 A7 A4 c7' c4 HS7.out.out (HS6.out.below hb7)).mono ?_
  rintro e w8 ⟨rfl, hb8⟩
  have z8 := bmore z7 hb8 z7.size
  have HS8 := Lib.hid ((HS6.out.below hb7).below hb8)
  clear HS7 HS6 HT6 HT4 HT HS4
  go_wp2
  have HZ8 := Lib.hid z8
  clear z1 z3 z4 z5 z6 z7 z8 hb1 hb3 hb4 hb5 hb6 hb7 hb8 l1 l3 l4 hbl
  go_loopw [12, 13] (fun v i wr => AdRel ls R n w8.heap.size w8 v i wr) (fun _ i _ => n - (intOf i).toNat)
  case atStart => exact ⟨Below.refl _ _, 0, rfl, Nat.zero_le _, World.ownsRow_nil _ _ _ _⟩
  case round =>
    obtain ⟨hbel, k, rfl, hkn, hown⟩ := hrel
    obtain ⟨Ao, co, rfl, hAo⟩ := own_shape hown
    have HOW := Lib.hid hown
    have HBE := Lib.hid hbel
    have HAO := Lib.hid hAo
    by_cases hlt : k < n
    · have h0 : 0 < n := by omega
      have hRn := HRLT.out h0
      have hgk := HGET.out k h0 hlt
      obtain ⟨s, hs⟩ := getSp (ls := ls) (k := (k + R) % n) (by rw [HL.out]; exact Nat.mod_lt _ h0)
      have hbw8 : Below w.heap.size w wr := bmore HZ8.out hbel HZ8.out.size
      obtain ⟨b, off, rfl, hblt, h1, h2, h3⟩ := sat_ltA (CS.out wr hbw8) hs
      rw [hs] at hgk
      have hsn := take_snoc3 hgk
      have k20 := C20.out wr h0
      obtain ⟨M, hM⟩ : ∃ M, (k + R) % n = M := ⟨_, rfl⟩
      have hMn : M < n := by rw [← hM]; exact Nat.mod_lt _ h0
      rw [hM] at h1 h2 h3
      have hMI : ((k : Int) + (R : Int)).tmod (n : Int) = (M : Int) := by
        rw [← hM, Int.tmod_eq_emod_of_nonneg (by omega)]
        norm_cast
      obtain ⟨U, hU⟩ : ∃ U, bs s.v = U := ⟨_, rfl⟩
      rw [hU] at h3 hsn
      have n2 : k + 1 ≤ 200000 := by omega
      have m3 := mx n2
      have m4 := my n2
      have HSN := Lib.hid hsn
      have hs8 := hbel.size
      have hz : ((n : Int) == 0) = false := beq_false_of_ne (by omega)
      clear hs hgk hsn hU hM hown hbel hAo hbw8 c7
      go_wp2_with (first
        | (go_at_call 20; (with_reducible refine k20.mono ?_); rintro e w9 ⟨rfl, rfl⟩)
        | (at_builtin; refine append_lit rfl _ _ 22 rfl w8.heap.size 41 i0 (.agg #[.int .i64 0, .int .i64 0, .string ⟨#[]⟩]) 3 32 Try.underlying22 hi hz0 hz1 hz2 rfl (by decide) _ _ _ rfl HOW.out [.int .i64 s.a, .int .i64 s.b, .string U] rfl (by simp [Value.oneCell']) rfl m3 m4 hs8 ?_; intro v2 w2 ho2 hg2))
      go_roundw
      case rel => exact ⟨hg2 _ _ HBE.out (Nat.le_refl _), k + 1, by go_num, by omega, by rw [HSN.out] at ho2; exact ho2⟩
      case measure => simp [intOf]; omega
    · obtain rfl : k = n := by omega
      have hfull : (rot ls R).take k = rot ls R := List.take_of_length_le (by rw [HRL.out]; exact Nat.le_refl _)
      rw [hfull] at hown
      have hsat : SAt wr Ao k (rot ls R) ∧ k ≤ co ∧ Flat Ao := by
        rcases own_sat' HRL.out hown with ⟨e, h0⟩ | ⟨g, c', e, hcc, -, hS'⟩
        · injection e with e1 e2 e3
          subst e1 e3
          have : rot ls R = [] := List.eq_nil_of_length_eq_zero (by rw [HRL.out]; exact h0)
          rw [this, h0]
          exact ⟨SAt.nil _ _, Nat.le_refl _, .inl rfl⟩
        · injection e with e1 e2 e3
          subst e1 e3
          exact ⟨hS', hcc, .inr ⟨g, 0, rfl⟩⟩
      have k9 := CR.out wr Ao co hsat.1 hsat.2.2 hAo hsat.2.1
      clear hown hbel hAo hsat hfull c7
      go_wp2_with (go_at_call 9; (with_reducible refine k9.mono ?_); rintro e w9 ⟨p9, A9, c9, rfl, hb9, hT9⟩; have HT9 := Lib.hid hT9; clear hT9)
      refine (C15.out w9 _ A9 c9 HT9.out.out).mono ?_
      rintro e w10 ⟨A10, c10, rfl, hb10, hS10⟩
      have HS10 := Lib.hid hS10
      clear hS10
      go_wp2_with (fail)
      refine (C14.out w10 A10 A4 c10 c4 HS10.out.out (((HS8.out.below HBE.out).below hb9).below hb10)).mono ?_
      rintro e w11 ⟨rfl, hb11⟩
      go_wp2
      go_ret
      have y8 := bmore HZ8.out HBE.out HZ8.out.size
      have y9 := bmore y8 hb9 y8.size
      have y10 := bmore y9 hb10 y9.size
      exact ⟨rfl, bmore y10 hb11 y10.size⟩

set_option maxRecDepth 100000 in
set_option maxHeartbeats 4000000 in
theorem adds_no (A : Option Addr) (n c : Nat) (ls r : List Sp) (x : Sp) (t : Int) (w : World) (hS : SAt w A n ls) (hA : Flat A) (hA0 : A = none → c = 0) (hc : n ≤ c) (hsm : isSmall ls = true) (hn : n ≤ 30) (hv : x.v.length ≤ 30) (hr : addAll [] ls = .ok r) (hx : check r x ≠ 0) :
    Calls Try.prog 4 #[.slice A n c, spV x, .int .i64 t] w fun e w' => e = .returned (.bool true) ∧ Below w.heap.size w w' := by
  obtain ⟨i0, hi, hz0, hz1, hz2⟩ := info_parts info41
  have c7 := fun W => awake7 W
  have c8 := fun W (hb : Below w.heap.size w W) => small8 A n c ls W (hS.below hb)
  have c9 := fun W (hb : Below w.heap.size w W) => new_flat A n c ls r W (hS.below hb) hA hA0 hc (by omega) hr
  obtain ⟨hg, -, hl0⟩ := addAll_good ls [] r good_nil hr
  have hlen : r.length ≤ 30 := by rw [hl0, hS.1]; simpa using hn
  have c15 := fun W p A2 c2 (hT : TIn W p A2 c2 r) => listed_any p A2 c2 r W hT (by omega)
  have c14 := fun W A2 B2 c2 d2 (h1 : SAt W A2 r.length r) (h2 : SAt W B2 r.length r) => same_yes A2 B2 r.length c2 d2 r W h1 h2 (by omega)
  have c18 := fun W p A2 c2 (hT : TIn W p A2 c2 r) (hF : Flat A2) => add_none p A2 c2 r x W hT hF hlen hg hx
  have c19 := fun W A2 c2 (hS2 : SAt W A2 r.length r) => check_any A2 r.length c2 r x W hS2 (by omega)
  have c20 := fun W (h0 : 0 < n) => rest20 t n W h0 hn
  have hrot : addAll [] (rot ls (restOf t n)) = .ok r := addAll_perm (rot_perm ls _) hr
  have crot := fun W A2 c2 (hS2 : SAt W A2 n (rot ls (restOf t n))) hF h0 hcc => new_some A2 n c2 (rot ls (restOf t n)) r W hS2 hF h0 hcc (by omega) hrot
  have hget := fun k (h0 : 0 < n) (hk : k < n) => rot_get (r := restOf t n) (k := k) hS.1 (rest_lt h0) hk
  have hRlt := fun (h0 : 0 < n) => rest_lt (t := t) h0
  have hRl : (rot ls (restOf t n)).length = n := by rw [rot_length, hS.1]
  have hsz : (bs x.v).size ≤ 30 := by rw [bs_size]; exact hv
  have hbw : Below w.heap.size w (w.alloc (.cells #[.int .i64 x.a, .int .i64 x.b, .string (bs x.v)] 41)) := (Below.refl _ _).alloc (Nat.le_refl _) _
  have hbox := spBox_new x w 41
  have hbl : w.heap.size < (w.alloc (.cells #[.int .i64 x.a, .int .i64 x.b, .string (bs x.v)] 41)).heap.size := by simp
  have cells := fun W (hb : Below w.heap.size w W) => hS.below hb
  unfold spV at c18 c19 ⊢
  unfold SpBox at hbox
  obtain ⟨X, hX⟩ : ∃ X, check r x = X := ⟨_, rfl⟩
  rw [hX] at c18 c19 hx
  have hx0 : (X == 0) = false := beq_false_of_ne hx
  clear hX
  obtain ⟨T, hT⟩ : ∃ T, bs x.v = T := ⟨_, rfl⟩
  rw [hT] at c18 c19 hsz hbw hbox hbl ⊢
  obtain ⟨R, hR⟩ : ∃ R, restOf t n = R := ⟨_, rfl⟩
  rw [hR] at c20 crot hget hRlt hRl
  have C8 := Lib.hid c8
  have C9 := Lib.hid c9
  have C14 := Lib.hid c14
  have C15 := Lib.hid c15
  have C18 := Lib.hid c18
  have C19 := Lib.hid c19
  have C20 := Lib.hid c20
  have CR := Lib.hid crot
  have HGET := Lib.hid hget
  have HRLT := Lib.hid hRlt
  have HRL := Lib.hid hRl
  have CS := Lib.hid cells
  have HSM := Lib.hid hsm
  have HBW := Lib.hid hbw
  have HL := Lib.hid hS.1
  have HLR := Lib.hid hlen
  clear c8 c9 c14 c15 c18 c19 c20 crot hget hRlt hRl cells hS hA hA0 hr hg hl0 hT hsm hv hrot hR hbw hlen hx
  go_enter Try.func4, Try.ntmps4
  go_wp2_with (fail)
  obtain ⟨W, hW⟩ : ∃ W, w.alloc (.cells #[.int .i64 x.a, .int .i64 x.b, .string T] 41) = W := ⟨_, rfl⟩
  obtain ⟨l, hl⟩ : ∃ l, w.heap.size = l := ⟨_, rfl⟩
  rw [hW] at hbox hbl HBW ⊢
  have HWL := Lib.hid hl
  rw [hl] at hbox hbl ⊢
  obtain ⟨b0, b1, b2⟩ := hbox
  clear hW hl
  refine (c7 _).mono ?_
  rintro e w1 ⟨rfl, hb1⟩
  have z1 := bmore HBW.out hb1 HBW.out.size
  have l1 : l < w1.heap.size := Nat.lt_of_lt_of_le hbl hb1.size
  have d0 := (hb1.cell (p := ⟨l, 0, none⟩) hbl).trans b0
  have d1 := (hb1.cell (p := ⟨l, 1, none⟩) hbl).trans b1
  have d2 := (hb1.cell (p := ⟨l, 2, none⟩) hbl).trans b2
  have k8 := C8.out w1 z1
  rw [HSM.out] at k8
  have k9 := C9.out w1 z1
  clear b0 b1 b2
  go_wp2_with (first
    | (go_at_call 8; (with_reducible refine k8.mono ?_); rintro e w2 ⟨rfl, rfl⟩)
    | (go_at_call 9; (with_reducible refine k9.mono ?_); rintro e w3 ⟨p, A2, c2, rfl, hb3, hT⟩; have HT := Lib.hid hT; clear hT; have k15 := C15.out w3 _ A2 c2 HT.out.out.1))
  refine k15.mono ?_
  rintro e w4 ⟨A4, c4, rfl, hb4, hS4⟩
  have HS4 := Lib.hid hS4
  clear hS4 k8 k9 k15
  have z3 := bmore z1 hb3 z1.size
  have z4 := bmore z3 hb4 z3.size
  have l3 : l < w3.heap.size := Nat.lt_of_lt_of_le l1 hb3.size
  have l4 : l < w4.heap.size := Nat.lt_of_lt_of_le l3 hb4.size
  have d0 := (hb4.cell (p := ⟨l, 0, none⟩) l3).trans ((hb3.cell (p := ⟨l, 0, none⟩) l1).trans d0)
  have d1 := (hb4.cell (p := ⟨l, 1, none⟩) l3).trans ((hb3.cell (p := ⟨l, 1, none⟩) l1).trans d1)
  have d2 := (hb4.cell (p := ⟨l, 2, none⟩) l3).trans ((hb3.cell (p := ⟨l, 2, none⟩) l1).trans d2)
  have HT4 := Lib.hid (HT.out.out.1.below hb4)
  have k18 := C18.out w4 (some ⟨p, 0, none⟩) A2 c2 HT4.out HT.out.out.2
  go_wp2_with (go_at_call 18; (with_reducible refine k18.mono ?_); rintro e w5 ⟨rfl, hb5⟩; have m0 := (hb5.cell (p := ⟨l, 0, none⟩) l4).trans d0; have m1 := (hb5.cell (p := ⟨l, 1, none⟩) l4).trans d1; have m2 := (hb5.cell (p := ⟨l, 2, none⟩) l4).trans d2)
  clear k18 d0 d1 d2
  have z5 := bmore z4 hb5 z4.size
  refine (C19.out w5 A4 c4 (HS4.out.out.below hb5)).mono ?_
  rintro e w6 ⟨rfl, hb6⟩
  have z6 := bmore z5 hb6 z5.size
  have HT6 := Lib.hid ((HT4.out.below hb5).below hb6)
  have HS6 := Lib.hid ((HS4.out.out.below hb5).below hb6)
  clear m0 m1 m2
  go_wp2_with (fail)
  refine (C15.out w6 _ A2 c2 HT6.out).mono ?_
  rintro e w7 ⟨A7, c7', rfl, hb7, hS7⟩
  have HS7 := Lib.hid hS7
  clear hS7
  have z7 := bmore z6 hb7 z6.size
  go_wp2_with (fail)
  refine (C14.out w7 A7 A4 c7' c4 HS7.out.out (HS6.out.below hb7)).mono ?_
  rintro e w8 ⟨rfl, hb8⟩
  have z8 := bmore z7 hb8 z7.size
  have HS8 := Lib.hid ((HS6.out.below hb7).below hb8)
  clear HS7 HS6 HT6 HT4 HT HS4
  go_wp2
  have HZ8 := Lib.hid z8
  clear z1 z3 z4 z5 z6 z7 z8 hb1 hb3 hb4 hb5 hb6 hb7 hb8 l1 l3 l4 hbl
  go_loopw [12, 13] (fun v i wr => AdRel ls R n w8.heap.size w8 v i wr) (fun _ i _ => n - (intOf i).toNat)
  case atStart => exact ⟨Below.refl _ _, 0, rfl, Nat.zero_le _, World.ownsRow_nil _ _ _ _⟩
  case round =>
    obtain ⟨hbel, k, rfl, hkn, hown⟩ := hrel
    obtain ⟨Ao, co, rfl, hAo⟩ := own_shape hown
    have HOW := Lib.hid hown
    have HBE := Lib.hid hbel
    have HAO := Lib.hid hAo
    by_cases hlt : k < n
    · have h0 : 0 < n := by omega
      have hRn := HRLT.out h0
      have hgk := HGET.out k h0 hlt
      obtain ⟨s, hs⟩ := getSp (ls := ls) (k := (k + R) % n) (by rw [HL.out]; exact Nat.mod_lt _ h0)
      have hbw8 : Below w.heap.size w wr := bmore HZ8.out hbel HZ8.out.size
      obtain ⟨b, off, rfl, hblt, h1, h2, h3⟩ := sat_ltA (CS.out wr hbw8) hs
      rw [hs] at hgk
      have hsn := take_snoc3 hgk
      have k20 := C20.out wr h0
      obtain ⟨M, hM⟩ : ∃ M, (k + R) % n = M := ⟨_, rfl⟩
      have hMn : M < n := by rw [← hM]; exact Nat.mod_lt _ h0
      rw [hM] at h1 h2 h3
      have hMI : ((k : Int) + (R : Int)).tmod (n : Int) = (M : Int) := by
        rw [← hM, Int.tmod_eq_emod_of_nonneg (by omega)]
        norm_cast
      obtain ⟨U, hU⟩ : ∃ U, bs s.v = U := ⟨_, rfl⟩
      rw [hU] at h3 hsn
      have n2 : k + 1 ≤ 200000 := by omega
      have m3 := mx n2
      have m4 := my n2
      have HSN := Lib.hid hsn
      have hs8 := hbel.size
      have hz : ((n : Int) == 0) = false := beq_false_of_ne (by omega)
      clear hs hgk hsn hU hM hown hbel hAo hbw8 c7
      go_wp2_with (first
        | (go_at_call 20; (with_reducible refine k20.mono ?_); rintro e w9 ⟨rfl, rfl⟩)
        | (at_builtin; refine append_lit rfl _ _ 22 rfl w8.heap.size 41 i0 (.agg #[.int .i64 0, .int .i64 0, .string ⟨#[]⟩]) 3 32 Try.underlying22 hi hz0 hz1 hz2 rfl (by decide) _ _ _ rfl HOW.out [.int .i64 s.a, .int .i64 s.b, .string U] rfl (by simp [Value.oneCell']) rfl m3 m4 hs8 ?_; intro v2 w2 ho2 hg2))
      go_roundw
      case rel => exact ⟨hg2 _ _ HBE.out (Nat.le_refl _), k + 1, by go_num, by omega, by rw [HSN.out] at ho2; exact ho2⟩
      case measure => simp [intOf]; omega
    · obtain rfl : k = n := by omega
      have hfull : (rot ls R).take k = rot ls R := List.take_of_length_le (by rw [HRL.out]; exact Nat.le_refl _)
      rw [hfull] at hown
      have hsat : SAt wr Ao k (rot ls R) ∧ k ≤ co ∧ Flat Ao := by
        rcases own_sat' HRL.out hown with ⟨e, h0⟩ | ⟨g, c', e, hcc, -, hS'⟩
        · injection e with e1 e2 e3
          subst e1 e3
          have : rot ls R = [] := List.eq_nil_of_length_eq_zero (by rw [HRL.out]; exact h0)
          rw [this, h0]
          exact ⟨SAt.nil _ _, Nat.le_refl _, .inl rfl⟩
        · injection e with e1 e2 e3
          subst e1 e3
          exact ⟨hS', hcc, .inr ⟨g, 0, rfl⟩⟩
      have k9 := CR.out wr Ao co hsat.1 hsat.2.2 hAo hsat.2.1
      clear hown hbel hAo hsat hfull c7
      go_wp2_with (go_at_call 9; (with_reducible refine k9.mono ?_); rintro e w9 ⟨p9, A9, c9, rfl, hb9, hT9⟩; have HT9 := Lib.hid hT9; clear hT9)
      refine (C15.out w9 _ A9 c9 HT9.out.out).mono ?_
      rintro e w10 ⟨A10, c10, rfl, hb10, hS10⟩
      have HS10 := Lib.hid hS10
      clear hS10
      go_wp2_with (fail)
      refine (C14.out w10 A10 A4 c10 c4 HS10.out.out (((HS8.out.below HBE.out).below hb9).below hb10)).mono ?_
      rintro e w11 ⟨rfl, hb11⟩
      go_wp2
      go_ret
      have y8 := bmore HZ8.out HBE.out HZ8.out.size
      have y9 := bmore y8 hb9 y8.size
      have y10 := bmore y9 hb10 y9.size
      exact ⟨rfl, bmore y10 hb11 y10.size⟩

set_option maxRecDepth 100000 in
set_option maxHeartbeats 4000000 in
theorem walkAdds (A : Option Addr) (n c : Nat) (ls : List Sp) (x : Sp) (t : Int) (w : World) (hS : SAt w A n ls) (hA : Flat A) (hA0 : A = none → c = 0) (hc : n ≤ c) :
    Calls Try.prog 4 #[.slice A n c, spV x, .int .i64 t] w fun e w' => e = .returned (.bool true) ∧ Below w.heap.size w w' := by
  have c7 := fun W => awake7 W
  have c8 := fun W (hb : Below w.heap.size w W) => small8 A n c ls W (hS.below hb)
  have C8 := Lib.hid c8
  clear c8
  have hbw : Below w.heap.size w (w.alloc (.cells #[.int .i64 x.a, .int .i64 x.b, .string (bs x.v)] 41)) := (Below.refl _ _).alloc (Nat.le_refl _) _
  have hbox := spBox_new x w 41
  have hbl : w.heap.size < (w.alloc (.cells #[.int .i64 x.a, .int .i64 x.b, .string (bs x.v)] 41)).heap.size := by simp
  unfold SpBox at hbox
  by_cases hsm : isSmall ls = true
  · have hn := small_len hS hsm
    by_cases hv : x.v.length ≤ 30
    · cases hr : addAll [] ls with
      | ok r =>
        by_cases hx : check r x = 0
        · exact adds_ok A n c ls r x t w hS hA hA0 hc hsm hn hv hr hx
        · exact adds_no A n c ls r x t w hS hA hA0 hc hsm hn hv hr hx
      | error y =>
        have c9 := fun W (hb : Below w.heap.size w W) => new_none A n c ls y W (hS.below hb) hA hA0 hc (by omega) hr
        have HX := Lib.hid (err_ne hr)
        have hsz : (bs x.v).size ≤ 30 := by rw [bs_size]; exact hv
        unfold spV
        obtain ⟨T, hT⟩ : ∃ T, bs x.v = T := ⟨_, rfl⟩
        rw [hT] at hsz hbw hbox hbl ⊢
        have C9 := Lib.hid c9
        have HSM := Lib.hid hsm
        have HBW := Lib.hid hbw
        clear c9 hS hA hA0 hr hT hsm hv hbw
        go_enter Try.func4, Try.ntmps4
        go_wp2_with (fail)
        obtain ⟨W, hW⟩ : ∃ W, w.alloc (.cells #[.int .i64 x.a, .int .i64 x.b, .string T] 41) = W := ⟨_, rfl⟩
        rw [hW] at hbox hbl HBW ⊢
        obtain ⟨b0, b1, b2⟩ := hbox
        clear hW
        refine (c7 _).mono ?_
        rintro e w1 ⟨rfl, hb1⟩
        have z1 := bmore HBW.out hb1 HBW.out.size
        have d2 := (hb1.cell (p := ⟨w.heap.size, 2, none⟩) hbl).trans b2
        have k8 := C8.out w1 z1
        rw [HSM.out] at k8
        have k9 := C9.out w1 z1
        clear b0 b1 b2
        go_wp2_with (first
          | (go_at_call 8; (with_reducible refine k8.mono ?_); rintro e w2 ⟨rfl, rfl⟩)
          | (go_at_call 9; (with_reducible refine k9.mono ?_); rintro e w3 ⟨rfl, hb3⟩; have hb0 : (y == 0) = false := beq_false_of_ne HX.out))
        go_ret
        exact ⟨congrArg (fun f => Ending.returned (.bool f)) (show (y != 0) = true by simp [bne, hb0]), bmore z1 hb3 z1.size⟩
    · have hsz : ¬ (bs x.v).size ≤ 30 := by rw [bs_size]; exact hv
      unfold spV
      obtain ⟨T, hT⟩ : ∃ T, bs x.v = T := ⟨_, rfl⟩
      rw [hT] at hsz hbw hbox hbl ⊢
      have HSM := Lib.hid hsm
      have HBW := Lib.hid hbw
      clear hS hA hA0 hT hsm hv hbw
      go_enter Try.func4, Try.ntmps4
      go_wp2_with (fail)
      obtain ⟨W, hW⟩ : ∃ W, w.alloc (.cells #[.int .i64 x.a, .int .i64 x.b, .string T] 41) = W := ⟨_, rfl⟩
      rw [hW] at hbox hbl HBW ⊢
      obtain ⟨b0, b1, b2⟩ := hbox
      clear hW
      refine (c7 _).mono ?_
      rintro e w1 ⟨rfl, hb1⟩
      have z1 := bmore HBW.out hb1 HBW.out.size
      have d2 := (hb1.cell (p := ⟨w.heap.size, 2, none⟩) hbl).trans b2
      have k8 := C8.out w1 z1
      rw [HSM.out] at k8
      clear b0 b1 b2
      go_wp2_with (go_at_call 8; (with_reducible refine k8.mono ?_); rintro e w2 ⟨rfl, rfl⟩)
      refine (c7 _).mono ?_
      rintro e w3 ⟨rfl, hb3⟩
      go_wp2
      go_ret
      exact ⟨rfl, bmore z1 hb3 z1.size⟩
  · have hsf : isSmall ls = false := by simpa using hsm
    unfold spV
    obtain ⟨T, hT⟩ : ∃ T, bs x.v = T := ⟨_, rfl⟩
    rw [hT] at hbw ⊢
    have HSM := Lib.hid hsf
    have HBW := Lib.hid hbw
    clear hsm hsf hS hT hbw hbox hbl
    go_enter Try.func4, Try.ntmps4
    go_wp2_with (fail)
    obtain ⟨W, hW⟩ : ∃ W, w.alloc (.cells #[.int .i64 x.a, .int .i64 x.b, .string T] 41) = W := ⟨_, rfl⟩
    rw [hW] at HBW ⊢
    clear hW
    refine (c7 _).mono ?_
    rintro e w1 ⟨rfl, hb1⟩
    have z1 := bmore HBW.out hb1 HBW.out.size
    have k8 := C8.out w1 z1
    rw [HSM.out] at k8
    go_wp2_with (go_at_call 8; (with_reducible refine k8.mono ?_); rintro e w2 ⟨rfl, rfl⟩)
    refine (c7 _).mono ?_
    rintro e w3 ⟨rfl, hb3⟩
    go_wp2
    go_ret
    exact ⟨rfl, bmore z1 hb3 z1.size⟩
end Go.Proofs.Ytfggoegofbghhaa
