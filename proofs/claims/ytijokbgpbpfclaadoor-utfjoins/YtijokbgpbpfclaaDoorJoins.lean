/- For any two lists of numbers the statement UtfJoins answers true: the octets of two texts, one behind the other, are those of both, and are read as both. Conditions: those of the row itself (the two tables of unicode/utf8 hold what Go's text lays in them; the card ties that to the text). -/
import Derived.Test.YtijokbgpbpfclaaDoorCards
import Derived.Test.YtijokbgpbpfclaaDoorTie
import Derived.Test.YtijokbgpbpfclaaDoorLaid
import Derived.Test.YtijokbgpbpfclaaDoorApp
namespace Go.Proofs.YtijokbgpbpfclaaDoor.utfJoins
open Go.ChangeShapes Go.WideShapes Go.ChangeAt Go.RowKit

theorem walk_long (a0 a1 : Option Addr) (len0 cap0 len1 cap1 : Nat) (w : World) (hT : Lib.Utf8Tabs 0 1 w) (h : 150 < len0 ∨ (len0 ≤ 150 ∧ 150 < len1)) :
    Calls Tryd.prog 7 #[.slice a0 len0 cap0, .slice a1 len1 cap1] w fun e w' => e = .returned (.bool true) ∧ Below w.heap.size w w' := by
  rcases h with h | ⟨h, h'⟩
  all_goals
    go_enter Tryd.func7, Tryd.ntmps7
    go_wp2_with (go_at_call 8; (with_reducible refine (awake8 w hT).mono ?_); rintro e w1 ⟨rfl, hb1⟩; have hT1 := tabs_below hT hb1)
    go_wp2_with (go_at_call 8; (with_reducible refine (awake8 w1 hT1).mono ?_); rintro e w2 ⟨rfl, hb2⟩)
    go_ret
    exact ⟨rfl, hb1.trans (hb2.mono hb1.size)⟩

theorem all_nums {w w1 w2 w3 : World} {v2 v3 : Value} {xs ys : List Int} {n m : Nat} (hb1 : Below w.heap.size w w1)
    (h2 : w2.ownsRow w1.heap.size 3 1 v2 n (xs.map (Value.int .i64))) (g2 : (w1.alloc (.cells #[] 3)).grownBy w2 (some w1.heap.size))
    (h3 : w3.ownsRow w1.heap.size 3 1 v3 (n + m) (xs.map (Value.int .i64) ++ ys.map (Value.int .i64))) (g3 : w2.grownBy w3 v2.ownBlock) :
    Below w.heap.size w w3 ∧ ∃ A c, v3 = .slice A (n + m) c ∧ Nums .i64 w3 A (n + m) (xs ++ ys) := by
  have b2 : Below w1.heap.size w1 w2 := ((Below.refl _ _).alloc (Nat.le_refl _) _).grown g2 (by simp) (fun g hg => by cases hg; exact Nat.le_refl _)
  have b3 : Below w1.heap.size w1 w3 := b2.grown g3 b2.size (fun g hg => (h2.lt g hg).1)
  rw [← List.map_append] at h3
  obtain ⟨A, c, rfl, _, hN⟩ := own_nums h3
  exact ⟨hb1.trans (b3.mono hb1.size), A, c, rfl, hN⟩

theorem own_zero (w : World) (e : TypeId) : (w.alloc (.cells #[] e)).ownsRow w.heap.size e 1 (.slice (some ⟨w.heap.size, 0, none⟩) 0 0) 0 [] :=
  World.ownsRow_lit w #[] 0 (Nat.le_refl _) (Nat.zero_le _) rfl
theorem below_zero (w : World) (e : TypeId) : Below w.heap.size w (w.alloc (.cells #[] e)) := (Below.refl _ _).alloc (Nat.le_refl _) _
theorem below_first {w w2 : World} {e : TypeId} (g2 : (w.alloc (.cells #[] e)).grownBy w2 (some w.heap.size)) : Below w.heap.size w w2 :=
  (below_zero w e).grown g2 (by simp) (fun g hg => by cases hg; exact Nat.le_refl _)

/-- The second pair of appends, as octets. -/
theorem two_nums {w w7 w8 : World} {v7 v8 : Value} {bx by' : List Int} {n m : Nat}
    (h2 : w7.ownsRow w.heap.size 5 1 v7 n (bx.map (Value.int .u8))) (g2 : (w.alloc (.cells #[] 5)).grownBy w7 (some w.heap.size))
    (h3 : w8.ownsRow w.heap.size 5 1 v8 (n + m) (bx.map (Value.int .u8) ++ by'.map (Value.int .u8))) (g3 : w7.grownBy w8 v7.ownBlock) :
    Below w.heap.size w w8 ∧ ∃ A c, v8 = .slice A (n + m) c ∧ n + m ≤ c ∧ Nums .u8 w8 A (n + m) (bx ++ by') := by
  have b2 := below_first g2
  have b3 : Below w.heap.size w w8 := b2.grown g3 b2.size (fun g hg => (h2.lt g hg).1)
  rw [← List.map_append] at h3
  obtain ⟨A, c, rfl, hc, hN⟩ := own_nums h3
  exact ⟨b3, A, c, rfl, hc, hN⟩

set_option maxHeartbeats 4000000 in
theorem walk_yes (a0 a1 : Option Addr) (len0 cap0 len1 cap1 : Nat) (xs ys gx gy : List Int) (w : World) (hT : Lib.Utf8Tabs 0 1 w) (n0 : Nums .i64 w a0 len0 xs) (n1 : Nums .i64 w a1 len1 ys) (z0 : a0 = none → cap0 = 0) (z1 : a1 = none → cap1 = 0)
    (h0 : len0 ≤ 150) (h1 : len1 ≤ 150) (hgx : good xs = gx) (hgy : good ys = gy) (hp : allS xs = true) (hq : allS ys = true) :
    Calls Tryd.prog 7 #[.slice a0 len0 cap0, .slice a1 len1 cap1] w fun e w' => e = .returned (.bool true) ∧ Below w.heap.size w w' := by
  have hgz : good (xs ++ ys) = gx ++ gy := by rw [good_yes (by rw [allS_append, hp, hq]; rfl), ← hgx, ← hgy, good_yes hp, good_yes hq]
  have hz : allS (xs ++ ys) = true := by rw [allS_append, hp, hq]; rfl
  have hxy : xs ++ ys = gx ++ gy := by rw [← hgz, good_yes hz]
  have HP := Lib.hid hp
  have HQ := Lib.hid hq
  have HZ := Lib.hid hz
  have HGZ := Lib.hid hgz
  have HXY := Lib.hid hxy
  clear hp hq hz hgz hxy
  have hlx : (encs gx).length ≤ 600 := by have h := good_len xs; have h' := (encs_length (good xs)).2; have := n0.1; rw [hgx] at h h'; omega
  have hly : (encs gy).length ≤ 600 := by have h := good_len ys; have h' := (encs_length (good ys)).2; have := n1.1; rw [hgy] at h h'; omega
  have hgl : (gx ++ gy).length ≤ 300 := by have h := good_len xs; have h' := good_len ys; have := n0.1; have := n1.1; rw [hgx] at h; rw [hgy] at h'; simp; omega
  have hga : ∀ c ∈ gx ++ gy, scal c = true := by
    intro c hc
    rcases List.mem_append.1 hc with h | h
    · rw [← hgx] at h; exact good_all xs c h
    · rw [← hgy] at h; exact good_all ys c h
  have HGA := Lib.hid hga
  have HGX := Lib.hid hgx
  have HGY := Lib.hid hgy
  have N0 := Lib.hid n0
  have N1 := Lib.hid n1
  have Z0 := Lib.hid z0
  have Z1 := Lib.hid z1
  have TT := Lib.hid hT
  clear n0 n1 z0 z1 hT hga hgx hgy
  obtain ⟨LX, hLX⟩ : ∃ L, (encs gx).length = L := ⟨_, rfl⟩
  obtain ⟨LY, hLY⟩ : ∃ L, (encs gy).length = L := ⟨_, rfl⟩
  rw [hLX] at hlx
  rw [hLY] at hly
  have HLX := Lib.hid hLX
  have HLY := Lib.hid hLY
  have HLZ : Hid ((encs (gx ++ gy)).length = LX + LY) := by show _ = _; rw [encs_append, List.length_append, hLX, hLY]
  clear hLX hLY
  obtain ⟨i0, hi, hz0, hz1, hz2⟩ := info_parts info3
  obtain ⟨j0, ji, jz0, jz1, jz2⟩ := info_parts info5
  have m1 : 0 + len0 ≤ maxLen := by unfold maxLen; omega
  have m2 : len0 + len1 ≤ maxLen := by unfold maxLen; omega
  have m3 : 0 + LX ≤ maxLen := by unfold maxLen; omega
  have m4 : LX + LY ≤ maxLen := by unfold maxLen; omega
  go_enter Tryd.func7, Tryd.ntmps7
  go_wp2_with (first
    | (go_at_call 8; (with_reducible refine (awake8 w TT.out).mono ?_); rintro e w1 ⟨rfl, hb1⟩)
    | (at_builtin; refine append_nums rfl (.tmp 28) (.tmp 29) 22 rfl w1.heap.size 3 i0 (.int .i64 0) 8 Tryd.underlying22 hi hz0 hz1 hz2 rfl _ 0 [] rfl (own_zero w1 3) .i64 a0 len0 cap0 xs rfl ((N0.out.below hb1).below (below_zero w1 3)) Z0.out m1 (by omega) (by simp) ?_; intro v2 w2 hown2 hg2; simp only [Nat.zero_add, List.nil_append] at hown2; have b2 : Below w.heap.size w w2 := hb1.trans ((below_first hg2).mono hb1.size))
    | (at_builtin; refine append_nums rfl (.tmp 30) (.tmp 31) 22 rfl w1.heap.size 3 i0 (.int .i64 0) 8 Tryd.underlying22 hi hz0 hz1 hz2 rfl v2 len0 _ rfl hown2 .i64 a1 len1 cap1 ys rfl (N1.out.below b2) Z1.out m2 (by omega) (below_first hg2).size ?_; intro v3 w3 hown3 hg3))
  obtain ⟨b3, A3, c3, rfl, hN3⟩ := all_nums hb1 hown2 hg2 hown3 hg3
  clear hown2 hown3 hg2 hg3
  have NN3 := Lib.hid hN3
  clear hN3
  have c9 := encode9 a0 len0 cap0 xs w3 (N0.out.below b3) (by omega)
  go_wp2_with (go_at_call 9; (with_reducible refine c9.mono ?_); rintro e w4 hE; obtain ⟨X, cx, rfl, hcx, zX, nX, hb4⟩ := enc_any hE; clear hE; rw [HGX.out] at hcx nX ⊢; rw [HLX.out] at hcx nX ⊢; rw [HP.out]; have NX := Lib.hid nX; have ZX := Lib.hid zX; clear nX zX)
  have b4 := b3.trans (hb4.mono b3.size)
  clear c9
  have c9 := encode9 a1 len1 cap1 ys w4 (N1.out.below b4) (by omega)
  go_wp2_with (go_at_call 9; (with_reducible refine c9.mono ?_); rintro e w5 hE; obtain ⟨Y, cy, rfl, hcy, zY, nY, hb5⟩ := enc_any hE; clear hE; rw [HGY.out] at hcy nY ⊢; rw [HLY.out] at hcy nY ⊢; rw [HQ.out]; have NY := Lib.hid nY; have ZY := Lib.hid zY; clear nY zY)
  have b5 := b4.trans (hb5.mono b4.size)
  clear c9
  have c9 := encode9 A3 (len0 + len1) c3 (xs ++ ys) w5 ((NN3.out.below hb4).below hb5) (by omega)
  have sx : (strOfNums (encs gx)).size ≤ 600 := by rw [strOfNums_size, HLX.out]; exact hlx
  have sy : (strOfNums (encs gy)).size ≤ 600 := by rw [strOfNums_size, HLY.out]; exact hly
  have sxy : strOfNums (encs gx) ++ strOfNums (encs gy) = strOfNums (encs (gx ++ gy)) := by rw [encs_append, str_append]
  go_wp2_with (first
    | (go_at_call 9; (with_reducible refine c9.mono ?_); rintro e w6 hE; obtain ⟨Z, cz, rfl, hcz, zZ, nZ, hb6⟩ := enc_any hE; clear hE; rw [HGZ.out] at hcz nZ ⊢; rw [HLZ.out] at hcz nZ ⊢; rw [HZ.out]; have kz := conv_nums cz nZ; have NX6 := Lib.hid ((NX.out.below hb5).below hb6); have NY6 := Lib.hid (NY.out.below hb6); have kx := conv_nums cx NX6.out; have ky := conv_nums cy NY6.out; clear nZ zZ; have b6 := b5.trans (hb6.mono b5.size))
    | (at_builtin; refine append_nums rfl (.tmp 68) (.tmp 69) 24 rfl w6.heap.size 5 j0 (.int .u8 0) 1 Tryd.underlying24 ji jz0 jz1 jz2 rfl _ 0 [] rfl (own_zero w6 5) .u8 X LX cx (encs gx) rfl (NX6.out.below (below_zero w6 5)) ZX.out m3 (by omega) (by simp) ?_; intro v7 w7 hown7 hg7; simp only [Nat.zero_add, List.nil_append] at hown7)
    | (at_builtin; refine append_nums rfl (.tmp 70) (.tmp 71) 24 rfl w6.heap.size 5 j0 (.int .u8 0) 1 Tryd.underlying24 ji jz0 jz1 jz2 rfl v7 LX _ rfl hown7 .u8 Y LY cy (encs gy) rfl (NY6.out.below (below_first hg7)) ZY.out m4 (by omega) (below_first hg7).size ?_; intro v8 w8 hown8 hg8))
  obtain ⟨b8, A8, c8, rfl, hc8, hN8⟩ := two_nums hown7 hg7 hown8 hg8
  clear hown7 hown8 hg7 hg8
  have hb8 := b6.trans (b8.mono b6.size)
  rw [← encs_append] at hN8
  have c11 := decode11 A8 (LX + LY) c8 (encs (gx ++ gy)) w8 (tabs_below TT.out hb8) (octs_encs _) hN8 (by omega) hc8
  clear hN8
  go_wp2_with (go_at_call 11; (with_reducible refine c11.mono ?_); rintro e w9 hE; obtain ⟨B, cb, rfl, hM, hb9⟩ := dec_yes HLZ.out.symm hE HGA.out; clear hE)
  rw [List.length_append] at hM hgl
  have c12 := same12 B A3 (gx.length + gy.length) (len0 + len1) cb c3 (gx ++ gy) (xs ++ ys) w9 hM (((((NN3.out.below hb4).below hb5).below hb6).below b8).below hb9) (by omega) (by omega) HXY.out.symm
  go_wp2_with (go_at_call 12; (with_reducible refine c12.mono ?_); rintro e w5' ⟨rfl, qq, rfl⟩)
  go_ret
  exact ⟨rfl, below_drewN (hb8.trans (hb9.mono hb8.size)) qq⟩
set_option maxHeartbeats 4000000 in
theorem walk_ff (a0 a1 : Option Addr) (len0 cap0 len1 cap1 : Nat) (xs ys gx gy : List Int) (w : World) (hT : Lib.Utf8Tabs 0 1 w) (n0 : Nums .i64 w a0 len0 xs) (n1 : Nums .i64 w a1 len1 ys) (z0 : a0 = none → cap0 = 0) (z1 : a1 = none → cap1 = 0)
    (h0 : len0 ≤ 150) (h1 : len1 ≤ 150) (hgx : good xs = gx) (hgy : good ys = gy) (hp : allS xs = false) (hq : allS ys = false) :
    Calls Tryd.prog 7 #[.slice a0 len0 cap0, .slice a1 len1 cap1] w fun e w' => e = .returned (.bool true) ∧ Below w.heap.size w w' := by
  have hno : ¬ ∀ c ∈ xs ++ ys, scal c = true := fun h => by have := allS_iff.2 h; rw [allS_append, hp, hq] at this; cases this
  have HP := Lib.hid hp
  have HQ := Lib.hid hq
  have HNO := Lib.hid hno
  clear hp hq hno
  have hlx : (encs gx).length ≤ 600 := by have h := good_len xs; have h' := (encs_length (good xs)).2; have := n0.1; rw [hgx] at h h'; omega
  have hly : (encs gy).length ≤ 600 := by have h := good_len ys; have h' := (encs_length (good ys)).2; have := n1.1; rw [hgy] at h h'; omega
  have hgl : (gx ++ gy).length ≤ 300 := by have h := good_len xs; have h' := good_len ys; have := n0.1; have := n1.1; rw [hgx] at h; rw [hgy] at h'; simp; omega
  have hga : ∀ c ∈ gx ++ gy, scal c = true := by
    intro c hc
    rcases List.mem_append.1 hc with h | h
    · rw [← hgx] at h; exact good_all xs c h
    · rw [← hgy] at h; exact good_all ys c h
  have HGA := Lib.hid hga
  have HGX := Lib.hid hgx
  have HGY := Lib.hid hgy
  have N0 := Lib.hid n0
  have N1 := Lib.hid n1
  have Z0 := Lib.hid z0
  have Z1 := Lib.hid z1
  have TT := Lib.hid hT
  clear n0 n1 z0 z1 hT hga hgx hgy
  obtain ⟨LX, hLX⟩ : ∃ L, (encs gx).length = L := ⟨_, rfl⟩
  obtain ⟨LY, hLY⟩ : ∃ L, (encs gy).length = L := ⟨_, rfl⟩
  rw [hLX] at hlx
  rw [hLY] at hly
  have HLX := Lib.hid hLX
  have HLY := Lib.hid hLY
  have HLZ : Hid ((encs (gx ++ gy)).length = LX + LY) := by show _ = _; rw [encs_append, List.length_append, hLX, hLY]
  clear hLX hLY
  obtain ⟨i0, hi, hz0, hz1, hz2⟩ := info_parts info3
  obtain ⟨j0, ji, jz0, jz1, jz2⟩ := info_parts info5
  have m1 : 0 + len0 ≤ maxLen := by unfold maxLen; omega
  have m2 : len0 + len1 ≤ maxLen := by unfold maxLen; omega
  have m3 : 0 + LX ≤ maxLen := by unfold maxLen; omega
  have m4 : LX + LY ≤ maxLen := by unfold maxLen; omega
  go_enter Tryd.func7, Tryd.ntmps7
  go_wp2_with (first
    | (go_at_call 8; (with_reducible refine (awake8 w TT.out).mono ?_); rintro e w1 ⟨rfl, hb1⟩)
    | (at_builtin; refine append_nums rfl (.tmp 28) (.tmp 29) 22 rfl w1.heap.size 3 i0 (.int .i64 0) 8 Tryd.underlying22 hi hz0 hz1 hz2 rfl _ 0 [] rfl (own_zero w1 3) .i64 a0 len0 cap0 xs rfl ((N0.out.below hb1).below (below_zero w1 3)) Z0.out m1 (by omega) (by simp) ?_; intro v2 w2 hown2 hg2; simp only [Nat.zero_add, List.nil_append] at hown2; have b2 : Below w.heap.size w w2 := hb1.trans ((below_first hg2).mono hb1.size))
    | (at_builtin; refine append_nums rfl (.tmp 30) (.tmp 31) 22 rfl w1.heap.size 3 i0 (.int .i64 0) 8 Tryd.underlying22 hi hz0 hz1 hz2 rfl v2 len0 _ rfl hown2 .i64 a1 len1 cap1 ys rfl (N1.out.below b2) Z1.out m2 (by omega) (below_first hg2).size ?_; intro v3 w3 hown3 hg3))
  obtain ⟨b3, A3, c3, rfl, hN3⟩ := all_nums hb1 hown2 hg2 hown3 hg3
  clear hown2 hown3 hg2 hg3
  have NN3 := Lib.hid hN3
  clear hN3
  have c9 := encode9 a0 len0 cap0 xs w3 (N0.out.below b3) (by omega)
  go_wp2_with (go_at_call 9; (with_reducible refine c9.mono ?_); rintro e w4 hE; obtain ⟨X, cx, rfl, hcx, zX, nX, hb4⟩ := enc_any hE; clear hE; rw [HGX.out] at hcx nX ⊢; rw [HLX.out] at hcx nX ⊢; rw [HP.out]; have NX := Lib.hid nX; have ZX := Lib.hid zX; clear nX zX)
  have b4 := b3.trans (hb4.mono b3.size)
  clear c9
  have c9 := encode9 a1 len1 cap1 ys w4 (N1.out.below b4) (by omega)
  go_wp2_with (go_at_call 9; (with_reducible refine c9.mono ?_); rintro e w5 hE; obtain ⟨Y, cy, rfl, hcy, zY, nY, hb5⟩ := enc_any hE; clear hE; rw [HGY.out] at hcy nY ⊢; rw [HLY.out] at hcy nY ⊢; rw [HQ.out]; have NY := Lib.hid nY; have ZY := Lib.hid zY; clear nY zY)
  have b5 := b4.trans (hb5.mono b4.size)
  clear c9
  have c9 := encode9 A3 (len0 + len1) c3 (xs ++ ys) w5 ((NN3.out.below hb4).below hb5) (by omega)
  go_wp2_with (first
    | (go_at_call 9; (with_reducible refine c9.mono ?_); rintro e w6 hE; obtain ⟨rfl, hb6⟩ := enc_no hE HNO.out; clear hE; have NX6 := Lib.hid ((NX.out.below hb5).below hb6); have NY6 := Lib.hid (NY.out.below hb6); have b6 := b5.trans (hb6.mono b5.size))
    | (at_builtin; refine append_nums rfl (.tmp 68) (.tmp 69) 24 rfl w6.heap.size 5 j0 (.int .u8 0) 1 Tryd.underlying24 ji jz0 jz1 jz2 rfl _ 0 [] rfl (own_zero w6 5) .u8 X LX cx (encs gx) rfl (NX6.out.below (below_zero w6 5)) ZX.out m3 (by omega) (by simp) ?_; intro v7 w7 hown7 hg7; simp only [Nat.zero_add, List.nil_append] at hown7)
    | (at_builtin; refine append_nums rfl (.tmp 70) (.tmp 71) 24 rfl w6.heap.size 5 j0 (.int .u8 0) 1 Tryd.underlying24 ji jz0 jz1 jz2 rfl v7 LX _ rfl hown7 .u8 Y LY cy (encs gy) rfl (NY6.out.below (below_first hg7)) ZY.out m4 (by omega) (below_first hg7).size ?_; intro v8 w8 hown8 hg8))
  obtain ⟨b8, A8, c8, rfl, hc8, hN8⟩ := two_nums hown7 hg7 hown8 hg8
  clear hown7 hown8 hg7 hg8
  have hb8 := b6.trans (b8.mono b6.size)
  rw [← encs_append] at hN8
  have c11 := decode11 A8 (LX + LY) c8 (encs (gx ++ gy)) w8 (tabs_below TT.out hb8) (octs_encs _) hN8 (by omega) hc8
  clear hN8
  go_wp2_with (go_at_call 11; (with_reducible refine c11.mono ?_); rintro e w9 hE; obtain ⟨B, cb, rfl, hM, hb9⟩ := dec_yes HLZ.out.symm hE HGA.out; clear hE)
  go_ret
  exact ⟨rfl, hb8.trans (hb9.mono hb8.size)⟩

set_option maxHeartbeats 4000000 in
theorem walk_ft (a0 a1 : Option Addr) (len0 cap0 len1 cap1 : Nat) (xs ys gx gy : List Int) (w : World) (hT : Lib.Utf8Tabs 0 1 w) (n0 : Nums .i64 w a0 len0 xs) (n1 : Nums .i64 w a1 len1 ys) (z0 : a0 = none → cap0 = 0) (z1 : a1 = none → cap1 = 0)
    (h0 : len0 ≤ 150) (h1 : len1 ≤ 150) (hgx : good xs = gx) (hgy : good ys = gy) (hp : allS xs = false) (hq : allS ys = true) :
    Calls Tryd.prog 7 #[.slice a0 len0 cap0, .slice a1 len1 cap1] w fun e w' => e = .returned (.bool true) ∧ Below w.heap.size w w' := by
  have hno : ¬ ∀ c ∈ xs ++ ys, scal c = true := fun h => by have := allS_iff.2 h; rw [allS_append, hp, hq] at this; cases this
  have HP := Lib.hid hp
  have HQ := Lib.hid hq
  have HNO := Lib.hid hno
  clear hp hq hno
  have hlx : (encs gx).length ≤ 600 := by have h := good_len xs; have h' := (encs_length (good xs)).2; have := n0.1; rw [hgx] at h h'; omega
  have hly : (encs gy).length ≤ 600 := by have h := good_len ys; have h' := (encs_length (good ys)).2; have := n1.1; rw [hgy] at h h'; omega
  have hgl : (gx ++ gy).length ≤ 300 := by have h := good_len xs; have h' := good_len ys; have := n0.1; have := n1.1; rw [hgx] at h; rw [hgy] at h'; simp; omega
  have hga : ∀ c ∈ gx ++ gy, scal c = true := by
    intro c hc
    rcases List.mem_append.1 hc with h | h
    · rw [← hgx] at h; exact good_all xs c h
    · rw [← hgy] at h; exact good_all ys c h
  have HGA := Lib.hid hga
  have HGX := Lib.hid hgx
  have HGY := Lib.hid hgy
  have N0 := Lib.hid n0
  have N1 := Lib.hid n1
  have Z0 := Lib.hid z0
  have Z1 := Lib.hid z1
  have TT := Lib.hid hT
  clear n0 n1 z0 z1 hT hga hgx hgy
  obtain ⟨LX, hLX⟩ : ∃ L, (encs gx).length = L := ⟨_, rfl⟩
  obtain ⟨LY, hLY⟩ : ∃ L, (encs gy).length = L := ⟨_, rfl⟩
  rw [hLX] at hlx
  rw [hLY] at hly
  have HLX := Lib.hid hLX
  have HLY := Lib.hid hLY
  have HLZ : Hid ((encs (gx ++ gy)).length = LX + LY) := by show _ = _; rw [encs_append, List.length_append, hLX, hLY]
  clear hLX hLY
  obtain ⟨i0, hi, hz0, hz1, hz2⟩ := info_parts info3
  obtain ⟨j0, ji, jz0, jz1, jz2⟩ := info_parts info5
  have m1 : 0 + len0 ≤ maxLen := by unfold maxLen; omega
  have m2 : len0 + len1 ≤ maxLen := by unfold maxLen; omega
  have m3 : 0 + LX ≤ maxLen := by unfold maxLen; omega
  have m4 : LX + LY ≤ maxLen := by unfold maxLen; omega
  go_enter Tryd.func7, Tryd.ntmps7
  go_wp2_with (first
    | (go_at_call 8; (with_reducible refine (awake8 w TT.out).mono ?_); rintro e w1 ⟨rfl, hb1⟩)
    | (at_builtin; refine append_nums rfl (.tmp 28) (.tmp 29) 22 rfl w1.heap.size 3 i0 (.int .i64 0) 8 Tryd.underlying22 hi hz0 hz1 hz2 rfl _ 0 [] rfl (own_zero w1 3) .i64 a0 len0 cap0 xs rfl ((N0.out.below hb1).below (below_zero w1 3)) Z0.out m1 (by omega) (by simp) ?_; intro v2 w2 hown2 hg2; simp only [Nat.zero_add, List.nil_append] at hown2; have b2 : Below w.heap.size w w2 := hb1.trans ((below_first hg2).mono hb1.size))
    | (at_builtin; refine append_nums rfl (.tmp 30) (.tmp 31) 22 rfl w1.heap.size 3 i0 (.int .i64 0) 8 Tryd.underlying22 hi hz0 hz1 hz2 rfl v2 len0 _ rfl hown2 .i64 a1 len1 cap1 ys rfl (N1.out.below b2) Z1.out m2 (by omega) (below_first hg2).size ?_; intro v3 w3 hown3 hg3))
  obtain ⟨b3, A3, c3, rfl, hN3⟩ := all_nums hb1 hown2 hg2 hown3 hg3
  clear hown2 hown3 hg2 hg3
  have NN3 := Lib.hid hN3
  clear hN3
  have c9 := encode9 a0 len0 cap0 xs w3 (N0.out.below b3) (by omega)
  go_wp2_with (go_at_call 9; (with_reducible refine c9.mono ?_); rintro e w4 hE; obtain ⟨X, cx, rfl, hcx, zX, nX, hb4⟩ := enc_any hE; clear hE; rw [HGX.out] at hcx nX ⊢; rw [HLX.out] at hcx nX ⊢; rw [HP.out]; have NX := Lib.hid nX; have ZX := Lib.hid zX; clear nX zX)
  have b4 := b3.trans (hb4.mono b3.size)
  clear c9
  have c9 := encode9 a1 len1 cap1 ys w4 (N1.out.below b4) (by omega)
  go_wp2_with (go_at_call 9; (with_reducible refine c9.mono ?_); rintro e w5 hE; obtain ⟨Y, cy, rfl, hcy, zY, nY, hb5⟩ := enc_any hE; clear hE; rw [HGY.out] at hcy nY ⊢; rw [HLY.out] at hcy nY ⊢; rw [HQ.out]; have NY := Lib.hid nY; have ZY := Lib.hid zY; clear nY zY)
  have b5 := b4.trans (hb5.mono b4.size)
  clear c9
  have c9 := encode9 A3 (len0 + len1) c3 (xs ++ ys) w5 ((NN3.out.below hb4).below hb5) (by omega)
  go_wp2_with (first
    | (go_at_call 9; (with_reducible refine c9.mono ?_); rintro e w6 hE; obtain ⟨rfl, hb6⟩ := enc_no hE HNO.out; clear hE; have NX6 := Lib.hid ((NX.out.below hb5).below hb6); have NY6 := Lib.hid (NY.out.below hb6); have b6 := b5.trans (hb6.mono b5.size))
    | (at_builtin; refine append_nums rfl (.tmp 68) (.tmp 69) 24 rfl w6.heap.size 5 j0 (.int .u8 0) 1 Tryd.underlying24 ji jz0 jz1 jz2 rfl _ 0 [] rfl (own_zero w6 5) .u8 X LX cx (encs gx) rfl (NX6.out.below (below_zero w6 5)) ZX.out m3 (by omega) (by simp) ?_; intro v7 w7 hown7 hg7; simp only [Nat.zero_add, List.nil_append] at hown7)
    | (at_builtin; refine append_nums rfl (.tmp 70) (.tmp 71) 24 rfl w6.heap.size 5 j0 (.int .u8 0) 1 Tryd.underlying24 ji jz0 jz1 jz2 rfl v7 LX _ rfl hown7 .u8 Y LY cy (encs gy) rfl (NY6.out.below (below_first hg7)) ZY.out m4 (by omega) (below_first hg7).size ?_; intro v8 w8 hown8 hg8))
  obtain ⟨b8, A8, c8, rfl, hc8, hN8⟩ := two_nums hown7 hg7 hown8 hg8
  clear hown7 hown8 hg7 hg8
  have hb8 := b6.trans (b8.mono b6.size)
  rw [← encs_append] at hN8
  have c11 := decode11 A8 (LX + LY) c8 (encs (gx ++ gy)) w8 (tabs_below TT.out hb8) (octs_encs _) hN8 (by omega) hc8
  clear hN8
  go_wp2_with (go_at_call 11; (with_reducible refine c11.mono ?_); rintro e w9 hE; obtain ⟨B, cb, rfl, hM, hb9⟩ := dec_yes HLZ.out.symm hE HGA.out; clear hE)
  go_ret
  exact ⟨rfl, hb8.trans (hb9.mono hb8.size)⟩

set_option maxHeartbeats 4000000 in
theorem walk_tf (a0 a1 : Option Addr) (len0 cap0 len1 cap1 : Nat) (xs ys gx gy : List Int) (w : World) (hT : Lib.Utf8Tabs 0 1 w) (n0 : Nums .i64 w a0 len0 xs) (n1 : Nums .i64 w a1 len1 ys) (z0 : a0 = none → cap0 = 0) (z1 : a1 = none → cap1 = 0)
    (h0 : len0 ≤ 150) (h1 : len1 ≤ 150) (hgx : good xs = gx) (hgy : good ys = gy) (hp : allS xs = true) (hq : allS ys = false) :
    Calls Tryd.prog 7 #[.slice a0 len0 cap0, .slice a1 len1 cap1] w fun e w' => e = .returned (.bool true) ∧ Below w.heap.size w w' := by
  have hno : ¬ ∀ c ∈ xs ++ ys, scal c = true := fun h => by have := allS_iff.2 h; rw [allS_append, hp, hq] at this; cases this
  have HP := Lib.hid hp
  have HQ := Lib.hid hq
  have HNO := Lib.hid hno
  clear hp hq hno
  have hlx : (encs gx).length ≤ 600 := by have h := good_len xs; have h' := (encs_length (good xs)).2; have := n0.1; rw [hgx] at h h'; omega
  have hly : (encs gy).length ≤ 600 := by have h := good_len ys; have h' := (encs_length (good ys)).2; have := n1.1; rw [hgy] at h h'; omega
  have hgl : (gx ++ gy).length ≤ 300 := by have h := good_len xs; have h' := good_len ys; have := n0.1; have := n1.1; rw [hgx] at h; rw [hgy] at h'; simp; omega
  have hga : ∀ c ∈ gx ++ gy, scal c = true := by
    intro c hc
    rcases List.mem_append.1 hc with h | h
    · rw [← hgx] at h; exact good_all xs c h
    · rw [← hgy] at h; exact good_all ys c h
  have HGA := Lib.hid hga
  have HGX := Lib.hid hgx
  have HGY := Lib.hid hgy
  have N0 := Lib.hid n0
  have N1 := Lib.hid n1
  have Z0 := Lib.hid z0
  have Z1 := Lib.hid z1
  have TT := Lib.hid hT
  clear n0 n1 z0 z1 hT hga hgx hgy
  obtain ⟨LX, hLX⟩ : ∃ L, (encs gx).length = L := ⟨_, rfl⟩
  obtain ⟨LY, hLY⟩ : ∃ L, (encs gy).length = L := ⟨_, rfl⟩
  rw [hLX] at hlx
  rw [hLY] at hly
  have HLX := Lib.hid hLX
  have HLY := Lib.hid hLY
  have HLZ : Hid ((encs (gx ++ gy)).length = LX + LY) := by show _ = _; rw [encs_append, List.length_append, hLX, hLY]
  clear hLX hLY
  obtain ⟨i0, hi, hz0, hz1, hz2⟩ := info_parts info3
  obtain ⟨j0, ji, jz0, jz1, jz2⟩ := info_parts info5
  have m1 : 0 + len0 ≤ maxLen := by unfold maxLen; omega
  have m2 : len0 + len1 ≤ maxLen := by unfold maxLen; omega
  have m3 : 0 + LX ≤ maxLen := by unfold maxLen; omega
  have m4 : LX + LY ≤ maxLen := by unfold maxLen; omega
  go_enter Tryd.func7, Tryd.ntmps7
  go_wp2_with (first
    | (go_at_call 8; (with_reducible refine (awake8 w TT.out).mono ?_); rintro e w1 ⟨rfl, hb1⟩)
    | (at_builtin; refine append_nums rfl (.tmp 28) (.tmp 29) 22 rfl w1.heap.size 3 i0 (.int .i64 0) 8 Tryd.underlying22 hi hz0 hz1 hz2 rfl _ 0 [] rfl (own_zero w1 3) .i64 a0 len0 cap0 xs rfl ((N0.out.below hb1).below (below_zero w1 3)) Z0.out m1 (by omega) (by simp) ?_; intro v2 w2 hown2 hg2; simp only [Nat.zero_add, List.nil_append] at hown2; have b2 : Below w.heap.size w w2 := hb1.trans ((below_first hg2).mono hb1.size))
    | (at_builtin; refine append_nums rfl (.tmp 30) (.tmp 31) 22 rfl w1.heap.size 3 i0 (.int .i64 0) 8 Tryd.underlying22 hi hz0 hz1 hz2 rfl v2 len0 _ rfl hown2 .i64 a1 len1 cap1 ys rfl (N1.out.below b2) Z1.out m2 (by omega) (below_first hg2).size ?_; intro v3 w3 hown3 hg3))
  obtain ⟨b3, A3, c3, rfl, hN3⟩ := all_nums hb1 hown2 hg2 hown3 hg3
  clear hown2 hown3 hg2 hg3
  have NN3 := Lib.hid hN3
  clear hN3
  have c9 := encode9 a0 len0 cap0 xs w3 (N0.out.below b3) (by omega)
  go_wp2_with (go_at_call 9; (with_reducible refine c9.mono ?_); rintro e w4 hE; obtain ⟨X, cx, rfl, hcx, zX, nX, hb4⟩ := enc_any hE; clear hE; rw [HGX.out] at hcx nX ⊢; rw [HLX.out] at hcx nX ⊢; rw [HP.out]; have NX := Lib.hid nX; have ZX := Lib.hid zX; clear nX zX)
  have b4 := b3.trans (hb4.mono b3.size)
  clear c9
  have c9 := encode9 a1 len1 cap1 ys w4 (N1.out.below b4) (by omega)
  go_wp2_with (go_at_call 9; (with_reducible refine c9.mono ?_); rintro e w5 hE; obtain ⟨Y, cy, rfl, hcy, zY, nY, hb5⟩ := enc_any hE; clear hE; rw [HGY.out] at hcy nY ⊢; rw [HLY.out] at hcy nY ⊢; rw [HQ.out]; have NY := Lib.hid nY; have ZY := Lib.hid zY; clear nY zY)
  have b5 := b4.trans (hb5.mono b4.size)
  clear c9
  have c9 := encode9 A3 (len0 + len1) c3 (xs ++ ys) w5 ((NN3.out.below hb4).below hb5) (by omega)
  go_wp2_with (first
    | (go_at_call 9; (with_reducible refine c9.mono ?_); rintro e w6 hE; obtain ⟨rfl, hb6⟩ := enc_no hE HNO.out; clear hE; have NX6 := Lib.hid ((NX.out.below hb5).below hb6); have NY6 := Lib.hid (NY.out.below hb6); have b6 := b5.trans (hb6.mono b5.size))
    | (at_builtin; refine append_nums rfl (.tmp 68) (.tmp 69) 24 rfl w6.heap.size 5 j0 (.int .u8 0) 1 Tryd.underlying24 ji jz0 jz1 jz2 rfl _ 0 [] rfl (own_zero w6 5) .u8 X LX cx (encs gx) rfl (NX6.out.below (below_zero w6 5)) ZX.out m3 (by omega) (by simp) ?_; intro v7 w7 hown7 hg7; simp only [Nat.zero_add, List.nil_append] at hown7)
    | (at_builtin; refine append_nums rfl (.tmp 70) (.tmp 71) 24 rfl w6.heap.size 5 j0 (.int .u8 0) 1 Tryd.underlying24 ji jz0 jz1 jz2 rfl v7 LX _ rfl hown7 .u8 Y LY cy (encs gy) rfl (NY6.out.below (below_first hg7)) ZY.out m4 (by omega) (below_first hg7).size ?_; intro v8 w8 hown8 hg8))
  obtain ⟨b8, A8, c8, rfl, hc8, hN8⟩ := two_nums hown7 hg7 hown8 hg8
  clear hown7 hown8 hg7 hg8
  have hb8 := b6.trans (b8.mono b6.size)
  rw [← encs_append] at hN8
  have c11 := decode11 A8 (LX + LY) c8 (encs (gx ++ gy)) w8 (tabs_below TT.out hb8) (octs_encs _) hN8 (by omega) hc8
  clear hN8
  go_wp2_with (go_at_call 11; (with_reducible refine c11.mono ?_); rintro e w9 hE; obtain ⟨B, cb, rfl, hM, hb9⟩ := dec_yes HLZ.out.symm hE HGA.out; clear hE)
  go_ret
  exact ⟨rfl, hb8.trans (hb9.mono hb8.size)⟩


theorem IsRow.nil {k : IntKind} {w : World} {a : Option Addr} {len cap : Nat} {zs : List Int} (h : IsRow k w a len cap zs) (ha : a = none) : cap = 0 := by
  rcases h with ⟨_, _, h, _⟩ | ⟨x, rfl, _⟩
  · exact h
  · cases ha

theorem walk (a0 : Option Addr) (len0 cap0 : Nat) (z0 : List Int) (a1 : Option Addr) (len1 cap1 : Nat) (z1 : List Int) (w : World) (hT : Lib.Utf8Tabs 0 1 w) (w0 : IsRow .i64 w a0 len0 cap0 z0) (w1 : IsRow .i64 w a1 len1 cap1 z1) :
    Calls Tryd.prog 7 #[.slice a0 len0 cap0, .slice a1 len1 cap1] w fun e w' => e = .returned (.bool true) ∧ Below w.heap.size w w' := by
  by_cases h0 : 150 < len0
  · exact walk_long a0 a1 len0 cap0 len1 cap1 w hT (.inl h0)
  · by_cases h1 : 150 < len1
    · exact walk_long a0 a1 len0 cap0 len1 cap1 w hT (.inr ⟨by omega, h1⟩)
    · have n0 := w0.nums.1
      have n1 := w1.nums.1
      cases hp : allS (z0.take len0) <;> cases hq : allS (z1.take len1)
      · exact walk_ff a0 a1 len0 cap0 len1 cap1 _ _ _ _ w hT n0 n1 (IsRow.nil w0) (IsRow.nil w1) (by omega) (by omega) rfl rfl hp hq
      · exact walk_ft a0 a1 len0 cap0 len1 cap1 _ _ _ _ w hT n0 n1 (IsRow.nil w0) (IsRow.nil w1) (by omega) (by omega) rfl rfl hp hq
      · exact walk_tf a0 a1 len0 cap0 len1 cap1 _ _ _ _ w hT n0 n1 (IsRow.nil w0) (IsRow.nil w1) (by omega) (by omega) rfl rfl hp hq
      · exact walk_yes a0 a1 len0 cap0 len1 cap1 _ _ _ _ w hT n0 n1 (IsRow.nil w0) (IsRow.nil w1) (by omega) (by omega) rfl rfl hp hq

theorem contract (H : Type) (enc : TypeId × Value → H) (W : World) (base : Nat) (args : Array Value) (ds gs : List (DataW H)) (before : List MemPlace)
    (hval : ∀ (j : Nat) t v, Tryd.f7.params[j]? = some t → args[j]? = some v → Value.okWide Tryd.prog W .any base t v)
    (hW : DataW.Whole enc Tryd.prog Tryd.f7.params.toList Rows.utfJoinsSpec.vars false W args.toList ds gs before) (hL : laidMetH Tryd.prog Rows.utfJoinsRow.laid W) :
    Calls Tryd.prog 7 args W fun e W' => ∃ v, e = .returned v ∧ Rows.utfJoinsSpec.post enc Tryd.prog Tryd.f7 false true false false W args v W' := by
  have hT := tabs hL
  have hW' := hW
  obtain ⟨p, q, hA0, hV, rfl, hfz, hnd⟩ := hW
  have hA : DataW.TrodAll enc Tryd.prog W 0 (fun _ => true) true Tryd.f7.params.toList args.toList ds p := hA0
  rw [Tryd.params7] at hA hval
  obtain ⟨v0, vs0, d0, ds0, p0, q0, hargs, rfl, rfl, h0, r0⟩ := trodAll_cons hA
  obtain ⟨v1, vs1, d1, ds1, p1, q1, rfl, rfl, rfl, h1, r1⟩ := trodAll_cons r0
  obtain ⟨rfl, rfl, rfl⟩ := trodAll_nil r1
  obtain rfl : args = #[v0, v1] := by cases args; simp_all
  obtain ⟨rfl, rfl⟩ := trodVars_none hV
  obtain ⟨a0, len0, cap0, rfl⟩ := okWide_slice Tryd.underlying22 (hval 0 22 v0 rfl rfl)
  have k0 := h0
  have lt0 : ∀ x ∈ p0, x.block < W.heap.size := by obtain ⟨m, hm⟩ := k0; exact DataW.trod_lt m _ _ _ hm
  obtain ⟨z0, w0⟩ : ∃ zs, IsRow .i64 W a0 len0 cap0 zs := by
    obtain ⟨fuel, hf⟩ := h0
    rcases open_ints Tryd.underlying22 Tryd.underlying3 (by kernel_rfl) hf with ⟨hcs, _⟩ | ⟨x, l, c, zs, hcs, _, hl, hm, hz, _, hcell, hwz⟩
    · simp [Value.cells] at hcs
      obtain ⟨rfl, rfl, rfl⟩ := hcs
      exact ⟨[], .inl ⟨rfl, rfl, rfl, rfl⟩⟩
    · simp [Value.cells] at hcs
      obtain ⟨rfl, rfl, rfl⟩ := hcs
      exact ⟨zs, .inr ⟨_, rfl, hl, hm, by simpa using hz, hcell, hwz⟩⟩
  obtain ⟨a1, len1, cap1, rfl⟩ := okWide_slice Tryd.underlying22 (hval 1 22 v1 rfl rfl)
  have k1 := h1
  have lt1 : ∀ x ∈ p1, x.block < W.heap.size := by obtain ⟨m, hm⟩ := k1; exact DataW.trod_lt m _ _ _ hm
  obtain ⟨z1, w1⟩ : ∃ zs, IsRow .i64 W a1 len1 cap1 zs := by
    obtain ⟨fuel, hf⟩ := h1
    rcases open_ints Tryd.underlying22 Tryd.underlying3 (by kernel_rfl) hf with ⟨hcs, _⟩ | ⟨x, l, c, zs, hcs, _, hl, hm, hz, _, hcell, hwz⟩
    · simp [Value.cells] at hcs
      obtain ⟨rfl, rfl, rfl⟩ := hcs
      exact ⟨[], .inl ⟨rfl, rfl, rfl, rfl⟩⟩
    · simp [Value.cells] at hcs
      obtain ⟨rfl, rfl, rfl⟩ := hcs
      exact ⟨zs, .inr ⟨_, rfl, hl, hm, by simpa using hz, hcell, hwz⟩⟩
  clear hA0
  refine (walk a0 len0 cap0 z0 a1 len1 cap1 z1 W hT w0 w1).mono fun e W' ⟨he, bel⟩ => ?_
  subst he
  exact ⟨_, rfl, _, _, _, [], _, [], hW', trodAll_mk1 (shut_bool Tryd.underlying4 _), (trodAll_cons_mk (Below.trod laidOut (by kernel_rfl) (of_decide_eq_true (by kernel_rfl)) k0 bel lt0) (trodAll_cons_mk (Below.trod laidOut (by kernel_rfl) (of_decide_eq_true (by kernel_rfl)) k1 bel lt1) trodAll_mk0)), rfl, bel.frame _, fun h => by cases h⟩

theorem laid_met (os : Os) : laidMet Tryd.prog Rows.utfJoinsRow.laid ((laidWorld os).forCall (fun _ _ => 0) ⟨#[], #[.slice none 0 0, .slice none 0 0], []⟩).memory :=
  laidMet_of_run' 8 (by kernel_rfl) (by kernel_rfl)
theorem reads (os : Os) {H : Type} (enc : TypeId × Value → H) : ∃ places, DataW.whole enc Tryd.prog ((laidWorld os).forCall (fun _ _ => 0) ⟨#[], #[.slice none 0 0, .slice none 0 0], []⟩).memory Tryd.f7.params.toList Rows.utfJoinsSpec.vars false #[Value.slice none 0 0, .slice none 0 0].toList 8 = some ([.nil, .nil], [], places) :=
  ⟨[], by kernel_rfl⟩

set_option maxRecDepth 100000 in
theorem lifted (os : Os) (started : os.Started) (H : Type) (enc : TypeId × Value → H) (F : Stop.Interp) :
    ReturnsInHanded {} Tryd.checked os 7 .any ((OpenSpec.ofChange Rows.utfJoinsSpec).preRow enc Tryd.prog Tryd.f7 Rows.utfJoinsRow.domain false Rows.utfJoinsRow.laid) (((OpenSpec.ofChange Rows.utfJoinsSpec).at F).post enc Tryd.prog Tryd.f7 false true false false) := by
  obtain ⟨places, hx⟩ := reads os enc
  refine returnsInHanded_of_row (C := Tryd.checked) (s := OpenSpec.ofChange Rows.utfJoinsSpec) own started (by kernel_rfl) Tryd.func7
    (witness_row_at (enc := enc) (C := Tryd.checked) false (laidWorld os) #[.slice none 0 0, .slice none 0 0] rfl (by kernel_rfl) (by kernel_rfl) (by kernel_rfl)
      (OpenSpec.preRow_of_cond 8 hx (by kernel_rfl) (fun k hk => by cases hk) (by kernel_rfl) (laid_met os))) ?_
  intro W base args ds gs before hval hW _ _ _ hL _ _
  exact contract H enc W base args ds gs before hval hW hL

theorem said : Rows.UtfJoinsSaid :=
  OpenClaim.holds_of_cond 7 Tryd.f7 rfl rfl rfl rfl rfl rfl rfl ⟨rfl, rfl, rfl, rfl, rfl⟩ rfl rfl rfl rfl rfl (by kernel_rfl) Tryd.func7 (by kernel_rfl)
    (of_decide_eq_true (by kernel_rfl)) (by unfold Func.isWrapper; first | (rw [if_pos (by decide +kernel)]; kernel_rfl) | (rw [if_neg (by decide +kernel)]; exact ⟨rfl, rfl⟩))
    (fun os started H enc _ F => by rw [OpenClaim.pre_eq_preRow]; exact lifted os started H enc F)

theorem plain (f : FuncId) (fn : Func) (hf : Tryd.pinned.checked.prog.funcNamed Rows.utfJoinsRow.func = some f) (hfn : Tryd.pinned.checked.prog.funcs[f]? = some fn) :
    false = Tryd.pinned.checked.prog.looks [] ∧ ∀ (j : Nat) t, fn.params[j]? = some t → Tryd.pinned.checked.prog.wantsStandIn t = false := by
  obtain rfl : f = 7 := Option.some.inj ((show Tryd.prog.funcNamed Rows.utfJoinsRow.func = some 7 by kernel_rfl).symm.trans hf) |>.symm
  obtain rfl : fn = Tryd.f7 := (Option.some.inj (Tryd.func7.symm.trans hfn)).symm
  refine ⟨by kernel_rfl, fun j t ht => ?_⟩
  rw [Tryd.params7] at ht
  have hm := Array.mem_of_getElem? ht
  simp at hm
  subst hm
  exact (show Tryd.prog.wantsStandIn 22 = false by kernel_rfl)
end Go.Proofs.YtijokbgpbpfclaaDoor.utfJoins
namespace Go.Proofs.YtijokbgpbpfclaaDoor
theorem utfJoins_card : Rows.UtfJoinsCardSaid :=
  Claim7.holds_tied_plain_at .later [] _ _ _ _ utfJoins.said (fun _ h => by cases h) (by kernel_rfl) (fun _ h => by cases h) utfJoins_row_tie rfl ⟨rfl, rfl⟩ (by kernel_rfl) rfl utfJoins.plain (by kernel_rfl)
#print axioms utfJoins_card
end Go.Proofs.YtijokbgpbpfclaaDoor

