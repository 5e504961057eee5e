/- What the program's Add hands back: the error that the document names, and a table just where there is none; nothing of what was there is turned. -/
import Derived.Test.YtfggoegofbghhaaAwk
import Derived.Test.YtfggoegofbghhaaCon
import Derived.Deep.RegionHeld3
namespace Go.Proofs.Ytfggoegofbghhaa
open Go.RowKit Go.Sort Go.Shelf

def AddPost (r : List Sp) (x : Sp) (w : World) (e : Ending) (w' : World) : Prop :=
  Below w.heap.size w w' ∧ ∃ q, e = .returned (.tuple #[.pointer q, .int .i64 (check r x)]) ∧ ((q = none ∧ check r x ≠ 0) ∨ (check r x = 0 ∧ ∃ b, q = some ⟨b, 0, none⟩))
theorem check_found {r : List Sp} {x : Sp} (hr : Rises r) (hf : ∀ s ∈ r, s.a ≤ s.b) (hx : check [] x = 0) : check r x = if foundAt r x = true then 15 else 0 := by
  obtain ⟨⟨h1, h2, h3, h4⟩, -⟩ := check_ok.1 hx
  unfold check
  rw [if_neg (by omega), if_neg h4, found_iff hr hf]
set_option maxRecDepth 100000 in
set_option maxHeartbeats 2000000 in
theorem add_unfit (p : Option Addr) (r : List Sp) (x : Sp) (w : World) (hx : check [] x ≠ 0) : Calls Try.prog 18 #[.pointer p, spV x] w (AddPost r x w) := by
  have hc := check_unfit (l := r) hx
  have c34 := fun W => check34 x W
  unfold spV ChkPost at c34
  unfold spV
  obtain ⟨xa, xb, xv⟩ := x
  obtain ⟨T, hT⟩ : ∃ T, bs xv = T := ⟨_, rfl⟩
  simp only at c34 ⊢
  rw [hT] at c34 ⊢
  obtain ⟨X, hX⟩ : ∃ X, check [] (⟨xa, xb, xv⟩ : Sp) = X := ⟨_, rfl⟩
  rw [hX] at c34 hx hc
  have hb0 : (X == 0) = false := beq_false_of_ne hx
  have HX := Lib.hid hx
  have HC := Lib.hid hc
  have HB := Lib.hid (show Below w.heap.size w (w.alloc (.cells #[.int .i64 xa, .int .i64 xb, .string T] 41)) from (Below.refl _ _).alloc (Nat.le_refl _) _)
  clear hx hc hX hT
  go_enter Try.func18, Try.ntmps18
  go_wp2_with (go_at_call 34; (with_reducible refine (c34 _).mono ?_); rintro e w1 ⟨rfl, hb1⟩)
  go_ret2
  exact ⟨HB.out.trans (hb1.mono HB.out.size), none, by rw [HC.out]; rfl, .inl ⟨rfl, by rw [HC.out]; exact HX.out⟩⟩
set_option maxRecDepth 100000 in
set_option maxHeartbeats 2000000 in
theorem add_found (p A : Option Addr) (c : Nat) (r : List Sp) (x : Sp) (w : World) (hT : TIn w p A c r) (hn : r.length ≤ 30) (hg : Good r) (hx : check [] x = 0) (hf : foundAt r x = true) : Calls Try.prog 18 #[.pointer p, spV x] w (AddPost r x w) := by
  have hc : check r x = 15 := by rw [check_found hg.1 (good_fit hg) hx, if_pos hf]
  have c34 := fun W => check34 x W
  have c33 := fun W (hb : Below w.heap.size w W) => place33 p A c r x W (hT.below hb) (by omega) hg.1 (good_fit hg)
  unfold spV ChkPost at c34
  unfold spV BinPost at c33
  rw [hx] at c34
  rw [hf] at c33
  unfold spV
  obtain ⟨T, hTT⟩ : ∃ T, bs x.v = T := ⟨_, rfl⟩
  rw [hTT] at c34 c33 ⊢
  have HC := Lib.hid hc
  have C33 := Lib.hid c33
  have hb0 : Below w.heap.size w (w.alloc (.cells #[.int .i64 x.a, .int .i64 x.b, .string T] 41)) := (Below.refl _ _).alloc (Nat.le_refl _) _
  have e0 : (w.alloc (.cells #[.int .i64 x.a, .int .i64 x.b, .string T] 41)).cell? ⟨w.heap.size, 0, none⟩ = some (.int .i64 x.a) := by simp
  have e1 : (w.alloc (.cells #[.int .i64 x.a, .int .i64 x.b, .string T] 41)).cell? ⟨w.heap.size, 1, none⟩ = some (.int .i64 x.b) := by simp
  have e2 : (w.alloc (.cells #[.int .i64 x.a, .int .i64 x.b, .string T] 41)).cell? ⟨w.heap.size, 2, none⟩ = some (.string T) := by simp
  have hl : w.heap.size < (w.alloc (.cells #[.int .i64 x.a, .int .i64 x.b, .string T] 41)).heap.size := by simp
  clear hT hn hg hx hf hc hTT c33
  go_enter Try.func18, Try.ntmps18
  go_wp2_with (fail)
  obtain ⟨W, hW⟩ : ∃ W, w.alloc (.cells #[.int .i64 x.a, .int .i64 x.b, .string T] 41) = W := ⟨_, rfl⟩
  rw [hW] at hb0 e0 e1 e2 hl ⊢
  refine (c34 _).mono ?_
  rintro e w1 ⟨rfl, hb1⟩
  have f0 := (hb1.cell (p := ⟨w.heap.size, 0, none⟩) hl).trans e0
  have f1 := (hb1.cell (p := ⟨w.heap.size, 1, none⟩) hl).trans e1
  have f2 := (hb1.cell (p := ⟨w.heap.size, 2, none⟩) hl).trans e2
  have hB1 : Below w.heap.size w w1 := hb0.trans (hb1.mono hb0.size)
  have k33 := C33.out w1 hB1
  clear e0 e1 e2 hW c34
  go_wp2_with (go_at_call 33; (with_reducible refine k33.mono ?_); rintro e w2 ⟨rfl, hb2⟩)
  go_ret2
  exact ⟨hB1.trans (hb2.mono hB1.size), none, by rw [HC.out]; rfl, .inl ⟨rfl, by rw [HC.out]; decide⟩⟩

theorem place_all {r : List Sp} {x : Sp} : placeOf r x ≤ r.length := place_le r x
/-- The three parts that are put together. -/
theorem pcs3 {w W : World} {A A' : Option Addr} {n c K c' g1 g2 : Nat} {r : List Sp} {x : Sp} {T : ByteArray} {t1 t2 : TypeId} (hS : SAt w A n r) (hb : Below w.heap.size w W) (hK : K ≤ n) (hA : A = none → c = 0) (hS' : SAt w A' (n - K) (r.drop K)) (hA' : A' = none → c' = 0) (hT : bs x.v = T)
    (h1 : W.heap[g1]? = some (.cells #[.int .i64 x.a, .int .i64 x.b, .string T] t1)) (h2 : W.heap[g2]? = some (.cells #[.slice A K c, .slice (some ⟨g1, 0, none⟩) 1 1, .slice A' (n - K) c'] t2)) :
    Pcs W g2 0 [⟨A, K, c, r.take K⟩, ⟨some ⟨g1, 0, none⟩, 1, 1, [x]⟩, ⟨A', n - K, c', r.drop K⟩] := by
  have hg1 := (Array.getElem?_eq_some_iff.1 h1).1
  have hg2 := (Array.getElem?_eq_some_iff.1 h2).1
  have hx : SAt W (some ⟨g1, 0, none⟩) 1 [x] := by
    refine ⟨rfl, fun _ => ⟨_, _, rfl, hg1, fun j s hj => ?_⟩⟩
    match j, hj with
    | 0, hj =>
      cases hj
      rw [hT]
      refine ⟨?_, ?_, ?_⟩ <;> (unfold World.cell?; simp only; rw [h1]; simp)
  intro j y hj
  match j, hj with
  | 0, hj =>
    cases hj
    exact ⟨hg2, by unfold World.cell?; simp only; rw [h2]; simp, (hS.take hK).below hb, hA⟩
  | 1, hj =>
    cases hj
    exact ⟨hg2, by unfold World.cell?; simp only; rw [h2]; simp, hx, fun h => by cases h⟩
  | 2, hj =>
    cases hj
    exact ⟨hg2, by unfold World.cell?; simp only; rw [h2]; simp, hS'.below hb, hA'⟩
theorem two_below (w : World) (o1 o2 : Obj) : Below w.heap.size w (((w.alloc o1).alloc o2).drew) := by
  have h : Below w.heap.size w ((w.alloc o1).alloc o2) := ((Below.refl _ _).alloc (Nat.le_refl _) _).alloc (by simp) _
  exact ⟨h.os, h.tape, h.output, h.size, h.block⟩
theorem two_first (w : World) (o1 o2 : Obj) : (((w.alloc o1).alloc o2).drew).heap[w.heap.size]? = some o1 := by
  show ((w.alloc o1).alloc o2).heap[w.heap.size]? = some o1
  rw [Below.heap_alloc _ _ _ (by simp)]
  exact World.alloc_heap_new w o1
theorem two_second (w : World) (o1 o2 : Obj) : (((w.alloc o1).alloc o2).drew).heap[w.heap.size + 1]? = some o2 := by
  have := World.alloc_heap_new (w.alloc o1) o2
  rw [World.size_alloc] at this
  exact this
set_option maxRecDepth 100000 in
set_option maxHeartbeats 2000000 in
theorem add_some (p : Option Addr) (b off c : Nat) (r : List Sp) (x : Sp) (w : World) (hT : TIn w p (some ⟨b, off, none⟩) c r) (hn : r.length ≤ 30) (hg : Good r) (hx : check [] x = 0) (hf : foundAt r x = false) (hKc : ¬ c = placeOf r x) : Calls Try.prog 18 #[.pointer p, spV x] w (AddPost r x w) := by
  have hc : check r x = 0 := by rw [check_found hg.1 (good_fit hg) hx, if_neg (by simp [hf])]
  have c34 := fun W => check34 x W
  have c33 := fun W (hb : Below w.heap.size w W) => place33 p _ c r x W (hT.below hb) (by omega) hg.1 (good_fit hg)
  have c31 := fun W (hb : Below w.heap.size w W) => list31 p _ c r W (hT.below hb)
  unfold spV ChkPost at c34
  unfold spV BinPost at c33
  rw [hx] at c34
  rw [hf] at c33
  unfold spV
  obtain ⟨T, hTT⟩ : ∃ T, bs x.v = T := ⟨_, rfl⟩
  rw [hTT] at c34 c33 ⊢
  have hKn := place_all (r := r) (x := x)
  have hcap := hT.cap
  have P3 := fun (W0 W : World) (g1 g2 : Nat) (t1 t2 : TypeId) (hB : Below w.heap.size w W0) (hb : Below W0.heap.size W0 W) => pcs3 (t1 := t1) (t2 := t2) (g1 := g1) (g2 := g2) (c := c) (c' := c - placeOf r x) (x := x) (hT.sat.below hB) hb hKn (fun h => by cases h) ((hT.sat.below hB).drop hKn) (fun h => by cases h) hTT
  obtain ⟨K, hK⟩ : ∃ K, placeOf r x = K := ⟨_, rfl⟩
  obtain ⟨n, hnn⟩ : ∃ n, r.length = n := ⟨_, rfl⟩
  rw [hK] at c33 hKc hKn P3
  rw [hnn] at hKn hn hcap c31 P3
  have hcn := hcap.1
  have HC := Lib.hid hc
  have C33 := Lib.hid c33
  have C31 := Lib.hid c31
  have HP3 := Lib.hid P3
  have hb0 : Below w.heap.size w (w.alloc (.cells #[.int .i64 x.a, .int .i64 x.b, .string T] 41)) := (Below.refl _ _).alloc (Nat.le_refl _) _
  have e0 : (w.alloc (.cells #[.int .i64 x.a, .int .i64 x.b, .string T] 41)).cell? ⟨w.heap.size, 0, none⟩ = some (.int .i64 x.a) := by simp
  have e1 : (w.alloc (.cells #[.int .i64 x.a, .int .i64 x.b, .string T] 41)).cell? ⟨w.heap.size, 1, none⟩ = some (.int .i64 x.b) := by simp
  have e2 : (w.alloc (.cells #[.int .i64 x.a, .int .i64 x.b, .string T] 41)).cell? ⟨w.heap.size, 2, none⟩ = some (.string T) := by simp
  have hl : w.heap.size < (w.alloc (.cells #[.int .i64 x.a, .int .i64 x.b, .string T] 41)).heap.size := by simp
  clear hT hg hx hf hc c33 c31 P3 hK hnn hcap
  have HTT := Lib.hid hTT
  clear hTT
  go_enter Try.func18, Try.ntmps18
  go_wp2_with (fail)
  obtain ⟨W, hW⟩ : ∃ W, w.alloc (.cells #[.int .i64 x.a, .int .i64 x.b, .string T] 41) = W := ⟨_, rfl⟩
  rw [hW] at hb0 e0 e1 e2 hl ⊢
  refine (c34 _).mono ?_
  rintro e w1 ⟨rfl, hb1⟩
  have f0 := (hb1.cell (p := ⟨w.heap.size, 0, none⟩) hl).trans e0
  have f1 := (hb1.cell (p := ⟨w.heap.size, 1, none⟩) hl).trans e1
  have f2 := (hb1.cell (p := ⟨w.heap.size, 2, none⟩) hl).trans e2
  have hB1 : Below w.heap.size w w1 := hb0.trans (hb1.mono hb0.size)
  have hl1 : w.heap.size < w1.heap.size := Nat.lt_of_lt_of_le hl hb1.size
  have k33 := C33.out w1 hB1
  clear e0 e1 e2 hW c34
  go_wp2_with (go_at_call 33; (with_reducible refine k33.mono ?_); rintro e w2 ⟨rfl, hb2⟩; have g0 := (hb2.cell (p := ⟨w.heap.size, 0, none⟩) hl1).trans f0; have g1 := (hb2.cell (p := ⟨w.heap.size, 1, none⟩) hl1).trans f1; have g2 := (hb2.cell (p := ⟨w.heap.size, 2, none⟩) hl1).trans f2)
  have hB2 : Below w.heap.size w w2 := hB1.trans (hb2.mono hB1.size)
  have hl2 : w.heap.size < w2.heap.size := Nat.lt_of_lt_of_le hl1 hb2.size
  refine (C31.out w2 hB2).mono ?_
  rintro e w3 ⟨rfl, hb3⟩
  have m0 := (hb3.cell (p := ⟨w.heap.size, 0, none⟩) hl2).trans g0
  have m1 := (hb3.cell (p := ⟨w.heap.size, 1, none⟩) hl2).trans g1
  have m2 := (hb3.cell (p := ⟨w.heap.size, 2, none⟩) hl2).trans g2
  have hB3 : Below w.heap.size w w3 := hB2.trans (hb3.mono hB2.size)
  have hl3 : w.heap.size < w3.heap.size := Nat.lt_of_lt_of_le hl2 hb3.size
  clear k33 f0 f1 f2 g0 g1 g2
  have HB3 := Lib.hid hB3
  go_wp2_with (fail)
  have c35 := fun (W : World) (hb : Below w3.heap.size w3 W) h1 h2 => concat35 (w3.heap.size + 1) 0 3 3 _ W rfl (HP3.out w3 W w3.heap.size (w3.heap.size + 1) 41 22 hB3 hb h1 h2) (by simp [total] <;> omega) (by simp [total] <;> omega) (by omega)
  have C35 := Lib.hid c35
  have i0 : (0 : Int) ≤ (K : Int) := Int.natCast_nonneg _
  have i1 : (K : Int) ≤ (c : Int) := by omega
  have i2 : (K : Int) ≤ (n : Int) := by omega
  have i3 : K ≤ c := by omega
  clear c35
  go_region_held3 (fun w' => w'.cell? ⟨w.heap.size, 0, none⟩ = some (.int .i64 x.a) ∧ w'.cell? ⟨w.heap.size, 1, none⟩ = some (.int .i64 x.b) ∧ w'.cell? ⟨w.heap.size, 2, none⟩ = some (.string T))
    (first
      | go_keep
      | (go_split_ands
         refine ⟨?_, ?_, ?_⟩
         · ((first | rw [hb5.cell (by simp; omega)]); assumption)
         · ((first | rw [hb5.cell (by simp; omega)]); assumption)
         · ((first | rw [hb5.cell (by simp; omega)]); assumption)))
    ((go_simp; go_at_call 35; refine (C35.out _ (two_below w3 _ _) (two_first w3 _ _) (two_second w3 _ _)).mono ?_; rintro e w5 ⟨A5, n5, c5, rfl, hb5⟩))
  go_wp2
  go_ret2
  have z5 := (two_below w3 (.cells #[.int .i64 x.a, .int .i64 x.b, .string T] 41) (.cells #[.slice (some ⟨b, off, none⟩) K c, .slice (some ⟨w3.heap.size, 0, none⟩) 1 1, .slice (some ⟨b, off + K * 3, none⟩) (n - K) (c - K)] 22)).trans (hb5.mono (two_below _ _ _).size)
  have z6 : Below w5.heap.size w5 (w5.alloc (.cells #[.slice A5 n5 c5] 60)) := (Below.refl _ _).alloc (Nat.le_refl _) _
  exact ⟨HB3.out.trans ((z5.trans (z6.mono z5.size)).mono HB3.out.size), some ⟨w5.heap.size, 0, none⟩, by rw [HC.out]; rfl, .inr ⟨HC.out, _, rfl⟩⟩
set_option maxRecDepth 100000 in
set_option maxHeartbeats 2000000 in
theorem add_end (p : Option Addr) (b off c : Nat) (r : List Sp) (x : Sp) (w : World) (hT : TIn w p (some ⟨b, off, none⟩) c r) (hn : r.length ≤ 30) (hg : Good r) (hx : check [] x = 0) (hf : foundAt r x = false) (hKc : c = placeOf r x) : Calls Try.prog 18 #[.pointer p, spV x] w (AddPost r x w) := by
  have hc : check r x = 0 := by rw [check_found hg.1 (good_fit hg) hx, if_neg (by simp [hf])]
  have c34 := fun W => check34 x W
  have c33 := fun W (hb : Below w.heap.size w W) => place33 p _ c r x W (hT.below hb) (by omega) hg.1 (good_fit hg)
  have c31 := fun W (hb : Below w.heap.size w W) => list31 p _ c r W (hT.below hb)
  unfold spV ChkPost at c34
  unfold spV BinPost at c33
  rw [hx] at c34
  rw [hf] at c33
  unfold spV
  obtain ⟨T, hTT⟩ : ∃ T, bs x.v = T := ⟨_, rfl⟩
  rw [hTT] at c34 c33 ⊢
  have hKn := place_all (r := r) (x := x)
  have hcap := hT.cap
  have hnK : r.length - placeOf r x = 0 := by have := hcap.1; omega
  have P3 := fun (W0 W : World) (g1 g2 : Nat) (t1 t2 : TypeId) (hB : Below w.heap.size w W0) (hb : Below W0.heap.size W0 W) => pcs3 (t1 := t1) (t2 := t2) (g1 := g1) (g2 := g2) (c := c) (A' := some ⟨b, off, none⟩) (c' := 0) (x := x) (hT.sat.below hB) hb hKn (fun h => by cases h) (by rw [hnK, List.drop_of_length_le (by omega)]; exact SAt.nil _ _) (fun h => by cases h) hTT
  obtain ⟨K, hK⟩ : ∃ K, placeOf r x = K := ⟨_, rfl⟩
  obtain ⟨n, hnn⟩ : ∃ n, r.length = n := ⟨_, rfl⟩
  rw [hK] at c33 hKc hKn P3 hnK
  rw [hnn] at hKn hn hcap c31 P3 hnK
  have hcn := hcap.1
  obtain rfl : c = K := hKc
  obtain rfl : n = c := by omega
  rw [hnK] at P3
  have HC := Lib.hid hc
  have C33 := Lib.hid c33
  have C31 := Lib.hid c31
  have HP3 := Lib.hid P3
  have hb0 : Below w.heap.size w (w.alloc (.cells #[.int .i64 x.a, .int .i64 x.b, .string T] 41)) := (Below.refl _ _).alloc (Nat.le_refl _) _
  have e0 : (w.alloc (.cells #[.int .i64 x.a, .int .i64 x.b, .string T] 41)).cell? ⟨w.heap.size, 0, none⟩ = some (.int .i64 x.a) := by simp
  have e1 : (w.alloc (.cells #[.int .i64 x.a, .int .i64 x.b, .string T] 41)).cell? ⟨w.heap.size, 1, none⟩ = some (.int .i64 x.b) := by simp
  have e2 : (w.alloc (.cells #[.int .i64 x.a, .int .i64 x.b, .string T] 41)).cell? ⟨w.heap.size, 2, none⟩ = some (.string T) := by simp
  have hl : w.heap.size < (w.alloc (.cells #[.int .i64 x.a, .int .i64 x.b, .string T] 41)).heap.size := by simp
  clear hT hg hx hf hc c33 c31 P3 hK hnn hcap hnK
  have HTT := Lib.hid hTT
  clear hTT
  go_enter Try.func18, Try.ntmps18
  go_wp2_with (fail)
  obtain ⟨W, hW⟩ : ∃ W, w.alloc (.cells #[.int .i64 x.a, .int .i64 x.b, .string T] 41) = W := ⟨_, rfl⟩
  rw [hW] at hb0 e0 e1 e2 hl ⊢
  refine (c34 _).mono ?_
  rintro e w1 ⟨rfl, hb1⟩
  have f0 := (hb1.cell (p := ⟨w.heap.size, 0, none⟩) hl).trans e0
  have f1 := (hb1.cell (p := ⟨w.heap.size, 1, none⟩) hl).trans e1
  have f2 := (hb1.cell (p := ⟨w.heap.size, 2, none⟩) hl).trans e2
  have hB1 : Below w.heap.size w w1 := hb0.trans (hb1.mono hb0.size)
  have hl1 : w.heap.size < w1.heap.size := Nat.lt_of_lt_of_le hl hb1.size
  have k33 := C33.out w1 hB1
  clear e0 e1 e2 hW c34
  go_wp2_with (go_at_call 33; (with_reducible refine k33.mono ?_); rintro e w2 ⟨rfl, hb2⟩; have g0 := (hb2.cell (p := ⟨w.heap.size, 0, none⟩) hl1).trans f0; have g1 := (hb2.cell (p := ⟨w.heap.size, 1, none⟩) hl1).trans f1; have g2 := (hb2.cell (p := ⟨w.heap.size, 2, none⟩) hl1).trans f2)
  have hB2 : Below w.heap.size w w2 := hB1.trans (hb2.mono hB1.size)
  have hl2 : w.heap.size < w2.heap.size := Nat.lt_of_lt_of_le hl1 hb2.size
  refine (C31.out w2 hB2).mono ?_
  rintro e w3 ⟨rfl, hb3⟩
  have m0 := (hb3.cell (p := ⟨w.heap.size, 0, none⟩) hl2).trans g0
  have m1 := (hb3.cell (p := ⟨w.heap.size, 1, none⟩) hl2).trans g1
  have m2 := (hb3.cell (p := ⟨w.heap.size, 2, none⟩) hl2).trans g2
  have hB3 : Below w.heap.size w w3 := hB2.trans (hb3.mono hB2.size)
  have hl3 : w.heap.size < w3.heap.size := Nat.lt_of_lt_of_le hl2 hb3.size
  clear k33 f0 f1 f2 g0 g1 g2
  have HB3 := Lib.hid hB3
  go_wp2_with (fail)
  have c35 := fun (W : World) (hb : Below w3.heap.size w3 W) h1 h2 => concat35 (w3.heap.size + 1) 0 3 3 _ W rfl (HP3.out w3 W w3.heap.size (w3.heap.size + 1) 41 22 hB3 hb h1 h2) (by simp [total] <;> omega) (by simp [total] <;> omega) (by omega)
  have C35 := Lib.hid c35
  have i0 : (0 : Int) ≤ (n : Int) := Int.natCast_nonneg _
  have i1 : (n : Int) ≤ (n : Int) := by omega
  have i2 : (n : Int) ≤ (n : Int) := by omega
  have i3 : n ≤ n := Nat.le_refl _
  clear c35
  go_region_held3 (fun w' => w'.cell? ⟨w.heap.size, 0, none⟩ = some (.int .i64 x.a) ∧ w'.cell? ⟨w.heap.size, 1, none⟩ = some (.int .i64 x.b) ∧ w'.cell? ⟨w.heap.size, 2, none⟩ = some (.string T))
    (first
      | go_keep
      | (go_split_ands
         refine ⟨?_, ?_, ?_⟩
         · ((first | rw [hb5.cell (by simp; omega)]); assumption)
         · ((first | rw [hb5.cell (by simp; omega)]); assumption)
         · ((first | rw [hb5.cell (by simp; omega)]); assumption)))
    ((go_simp; go_at_call 35; refine (C35.out _ (two_below w3 _ _) (two_first w3 _ _) (two_second w3 _ _)).mono ?_; rintro e w5 ⟨A5, n5, c5, rfl, hb5⟩))
  go_wp2
  go_ret2
  have z5 := (two_below w3 (.cells #[.int .i64 x.a, .int .i64 x.b, .string T] 41) (.cells #[.slice (some ⟨b, off, none⟩) n n, .slice (some ⟨w3.heap.size, 0, none⟩) 1 1, .slice (some ⟨b, off, none⟩) 0 0] 22)).trans (hb5.mono (two_below _ _ _).size)
  have z6 : Below w5.heap.size w5 (w5.alloc (.cells #[.slice A5 n5 c5] 60)) := (Below.refl _ _).alloc (Nat.le_refl _) _
  exact ⟨HB3.out.trans ((z5.trans (z6.mono z5.size)).mono HB3.out.size), some ⟨w5.heap.size, 0, none⟩, by rw [HC.out]; rfl, .inr ⟨HC.out, _, rfl⟩⟩
set_option maxRecDepth 100000 in
set_option maxHeartbeats 2000000 in
theorem add_nil (p : Option Addr) (r : List Sp) (x : Sp) (w : World) (hT : TIn w p none 0 r) (hn : r.length ≤ 30) (hg : Good r) (hx : check [] x = 0) (hf : foundAt r x = false) : Calls Try.prog 18 #[.pointer p, spV x] w (AddPost r x w) := by
  have hc : check r x = 0 := by rw [check_found hg.1 (good_fit hg) hx, if_neg (by simp [hf])]
  have c34 := fun W => check34 x W
  have c33 := fun W (hb : Below w.heap.size w W) => place33 p _ 0 r x W (hT.below hb) (by omega) hg.1 (good_fit hg)
  have c31 := fun W (hb : Below w.heap.size w W) => list31 p _ 0 r W (hT.below hb)
  unfold spV ChkPost at c34
  unfold spV BinPost at c33
  rw [hx] at c34
  rw [hf] at c33
  unfold spV
  obtain ⟨T, hTT⟩ : ∃ T, bs x.v = T := ⟨_, rfl⟩
  rw [hTT] at c34 c33 ⊢
  have hKn := place_all (r := r) (x := x)
  have hcap := hT.cap
  have hnK : r.length - placeOf r x = 0 := by have := hcap.1; omega
  have P3 := fun (W0 W : World) (g1 g2 : Nat) (t1 t2 : TypeId) (hB : Below w.heap.size w W0) (hb : Below W0.heap.size W0 W) => pcs3 (t1 := t1) (t2 := t2) (g1 := g1) (g2 := g2) (A' := none) (c := 0) (c' := 0) (x := x) (hT.sat.below hB) hb hKn (fun _ => rfl) (by rw [hnK, List.drop_of_length_le (by have := hcap.1; omega)]; exact SAt.nil _ _) (fun _ => rfl) hTT
  obtain ⟨K, hK⟩ : ∃ K, placeOf r x = K := ⟨_, rfl⟩
  obtain ⟨n, hnn⟩ : ∃ n, r.length = n := ⟨_, rfl⟩
  rw [hK] at c33 hKn P3 hnK
  rw [hnn] at hKn hn hcap c31 P3 hnK
  have hcn := hcap.1
  obtain rfl : n = 0 := by omega
  obtain rfl : K = 0 := by omega
  rw [hnK] at P3
  have HC := Lib.hid hc
  have C33 := Lib.hid c33
  have C31 := Lib.hid c31
  have HP3 := Lib.hid P3
  have hb0 : Below w.heap.size w (w.alloc (.cells #[.int .i64 x.a, .int .i64 x.b, .string T] 41)) := (Below.refl _ _).alloc (Nat.le_refl _) _
  have e0 : (w.alloc (.cells #[.int .i64 x.a, .int .i64 x.b, .string T] 41)).cell? ⟨w.heap.size, 0, none⟩ = some (.int .i64 x.a) := by simp
  have e1 : (w.alloc (.cells #[.int .i64 x.a, .int .i64 x.b, .string T] 41)).cell? ⟨w.heap.size, 1, none⟩ = some (.int .i64 x.b) := by simp
  have e2 : (w.alloc (.cells #[.int .i64 x.a, .int .i64 x.b, .string T] 41)).cell? ⟨w.heap.size, 2, none⟩ = some (.string T) := by simp
  have hl : w.heap.size < (w.alloc (.cells #[.int .i64 x.a, .int .i64 x.b, .string T] 41)).heap.size := by simp
  clear hT hg hx hf hc c33 c31 P3 hK hnn hcap hnK
  have HTT := Lib.hid hTT
  clear hTT
  go_enter Try.func18, Try.ntmps18
  go_wp2_with (fail)
  obtain ⟨W, hW⟩ : ∃ W, w.alloc (.cells #[.int .i64 x.a, .int .i64 x.b, .string T] 41) = W := ⟨_, rfl⟩
  rw [hW] at hb0 e0 e1 e2 hl ⊢
  refine (c34 _).mono ?_
  rintro e w1 ⟨rfl, hb1⟩
  have f0 := (hb1.cell (p := ⟨w.heap.size, 0, none⟩) hl).trans e0
  have f1 := (hb1.cell (p := ⟨w.heap.size, 1, none⟩) hl).trans e1
  have f2 := (hb1.cell (p := ⟨w.heap.size, 2, none⟩) hl).trans e2
  have hB1 : Below w.heap.size w w1 := hb0.trans (hb1.mono hb0.size)
  have hl1 : w.heap.size < w1.heap.size := Nat.lt_of_lt_of_le hl hb1.size
  have k33 := C33.out w1 hB1
  clear e0 e1 e2 hW c34
  go_wp2_with (go_at_call 33; (with_reducible refine k33.mono ?_); rintro e w2 ⟨rfl, hb2⟩; have g0 := (hb2.cell (p := ⟨w.heap.size, 0, none⟩) hl1).trans f0; have g1 := (hb2.cell (p := ⟨w.heap.size, 1, none⟩) hl1).trans f1; have g2 := (hb2.cell (p := ⟨w.heap.size, 2, none⟩) hl1).trans f2)
  have hB2 : Below w.heap.size w w2 := hB1.trans (hb2.mono hB1.size)
  have hl2 : w.heap.size < w2.heap.size := Nat.lt_of_lt_of_le hl1 hb2.size
  refine (C31.out w2 hB2).mono ?_
  rintro e w3 ⟨rfl, hb3⟩
  have m0 := (hb3.cell (p := ⟨w.heap.size, 0, none⟩) hl2).trans g0
  have m1 := (hb3.cell (p := ⟨w.heap.size, 1, none⟩) hl2).trans g1
  have m2 := (hb3.cell (p := ⟨w.heap.size, 2, none⟩) hl2).trans g2
  have hB3 : Below w.heap.size w w3 := hB2.trans (hb3.mono hB2.size)
  have hl3 : w.heap.size < w3.heap.size := Nat.lt_of_lt_of_le hl2 hb3.size
  clear k33 f0 f1 f2 g0 g1 g2
  have HB3 := Lib.hid hB3
  go_wp2_with (fail)
  have c35 := fun (W : World) (hb : Below w3.heap.size w3 W) h1 h2 => concat35 (w3.heap.size + 1) 0 3 3 _ W rfl (HP3.out w3 W w3.heap.size (w3.heap.size + 1) 41 22 hB3 hb h1 h2) (by simp [total] <;> omega) (by simp [total] <;> omega) (by omega)
  have C35 := Lib.hid c35
  clear c35
  go_region_held3 (fun w' => w'.cell? ⟨w.heap.size, 0, none⟩ = some (.int .i64 x.a) ∧ w'.cell? ⟨w.heap.size, 1, none⟩ = some (.int .i64 x.b) ∧ w'.cell? ⟨w.heap.size, 2, none⟩ = some (.string T))
    (first
      | go_keep
      | (go_split_ands
         refine ⟨?_, ?_, ?_⟩
         · ((first | rw [hb5.cell (by simp; omega)]); assumption)
         · ((first | rw [hb5.cell (by simp; omega)]); assumption)
         · ((first | rw [hb5.cell (by simp; omega)]); assumption)))
    ((go_simp; go_at_call 35; refine (C35.out _ (two_below w3 _ _) (two_first w3 _ _) (two_second w3 _ _)).mono ?_; rintro e w5 ⟨A5, n5, c5, rfl, hb5⟩))
  go_wp2
  go_ret2
  have z5 := (two_below w3 (.cells #[.int .i64 x.a, .int .i64 x.b, .string T] 41) (.cells #[.slice none 0 0, .slice (some ⟨w3.heap.size, 0, none⟩) 1 1, .slice none 0 0] 22)).trans (hb5.mono (two_below _ _ _).size)
  have z6 : Below w5.heap.size w5 (w5.alloc (.cells #[.slice A5 n5 c5] 60)) := (Below.refl _ _).alloc (Nat.le_refl _) _
  exact ⟨HB3.out.trans ((z5.trans (z6.mono z5.size)).mono HB3.out.size), some ⟨w5.heap.size, 0, none⟩, by rw [HC.out]; rfl, .inr ⟨HC.out, _, rfl⟩⟩
theorem add18 (p A : Option Addr) (c : Nat) (r : List Sp) (x : Sp) (w : World) (hT : TIn w p A c r) (hA : Flat A) (hn : r.length ≤ 30) (hg : Good r) : Calls Try.prog 18 #[.pointer p, spV x] w (AddPost r x w) := by
  by_cases hx : check [] x = 0
  · cases hf : foundAt r x with
    | true => exact add_found p A c r x w hT hn hg hx hf
    | false =>
      rcases hA with rfl | ⟨b, off, rfl⟩
      · obtain rfl : c = 0 := hT.cap.2 rfl
        exact add_nil p r x w hT hn hg hx hf
      · by_cases hK : c = placeOf r x
        · exact add_end p b off c r x w hT hn hg hx hf hK
        · exact add_some p b off c r x w hT hn hg hx hf hK
  · exact add_unfit p r x w hx
end Go.Proofs.Ytfggoegofbghhaa
