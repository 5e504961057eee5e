/- The statement SpanPoints at any spans, any value, any count. -/
import Derived.Test.YtfggoegofbghhaaPiter
import Derived.Test.YtfggoegofbghhaaRpts
import Derived.Test.YtfggoegofbghhaaTables
import Derived.Deep.RegionHeld3
import Derived.Deep.AppendLies
namespace Go.Proofs.Ytfggoegofbghhaa
open Go.RowKit Go.Shelf
attribute [local go_sem] Oper.semAt_some

/-- One element more, laid in a block of its own and appended: where the row lies then. -/
theorem append_lies_in {F : Fence} {m : Nat} {P : Program} {w : World} {ops : Array Oper} {rest : List Oper} {o : Oper} {a : Act} {Q : Exit → Act → World → Prop} (hgd : o.guard = none) (s x : Operand) (t : TypeId)
    (ho : o.op = .call { callee := .builtin .append, args := #[s, x], argTypes := #[t, t] })
    (base : Nat) (e : TypeId) (i : TypeInfo) (z : Value) (size bytes : Nat) (ht : P.underlying t = some (.slice e)) (hi : P.info? e = some i) (hz : i.zero = some z)
    (hsize : i.size = size) (hby : i.bytes = bytes) (hzs : z.cells.size = size) (hsz : 0 < size)
    (v : Value) (n : Nat) (xs : List Value) (hs : a.eval s = v) (hown : w.ownsRow base e size v n xs) (us : List Value) (hus : us.length = size) (hone : ∀ u ∈ us, u.oneCell' = true)
    (hx : a.eval x = .slice (some ⟨w.heap.size, 0, none⟩) 1 1) (h63 : n + 1 ≤ maxLen) (hbytes : (n + 1) * bytes ≤ 140737488355328) (hbase : base ≤ w.heap.size)
    (h : ∀ g cap w', w'.ownsRow base e size (.slice (some ⟨g, 0, none⟩) (n + 1) cap) (n + 1) (xs ++ us) → (w.alloc (.cells us.toArray e)).grownBy w' v.ownBlock → (v.ownBlock = some g ∨ g = w.heap.size + 1) → wpListIn F m P ops Q rest (a.put o.dst (.slice (some ⟨g, 0, none⟩) (n + 1) cap)) w') :
    wpListIn F m P ops Q (o :: rest) a (w.alloc (.cells us.toArray e)) := by
  refine wpListIn_plain hgd fun K hK' => ?_
  obtain ⟨g, cap, w', hrun, r1, r2, r3, -⟩ := run_append_lies (P := P) (w.alloc (.cells us.toArray e)) t o.type base e i z size bytes ht hi hz hsize hby hzs hsz v n xs (hown.alloc _) ⟨w.heap.size, 0, none⟩ 1 1 us (by rw [hus, Nat.one_mul]) (lit_cells w us e) hone (by decide) h63 hbytes (by simp; omega) (w.heap.size + 1) (by simp)
  unfold Oper.wpIn
  refine ⟨?_, ?_⟩
  · simp [Oper.about, ho, resolve, Target.leads, Sem.run_pure]
  · rw [Oper.semAt_plain F _ _ (by rw [ho]; intro c hc'; cases hc')]
    simp [execOp, ho, resolve, invoke, builtin, hs, hx, hrun, Result.andThen]
    exact hK' _ _ (h g cap w' r1 r2 r3)

/-- What who gathers does not own: not the variable's block, nor the row's. -/
def GA (bo : Nat) (W : World) (k : Nat) : Prop := ∃ v, W.cell? ⟨bo, 0, none⟩ = some v ∧ k ≠ bo ∧ v.ownBlock ≠ some k
theorem ga_lets (bo : Nat) : Lets (GA bo) := fun _ _ _ _ ⟨v, h1, h2⟩ hg hr => ⟨v, cell_kept h1 hg hr, h2⟩
theorem got_hold {W w2 : World} {bo base n g cap : Nat} {e : TypeId} {size : Nat} {xs : List Value} {v : Value} {o : Obj} {m : Nat} (hv : W.cell? ⟨bo, 0, none⟩ = some v) (hown : W.ownsRow base e size v n xs) (hg : (W.alloc o).grownBy w2 v.ownBlock)
    (hat : v.ownBlock = some g ∨ g = W.heap.size + 1) (hbo : bo < base) : Hold (GA bo) W (w2.setCell ⟨bo, 0, none⟩ (.slice (some ⟨g, 0, none⟩) m cap)) := by
  have hlt : bo < W.heap.size := World.block_lt_of_cell? W _ hv
  have hgb : ∀ r, v.ownBlock = some r → base ≤ r := fun r e => (hown.lt r e).1
  have s1 := hg.size
  rw [World.size_alloc] at s1
  have blk : ∀ k, k < W.heap.size → v.ownBlock ≠ some k → w2.heap[k]? = W.heap[k]? := fun k hk hne => by
    rw [hg.block k (by rw [World.size_alloc]; omega) (fun e => hne e.symm)]
    exact Below.heap_alloc W o k hk
  have hc2 : w2.cell? ⟨bo, 0, none⟩ = some v := (World.cell?_of_block (blk bo hlt (fun e => by have := hgb bo e; omega))).trans hv
  refine ⟨by rw [World.size_setCell]; omega, fun k ⟨v0, h1, h2, h3⟩ hk => ?_⟩
  rw [hv] at h1
  cases h1
  refine ⟨?_, _, World.cell?_setCell_same' _ _ _ (by rw [hc2]; rfl), h2, ?_⟩
  · rw [(grownBy_setCell' w2 bo _).block k (by omega) (fun e => by cases e; exact h2 rfl)]
    exact blk k hk h3
  · intro e
    have e : some g = some k := e
    cases e
    rcases hat with h | h
    · exact h3 h
    · omega
def SpI (w : World) (bo base lm : Nat) (most : Nat) (pre : List Int) (W : World) : Prop :=
  (pre.length ≤ most ∧ bo < base) ∧ (GotI w bo base 3 1 pre.length (nums .i64 pre) W ∧ W.cell? ⟨lm, 0, none⟩ = some (.int .u8 most))
def SpX (w : World) (bo base : Nat) (most : Nat) (c : Code) (pre : List Int) (W : World) : Prop :=
  c = .exit 0 ∧ ∃ p x, pre = p ++ [x] ∧ p.length = most ∧ GotI w bo base 3 1 p.length (nums .i64 p) W
theorem spi_abide (w : World) (bo base lm most B : Nat) (hB : w.heap.size ≤ B) : Abide 0 0 B (SpI w bo base lm most) :=
  Abide.and (Abide.pure _ _ _ _) (Abide.and (got_abide w bo base 3 1 B (fun pre : List Int => pre.length) (fun pre => nums .i64 pre) hB) (cell_abide _ _))
theorem spx_abide (w : World) (bo base most B : Nat) (hB : w.heap.size ≤ B) (c : Code) : Abide 0 0 B (SpX w bo base most c) := by
  intro pre W W' row hs hg hr
  obtain ⟨e, p, x, h1, h2, h3⟩ := hs
  exact ⟨e, p, x, h1, h2, got_abide (β := Unit) w bo base 3 1 B (fun _ => p.length) (fun _ => nums .i64 p) hB () W W' row h3 hg hr⟩
theorem leave5 {R : Ending → World → Prop} {Wf : World} {D m : Nat} {tmps : Array Value} {v : Value} (ht : tmps[6]?.getD undef = v) (hk : Wf.heap[D]? = some (.deferred (some []))) (h : R (.returned v) (Wf.putObj D (.deferred none))) :
    LeavesInM Fence.wide m Try.prog Try.f5 tmps R [{ target := .collected D, args := #[] }] .returning Wf := by
  refine ⟨by simp, .inl ⟨_, _, rfl, run_takeDeferred hk, ?_⟩⟩
  refine ⟨v, ?_, h⟩
  simp [results, Try.results5, go_sem, ht]
theorem points_any (A : Option Addr) (n ca most : Nat) (r : List Sp) (v : List UInt8) (V : ByteArray) (hV : bs v = V) (w : World) (hS : SAt w A n r) (hn : n ≤ 100000) (hm : most ≤ 1000) (hg : Good r) :
    Calls Try.prog 21 #[.slice A n ca, .string V, .int .i64 most] w fun e w' => ∃ A2 c2, e = .returned (.slice A2 ((pointsOf r v).take most).length c2) ∧ Below w.heap.size w w' ∧ Hid (Vals w' A2 ((pointsOf r v).take most).length (nums .i64 ((pointsOf r v).take most))) := by
  subst hV
  refine (points21 A n ca most r v w hS hn hm hg).mono ?_
  rintro e w' ⟨hb, A2, c2, rfl, hVs⟩
  exact ⟨A2, c2, rfl, hb, Lib.hid hVs⟩

set_option maxRecDepth 100000 in
set_option maxHeartbeats 4000000 in
theorem points_ok (A : Option Addr) (n c : Nat) (ls r : List Sp) (v : List UInt8) (most : Nat) (w : World) (hS : SAt w A n ls) (hA : Flat A) (hA0 : A = none → c = 0) (hc : n ≤ c) (hsm : isSmall ls = true) (hn : n ≤ 30) (hv : v.length ≤ 30) (hm : most ≤ 255) (hr : addAll [] ls = .ok r) :
    Calls Try.prog 5 #[.slice A n c, .string (bs v), .int .u8 most] w fun e w' => e = .returned (.bool true) ∧ Below w.heap.size w w' := by
  obtain ⟨i0, hi, hz0, hz1, hz2⟩ := info_parts info3
  have c7 := fun W => callsIn_wide (n := 8) |>.2 (awake7 W)
  have c8 := fun W (hb : Below w.heap.size w W) => callsIn_wide (n := 8) |>.2 (small8 A n c ls W (hS.below hb))
  have c9 := fun W (hb : Below w.heap.size w W) => callsIn_wide (n := 8) |>.2 (new_some A n c ls r W (hS.below hb) hA hA0 hc (by omega) hr)
  obtain ⟨hg, -, hl0⟩ := addAll_good ls [] r good_nil hr
  have hlen : r.length ≤ 30 := by rw [hl0, hS.1]; simpa using hn
  have hsz : (bs v).size ≤ 30 := by rw [bs_size]; exact hv
  obtain ⟨V, hV⟩ : ∃ V, bs v = V := ⟨_, rfl⟩
  have c15 := fun W p A2 c2 (hT : TIn W p A2 c2 r) => listed_any p A2 c2 r W hT (by omega)
  have c21 := fun W A2 c2 (hS2 : SAt W A2 r.length r) => points_any A2 r.length c2 most r v V hV W hS2 (by omega) (by omega) hg
  have c22 := fun W p A2 c2 (hT : TIn W p A2 c2 r) => callsIn_wide (n := 8) |>.2 (points22 p A2 c2 r V W hT)
  have c36 := fun W bo B0 B1 b A2 c2 => piter36 8 B0 B1 b c2 A2 r v (GA bo) W (ga_lets bo) (by omega) hlen hg
  rw [hV] at hsz ⊢
  rw [hV] at c36
  obtain ⟨L, hL⟩ : ∃ L, ((pointsOf r v).take most).length = L := ⟨_, rfl⟩
  rw [hL] at c21
  have HLL := Lib.hid hL
  clear hL
  have b0 := box_new w (.int .u8 most) 5
  have hb0 : Below w.heap.size w (w.alloc (.cells #[.int .u8 most] 5)) := (Below.refl _ _).alloc (Nat.le_refl _) _
  have s0 : (w.alloc (.cells #[.int .u8 most] 5)).heap.size = w.heap.size + 1 := by simp
  have C7 := Lib.hid c7
  have C8 := Lib.hid c8
  have C9 := Lib.hid c9
  have C15 := Lib.hid c15
  have C21 := Lib.hid c21
  have C22 := Lib.hid c22
  have C36 := Lib.hid c36
  have HSM := Lib.hid hsm
  have HB0 := Lib.hid hb0
  have HBX := Lib.hid b0.1
  have HS0 := Lib.hid s0
  have HLN := Lib.hid hlen
  clear c7 c8 c9 c15 c21 c22 c36 hS hA hA0 hr hg hl0 hV hsm hv hb0 b0 s0 hlen
  refine (callsIn_wide (n := 9)).1 ?_
  refine callsIn_of_wp_marks Try.func5 rfl trivial ?_ rfl
  simp only [Try.ntmps5, List.size_toArray, List.length_cons, List.length_nil, Nat.reduceAdd, Nat.reduceSub, Array.replicate_succ, Array.replicate_zero, List.push_toArray, List.append_toArray, List.nil_append, List.cons_append]
  have k7 := C7.out (w.alloc (.cells #[.int .u8 most] 5))
  gi_wp2_with (first
    | (refine ⟨trivial, ?_⟩; gi_at_call 7; (with_reducible refine k7.mono ?_); rintro e w1 ⟨rfl, hb1⟩; have z1 := bmore HB0.out hb1 HB0.out.size; have k8 := C8.out w1 z1; rw [HSM.out] at k8)
    | (refine ⟨trivial, ?_⟩; gi_at_call 8; (with_reducible refine k8.mono ?_); rintro e w2 ⟨rfl, rfl⟩; have k9 := C9.out w2 z1)
    | (refine ⟨trivial, ?_⟩; gi_at_call 9; (with_reducible refine k9.mono ?_); rintro e w3 ⟨p, A2, c2, rfl, hb3, hT⟩; have HT := Lib.hid hT; clear hT))
  have s0 := HS0.out
  have s1 := hb1.size
  have s3 := hb3.size
  have hl1 : w.heap.size < w2.heap.size := by omega
  have x1 := (hb1.cell (p := ⟨w.heap.size, 0, none⟩) (by show w.heap.size < _; omega)).trans HBX.out
  have x3 := (hb3.cell (p := ⟨w.heap.size, 0, none⟩) (by show w.heap.size < _; omega)).trans x1
  have z3 := bmore z1 hb3 z1.size
  have hl3 : w.heap.size < w3.heap.size := by omega
  have k15 := C15.out w3.drew (some ⟨p, 0, none⟩) A2 c2 (HT.out.out.below ⟨rfl, rfl, rfl, Nat.le_refl _, fun _ _ => rfl⟩)
  have hwr : IntKind.i64.wrap (most : Int) = (most : Int) := by simp [IntKind.wrap, IntKind.bits, IntKind.signed]; omega
  clear k7 k8 k9 x1
  refine wpIn_wide.2 ?_
  go_region_held3 (fun w' => w'.cell? ⟨w.heap.size, 0, none⟩ = some (.int .u8 most))
    (first
      | go_keep
      | (rw [hb4.cell (by simp; omega)]; assumption)
      | (rw [hb5.cell (by simp; omega)]; assumption))
    ((first
      | (go_simp; go_at_call 15; refine k15.mono ?_; rintro e w4 ⟨A4, c4, rfl, hb4, hS4⟩; have hl4 : w.heap.size < w4.heap.size := Nat.lt_of_lt_of_le hl3 hb4.size)
      | (go_simp; go_at_call 21; refine (C21.out w4 A4 c4 hS4.out).mono ?_; rintro e w5 ⟨A5, c5, rfl, hb5, hV5⟩)))
  have hbd : Below w3.heap.size w3 w4 := ⟨hb4.os, hb4.tape, hb4.output, hb4.size, hb4.block⟩
  have z4 := bmore z3 hbd z3.size
  have z5 := bmore z4 hb5 z4.size
  have x5 := (hb5.cell (p := ⟨w.heap.size, 0, none⟩) hl4).trans ((hbd.cell (p := ⟨w.heap.size, 0, none⟩) hl3).trans x3)
  have HT5 := Lib.hid ((HT.out.out.below hbd).below hb5)
  have HV5 := Lib.hid hV5
  have HZ5 := Lib.hid z5
  have l5 : w.heap.size < w5.heap.size := Nat.lt_of_lt_of_le hl4 hb5.size
  clear k15 hS4 hV5 x3 z1 z3 z4 z5 hb1 hb3 hb4 hb5 hbd HT HS0 s0 s1 s3 hl1 hl3 hl4
  have hb6 : Below w5.heap.size w5 (w5.alloc (.cells #[.slice none 0 0] 47)) := (Below.refl _ _).alloc (Nat.le_refl _) _
  have n6 := box_new w5 (.slice none 0 0) 47
  have s6 : (w5.alloc (.cells #[.slice none 0 0] 47)).heap.size = w5.heap.size + 1 := by simp
  have x6 := (hb6.cell (p := ⟨w.heap.size, 0, none⟩) l5).trans x5
  have k22 := C22.out _ (some ⟨p, 0, none⟩) A2 c2 (HT5.out.below hb6)
  have HB6 := Lib.hid hb6
  have HN6 := Lib.hid n6
  have HS6 := Lib.hid s6
  have HX6 := Lib.hid x6
  clear hb6 n6 s6 x6 x5
  gi_wp2_with (refine ⟨trivial, ?_⟩; gi_at_call 22; (with_reducible refine k22.mono ?_); rintro e W4 ⟨hb7, B0, B1, b, rfl, hB0, hB1, hb8, q0, q1, q2, q3⟩)
  have s6 := HS6.out
  have s7 := hb7.size
  have y6 := (hb7.cell (p := ⟨w5.heap.size, 0, none⟩) (by show w5.heap.size < _; omega)).trans HN6.out.1
  have f6 := (hb7.frozen (p := ⟨w5.heap.size, 0, none⟩) (by show w5.heap.size < _; omega)).trans HN6.out.2
  have x7 := (hb7.cell (p := ⟨w.heap.size, 0, none⟩) (by show w.heap.size < _; omega)).trans HX6.out
  have hB57 : Below w5.heap.size w5 W4 := HB6.out.trans (hb7.mono HB6.out.size)
  have hq := C36.out W4 w5.heap.size B0 B1 b A2 c2 hB0.2 hB1.2 hb8.2 q0 q1 q2 q3 ⟨_, y6, by omega, fun h => by cases h⟩ (fun h a e => ⟨_, y6, by have := HT5.out.sat.lt h a e; omega, fun h => by cases h⟩)
  have h0 : SpI w5 w5.heap.size (W4.heap.size + 2) w.heap.size most [] W4 := ⟨⟨Nat.zero_le _, by omega⟩, ⟨⟨_, ⟨y6, f6⟩, World.ownsRow_nil _ _ _ _⟩, hB57⟩, x7⟩
  have HQ := Lib.hid hq
  have H0 := Lib.hid h0
  have HW4 : Hid (w.heap.size < w5.heap.size ∧ w5.heap.size < W4.heap.size) := Lib.hid ⟨l5, by omega⟩
  clear hq h0 s6 s7 y6 f6 x7 hB57 hb7 hB0 hB1 hb8 q0 q1 q2 q3 k22 HB6 HN6 HS6 HX6 l5
  refine range_free1 rfl (by omega) rfl trivial (enters_of Try.func36 (by kernel_rfl) rfl) HQ.out (ga_lets _) (fun _ => rfl) (fun x _ W1 W2 row hs hg hr => Nat.le_trans hs hg.size)
    (SpI w5 w5.heap.size (W4.heap.size + 2) w.heap.size most) (SpX w5 w5.heap.size (W4.heap.size + 2) most) (spi_abide _ _ _ _ _ _ (by have := HW4.out; omega)) (spx_abide _ _ _ _ _ (by have := HW4.out; omega)) ?fr H0.out ?a1 ?assign ?body ?done ?stop
  case fr =>
    rintro pre W ⟨-, ⟨⟨gv, ⟨hv, -⟩, hown⟩, -⟩, -⟩ k hk
    exact ⟨gv, hv, by have := World.block_lt_of_cell? W _ hv; show k ≠ w5.heap.size; have h : w5.heap.size < W.heap.size := this; omega, fun e => by have := (hown.lt k e).2; omega⟩
  case assign =>
    intro lq x W' K hK
    simp only [ptArr]
    gi_wp2
    exact hK
  case body =>
    rintro lq pre x W ⟨⟨hpl, hbb⟩, ⟨⟨gv, ⟨hv, hf⟩, hown⟩, hbW⟩, hmo⟩ hr hlen
    have hr : W4.heap.size + 2 ≤ W.heap.size := hr
    obtain ⟨Av, cv, rfl, -⟩ := own_shape hown
    by_cases hpm : pre.length < most
    · have n2 : pre.length + 1 ≤ 200000 := by omega
      have m3 := mx n2
      have m4 := my8 n2
      have hend := fun (w2 : World) (g cap : Nat) (o : Obj) ho' (hg : (W.alloc o).grownBy w2 _) (hat : _ ∨ g = W.heap.size + 1) =>
        And.intro (@got_hold W w2 w5.heap.size (W4.heap.size + 2) pre.length g cap 3 1 (nums .i64 pre) (.slice Av pre.length cv) o (pre.length + 1) hv hown hg hat hbb)
          (@got_next w5 W w2 w5.heap.size (W4.heap.size + 2) 3 1 pre.length (nums .i64 pre) [.int .i64 x] (.slice Av pre.length cv) (.slice (some ⟨g, 0, none⟩) (pre.length + 1) cap) o hv hf hown hbW ho' hg (Nat.le_refl _) hbb)
      have hmost : ∀ W', Hold (GA w5.heap.size) W W' → True := fun _ _ => trivial
      have HE := Lib.hid hend
      have HOW := Lib.hid hown
      have hsn := nums_snoc pre x
      have HSN := Lib.hid hsn
      have hmW : Hid (∀ W', Below w5.heap.size w5 W' → W'.cell? ⟨w.heap.size, 0, none⟩ = some (.int .u8 most)) := Lib.hid fun W' hb =>
        ((hb.cell (p := ⟨w.heap.size, 0, none⟩) HW4.out.1).trans ((hbW.cell (p := ⟨w.heap.size, 0, none⟩) HW4.out.1).symm)).trans hmo
      clear hend hmost hsn hown hbW hlen
      gi_wp2_with (gi_at_builtin; refine append_lies_in rfl _ _ 47 rfl (W4.heap.size + 2) 3 i0 (.int .i64 0) 1 8 Try.underlying47 hi hz0 hz1 hz2 rfl (by decide) _ _ _ rfl HOW.out [.int .i64 x] rfl (by simp [Value.oneCell']) rfl m3 m4 hr ?_; intro g2 cap2 w2 hown' hg' hat'; obtain ⟨R0, R1, R2, kc1, kc2⟩ := HE.out w2 g2 cap2 _ hown' hg' hat'; have HR := Lib.hid (And.intro R0 (And.intro R1 R2)); clear hown' hg' hat' R0 R1 R2)
      refine ⟨HR.out.1, ⟨by rw [List.length_append]; exact hpm, hbb⟩, ?_, hmW.out _ HR.out.2.2.2⟩
      have h2 := HR.out.2.2
      rw [HSN.out] at h2
      rw [List.length_append]
      exact h2
    · have hpe : pre.length = most := by omega
      have HE : Hid (Hold (GA w5.heap.size) W W ∧ SpX w5 w5.heap.size (W4.heap.size + 2) most (.exit 0) (pre ++ [x]) W) := Lib.hid ⟨Hold.refl _ _, rfl, pre, x, rfl, hpe, ⟨_, ⟨hv, hf⟩, hown⟩, hbW⟩
      clear hpe hown hbW hlen
      gi_wp2
      exact HE.out
  case done =>
    rintro D xs W3 hD hxs ⟨⟨hpl, -⟩, hgot0, -⟩ hKD
    have hxt : (pointsOf r v).take most = xs := by rw [← hxs]; exact List.take_of_length_le hpl
    have hgot : GotI w5 w5.heap.size (W4.heap.size + 2) 3 1 L (nums .i64 ((pointsOf r v).take most)) W3 := by
      rw [← HLL.out, hxt]; exact hgot0
    obtain ⟨⟨gv, ⟨hv, hf⟩, hown⟩, hbW⟩ := hgot
    obtain ⟨Av, cv, rfl, -, hVs, -⟩ := own_vals hown
    have hk2 := cell_kept hv (grownBy_putObj' W3 D (.deferred none)) (fun r e => by cases e; exact ⟨_, hKD, rfl⟩)
    have k23 := callsIn_wide (n := 8) |>.2 (same17 Av A5 L cv c5 _ W3 hVs (HV5.out.out.below hbW) (by have := HLL.out; rw [List.length_take] at this; omega))
    have hbel : Below w.heap.size w W3 := bmore HZ5.out hbW HZ5.out.size
    have hDw : w.heap.size ≤ D := by have := HW4.out; omega
    have HBL := Lib.hid hbel
    clear hown hVs hk2 hf hbW hbel
    gi_wp2_with (refine ⟨trivial, ?_⟩; gi_at_call 23; (with_reducible refine k23.mono ?_); rintro e W5 ⟨rfl, q, rfl⟩)
    have hKD2 : (W3.drewN q).heap[D]? = some (.deferred (some [])) := hKD
    exact leave5 rfl hKD2 ⟨rfl, (below_drewN HBL.out q).trans (belowK_b (w := w) (Nat.le_refl _) (W3.drewN q) D _ _ hDw hKD2 rfl rfl)⟩
  case stop =>
    rintro D c' pre W3 hD hpre ⟨rfl, p', x', rfl, hpl, hgot0⟩ hKD
    have hxt : (pointsOf r v).take most = p' := by
      obtain ⟨t, ht⟩ := hpre
      rw [← ht, List.append_assoc, ← hpl, List.take_left']
      rfl
    have hgot : GotI w5 w5.heap.size (W4.heap.size + 2) 3 1 L (nums .i64 ((pointsOf r v).take most)) W3 := by
      rw [← HLL.out, hxt]; exact hgot0
    obtain ⟨⟨gv, ⟨hv, hf⟩, hown⟩, hbW⟩ := hgot
    obtain ⟨Av, cv, rfl, -, hVs, -⟩ := own_vals hown
    have hk2 := cell_kept hv (grownBy_putObj' W3 D (.deferred none)) (fun r e => by cases e; exact ⟨_, hKD, rfl⟩)
    have k23 := callsIn_wide (n := 8) |>.2 (same17 Av A5 L cv c5 _ W3 hVs (HV5.out.out.below hbW) (by have := HLL.out; rw [List.length_take] at this; omega))
    have hbel : Below w.heap.size w W3 := bmore HZ5.out hbW HZ5.out.size
    have hDw : w.heap.size ≤ D := by have := HW4.out; omega
    have HBL := Lib.hid hbel
    clear hown hVs hk2 hf hbW hbel
    gi_wp2_with (refine ⟨trivial, ?_⟩; gi_at_call 23; (with_reducible refine k23.mono ?_); rintro e W5 ⟨rfl, q, rfl⟩)
    have hKD2 : (W3.drewN q).heap[D]? = some (.deferred (some [])) := hKD
    exact leave5 rfl hKD2 ⟨rfl, (below_drewN HBL.out q).trans (belowK_b (w := w) (Nat.le_refl _) (W3.drewN q) D _ _ hDw hKD2 rfl rfl)⟩
end Go.Proofs.Ytfggoegofbghhaa
