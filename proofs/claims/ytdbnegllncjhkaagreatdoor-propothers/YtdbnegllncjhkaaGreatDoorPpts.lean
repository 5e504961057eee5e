/- What the program's Points of property files hands back. -/
import Derived.Test.YtdbnegllncjhkaaGreatDoorPiter
import Derived.Test.YtdbnegllncjhkaaGreatDoorPad
import Derived.Test.YtdbnegllncjhkaaGreatDoorInf
import Derived.Maps.OwnIn
namespace Go.Proofs.YtdbnegllncjhkaaGreatDoor
open Go.RowKit Go.Shelf
attribute [local go_sem] Oper.semAt_some

/-- What Points hands back. -/
def PoPost (ls : List Sp) (v : List UInt8) (w : World) (e : Ending) (w' : World) : Prop :=
  ∃ A c, e = .returned (.slice A ((pointsOf ls v).take 4096).length c) ∧ Below w.heap.size w w' ∧ Hid (Vals w' A ((pointsOf ls v).take 4096).length (nums .i64 ((pointsOf ls v).take 4096)))
theorem append_lit_at {F : Fence} {m : Nat} {P : Program} {w : World} {ops : Array Oper} {rest : List Oper} {o : Oper} {a : Act} {Q : Exit → Act → World → Prop} (hgd : o.guard = none) (s x : Operand) (t : TypeId)
    (ho : o.op = .call { callee := .builtin .append, args := #[s, x], argTypes := #[t, t] })
    (base : Nat) (e : TypeId) (i : TypeInfo) (z : Value) (size bytes : Nat) (ht : P.underlying t = some (.slice e)) (hi : P.info? e = some i) (hz : i.zero = some z)
    (hsize : i.size = size) (hby : i.bytes = bytes) (hzs : z.cells.size = size) (hsz : 0 < size)
    (v : Value) (n : Nat) (xs : List Value) (hs : a.eval s = v) (hown : w.ownsRow base e size v n xs) (us : List Value) (hus : us.length = size) (hone : ∀ u ∈ us, u.oneCell' = true)
    (hx : a.eval x = .slice (some ⟨w.heap.size, 0, none⟩) 1 1) (h63 : n + 1 ≤ maxLen) (hbytes : (n + 1) * bytes ≤ 140737488355328) (hbase : base ≤ w.heap.size)
    (h : ∀ v' w', w'.ownsRow base e size v' (n + 1) (xs ++ us) → w.grownBy w' v.ownBlock → (∀ k, k < w.heap.size → v'.ownBlock = some k → v.ownBlock = some k) → wpListIn F m P ops Q rest (a.put o.dst v') w') : wpListIn F m P ops Q (o :: rest) a (w.alloc (.cells us.toArray e)) :=
  wpListIn_append_own_at _ hgd s x t ho base e i z size bytes ht hi hz hsize hby hzs hsz v n xs hs (hown.alloc _) ⟨w.heap.size, 0, none⟩ 1 1 us hx (by rw [hus, Nat.one_mul]) (lit_cells w us e) hone h63 hbytes (by simp; omega)
    (fun v' w' h1 h2 _ h4 => h v' w' h1 ⟨h2.os, h2.tape, h2.output, Nat.le_trans (by simp) h2.size, fun k hk hr => (h2.block k (by simp; omega) hr).trans (Below.heap_alloc w _ k hk)⟩ (fun k hk e => by
      rcases h4 with h4 | h4
      · rw [← h4]; exact e
      · rw [h4] at e
        injection e with e
        simp at e
        omega))
theorem row_abide {β : Type} {B t base : Nat} {e : TypeId} {size : Nat} (n : β → Nat) (xs : β → List Value) : Abide 0 0 B (fun s W => RowAt t base e size (n s) (xs s) W) := by
  intro s W W' row ⟨v, h2, h3⟩ hg hr
  exact ⟨v, abide_cell (β := Unit) (B := B) (fun _ => ⟨t, 0, none⟩) (fun _ => v) (fun _ => by omega) () W W' row h2 hg hr, own_abide (β := Unit) (B := B) () W W' row h3 hg hr⟩
theorem row_free {t base : Nat} {e : TypeId} {size n : Nat} {xs : List Value} {W : World} (h : RowAt t base e size n xs W) : ∀ k, W.heap.size ≤ k → GA t W k := by
  obtain ⟨v, ⟨h1, -⟩, h2⟩ := h
  intro k hk
  have hl := World.block_lt_of_cell? W _ h1
  exact ⟨v, h1, by simp only at hl; omega, fun e => by have := (h2.lt k e).2; omega⟩
theorem nums_snocP (zs : List Int) (x : Int) : nums .i64 (zs ++ [x]) = nums .i64 zs ++ [.int .i64 x] := by unfold nums; rw [List.map_append]; rfl
theorem info3p : (Tryz.prog.info? 3).map (fun i => (i.zero, i.size, i.bytes)) = some (some (.int .i64 0), 1, 8) := by kernel_rfl
/-- Between two code points. -/
def PtI (w : World) (base : Nat) (pre : List Int) (W : World) : Prop := RowAt w.heap.size base 3 1 pre.length (nums .i64 pre) W ∧ (Below w.heap.size w W ∧ pre.length < 4096)
def PtX (w : World) (base : Nat) (c : Code) (pre : List Int) (W : World) : Prop := (c = .exit 0 ∧ pre.length = 4096) ∧ (RowAt w.heap.size base 3 1 pre.length (nums .i64 pre) W ∧ Below w.heap.size w W)
theorem pti_abide (w : World) (base B : Nat) (hB : w.heap.size ≤ B) : Abide 0 0 B (PtI w base) := by
  intro pre W W' row ⟨h1, h2, h3⟩ hg hr
  exact ⟨row_abide (B := B) (β := Unit) (fun _ => pre.length) (fun _ => nums .i64 pre) () W W' row h1 hg hr, abide_below (β := Unit) w (.inr (by omega)) hB (Nat.le_refl _) () W W' row h2 hg hr, h3⟩
theorem ptx_abide (w : World) (base B : Nat) (hB : w.heap.size ≤ B) (c : Code) : Abide 0 0 B (PtX w base c) := by
  intro pre W W' row ⟨h0, h1, h2⟩ hg hr
  exact ⟨h0, row_abide (B := B) (β := Unit) (fun _ => pre.length) (fun _ => nums .i64 pre) () W W' row h1 hg hr, abide_below (β := Unit) w (.inr (by omega)) hB (Nat.le_refl _) () W W' row h2 hg hr⟩
theorem leave13 {R : Ending → World → Prop} {Wf : World} {D m : Nat} {tmps : Array Value} {v : Value} (ht : tmps[4]?.getD undef = v) (hk : Wf.heap[D]? = some (.deferred (some []))) (h : R (.returned v) (Wf.putObj D (.deferred none))) :
    LeavesInM Fence.wide m Tryz.prog Tryz.f13 tmps R [{ target := .collected D, args := #[] }] .returning Wf := by
  refine ⟨by simp, .inl ⟨_, _, rfl, run_takeDeferred hk, ?_⟩⟩
  refine ⟨v, ?_, h⟩
  simp [results, Tryz.results13, go_sem, ht]
theorem my8p {n : Nat} (h : n ≤ 200000) : n * 8 ≤ 140737488355328 := by omega
theorem mz' {n : Nat} (h : n ≤ 200000) : n ≤ maxLen := by simp only [maxLen]; omega
/-- One more code point. -/
theorem pt_next {w W w2 : World} {base : Nat} {pre : List Int} {x : Int} {v v' : Value} (hv : W.cell? ⟨w.heap.size, 0, none⟩ = some v) (hf : W.frozen? ⟨w.heap.size, 0, none⟩ = false) (ho : W.ownsRow base 3 1 v pre.length (nums .i64 pre)) (htb : w.heap.size < base) (hb : Below w.heap.size w W)
    (ho' : w2.ownsRow base 3 1 v' (pre.length + 1) (nums .i64 pre ++ [.int .i64 x])) (hg : W.grownBy w2 v.ownBlock) (hnew : ∀ k, k < W.heap.size → v'.ownBlock = some k → v.ownBlock = some k) :
    (w2.cell? ⟨w.heap.size, 0, none⟩ = some v ∧ w2.frozen? ⟨w.heap.size, 0, none⟩ = false) ∧ (w2.setCell ⟨w.heap.size, 0, none⟩ v').cell? ⟨w.heap.size, 0, none⟩ = some v' ∧ Hold (GA w.heap.size) W (w2.setCell ⟨w.heap.size, 0, none⟩ v') ∧ RowAt w.heap.size base 3 1 (pre ++ [x]).length (nums .i64 (pre ++ [x])) (w2.setCell ⟨w.heap.size, 0, none⟩ v') ∧ Below w.heap.size w (w2.setCell ⟨w.heap.size, 0, none⟩ v') := by
  obtain ⟨h1, h2, h3, h4⟩ := row_put hv hf ho htb ho' hg hnew
  rw [nums_snocP, List.length_append]
  refine ⟨h1, ?_, h3, h2, hb.trans h4⟩
  exact World.cell?_setCell_same' _ _ _ (by rw [h1.1]; rfl)
set_option maxRecDepth 100000 in
set_option maxHeartbeats 4000000 in
theorem ppoints13 (p A : Option Addr) (c : Nat) (ls : List Sp) (v : List UInt8) (w : World) (hT : TIn w p A c ls) (hg : Good ls) (hn : ls.length ≤ 100000) : Calls Tryz.prog 13 #[.pointer p, .string (bs v)] w (PoPost ls v w) := by
  obtain ⟨i0, hi, hz0, hz1, hz2⟩ := info_parts info3p
  have hb0 : Below w.heap.size w (w.alloc (.cells #[.slice none 0 0] 36)) := (Below.refl _ _).alloc (Nat.le_refl _) _
  have c32 := callsIn_wide (n := 7) |>.2 (points22 p A c ls (bs v) (w.alloc (.cells #[.slice none 0 0] 36)) (hT.below hb0))
  have n0 := box_new w (.slice none 0 0) 36
  have s0 : (w.alloc (.cells #[.slice none 0 0] 36)).heap.size = w.heap.size + 1 := by simp
  have HT := Lib.hid hT
  clear hT
  refine (callsIn_wide (n := 8)).1 ?_
  refine callsIn_of_wp_marks Tryz.func13 rfl trivial ?_ rfl
  simp only [Tryz.ntmps13, List.size_toArray, List.length_cons, List.length_nil, Nat.reduceAdd, Nat.reduceSub, Array.replicate_succ, Array.replicate_zero, List.push_toArray, List.append_toArray, List.nil_append, List.cons_append]
  have N0 := Lib.hid n0
  have HB0 := Lib.hid hb0
  have HS0 := Lib.hid s0
  clear n0 hb0 s0
  gi_wp2_with (refine ⟨trivial, ?_⟩; gi_at_call 32; (with_reducible refine c32.mono ?_); rintro e W4 ⟨hb4, B0, B1, b, rfl, hB0, hB1, hb, h0, h1, h2, hS⟩; have HH := Lib.hid (And.intro h0 (And.intro h1 (And.intro h2 hS))); clear h0 h1 h2 hS)
  clear c32
  obtain ⟨h0, h1, h2, hS⟩ := HH.out
  have hs0 := HS0.out
  have hs4 := hb4.size
  have hv4 : W4.cell? ⟨w.heap.size, 0, none⟩ = some (.slice none 0 0) := (hb4.cell (p := ⟨w.heap.size, 0, none⟩) (by show w.heap.size < _; omega)).trans N0.out.1
  have hf4 : W4.frozen? ⟨w.heap.size, 0, none⟩ = false := (hb4.frozen (p := ⟨w.heap.size, 0, none⟩) (by show w.heap.size < _; omega)).trans N0.out.2
  have hga : ∀ k, k ≠ w.heap.size → GA w.heap.size W4 k := fun k hk => ⟨_, hv4, hk, fun e => by cases e⟩
  have hsw := HT.out.sat
  have hq := piter36 7 B0 B1 b c A ls v (GA w.heap.size) W4 (ga_lets _) (by omega) hn hg hB0.2 hB1.2 hb.2 h0 h1 h2 hS (hga _ (by omega)) (fun h a e => hga _ (by have := hsw.lt h a e; omega))
  have hB4 : Below w.heap.size w W4 := HB0.out.trans (hb4.mono HB0.out.size)
  have hI0 : PtI w (W4.heap.size + 2) [] W4 := ⟨⟨_, ⟨hv4, hf4⟩, World.ownsRow_nil _ _ _ _⟩, hB4, by decide⟩
  have HQ := Lib.hid hq
  have H0 := Lib.hid hI0
  have HL : Hid (w.heap.size < W4.heap.size) := Lib.hid (by omega)
  clear hq hI0 hs0 hs4 hb4 hB4 hsw h0 h1 h2 hS HH hv4 hf4 hga
  gi_wp2
  refine range_free1 rfl (by omega) rfl trivial (enters_of Tryz.func56 (by kernel_rfl) rfl) HQ.out (ga_lets _) (fun _ => rfl) (fun x _ W1 W2 row hs hg hr => Nat.le_trans hs hg.size)
    (PtI w (W4.heap.size + 2)) (PtX w (W4.heap.size + 2)) (pti_abide _ _ _ (by have := HL.out; omega)) (ptx_abide _ _ _ (by have := HL.out; omega)) (fun s W hs => row_free hs.1) H0.out ?a1 ?assign ?body ?done ?stop
  case assign =>
    rintro l x W K hK
    simp only [ptArr]
    gi_wp2
    exact hK
  case body =>
    rintro l pre x W ⟨⟨u, ⟨hv, hf⟩, hown⟩, hbW, hlt⟩ hr hlen
    have n2 : pre.length + 1 ≤ 200000 := by omega
    have m3 := mz' n2
    have m4 := my8p n2
    have hend := fun (w2 : World) (v' : Value) ho' hg hnew => @pt_next w W w2 (W4.heap.size + 2) pre x u v' hv hf hown (by have := HL.out; omega) hbW ho' hg hnew
    have hbase : W4.heap.size + 2 ≤ W.heap.size := hr
    have HE := Lib.hid hend
    have HOW := Lib.hid hown
    obtain ⟨Av, cv, rfl, -⟩ := own_shape hown
    clear hend hr hbW hown
    obtain ⟨N, hN⟩ : ∃ N, pre.length = N := ⟨_, rfl⟩
    rw [hN] at hv HOW m3 m4 HE hlt n2
    by_cases h4 : N + 1 = 4096
    · have hq4 : ((N : Int) + 1 == 4096) = true := by rw [beq_iff_eq]; omega
      gi_wp2_with (gi_at_builtin; refine append_lit_at rfl _ _ 36 rfl (W4.heap.size + 2) 3 i0 (.int .i64 0) 1 8 Tryz.underlying36 hi hz0 hz1 hz2 rfl (by decide) _ _ _ rfl HOW.out [.int .i64 x] rfl (by simp [Value.oneCell']) rfl m3 m4 hbase ?_; intro v' w2 hown' hg' hnw'; obtain ⟨⟨kc1, kc2⟩, kc3, R1, R2, R3⟩ := HE.out w2 v' hown' hg' hnw'; have HR := Lib.hid (And.intro R1 (And.intro R2 R3)); obtain ⟨Av2, cv2, rfl, -⟩ := own_shape hown'; clear hown' hg' hnw' R1 R2 R3)
      rw [h4] at HR
      exact ⟨HR.out.1, ⟨rfl, by simp; omega⟩, HR.out.2⟩
    · have hq4 : ((N : Int) + 1 == 4096) = false := beq_false_of_ne (by omega)
      gi_wp2_with (gi_at_builtin; refine append_lit_at rfl _ _ 36 rfl (W4.heap.size + 2) 3 i0 (.int .i64 0) 1 8 Tryz.underlying36 hi hz0 hz1 hz2 rfl (by decide) _ _ _ rfl HOW.out [.int .i64 x] rfl (by simp [Value.oneCell']) rfl m3 m4 hbase ?_; intro v' w2 hown' hg' hnw'; obtain ⟨⟨kc1, kc2⟩, kc3, R1, R2, R3⟩ := HE.out w2 v' hown' hg' hnw'; have HR := Lib.hid (And.intro R1 (And.intro R2 R3)); obtain ⟨Av2, cv2, rfl, -⟩ := own_shape hown'; clear hown' hg' hnw' R1 R2 R3)
      exact ⟨HR.out.1, HR.out.2.1, HR.out.2.2, by simp; omega⟩
  case done =>
    rintro D xs W hD rfl ⟨⟨u, ⟨hv, hf⟩, hown⟩, hbW, hlt⟩ hKD
    have hfin : ∀ Av cv, u = .slice Av (pointsOf ls v).length cv → PoPost ls v w (.returned u) (W.putObj D (.deferred none)) := fun Av cv e => by
      refine ⟨Av, cv, by rw [List.take_of_length_le (by omega), e], hbW.trans (belowK_b (w := w) (Nat.le_refl _) W D _ _ (by have := HL.out; omega) hKD rfl rfl), ?_⟩
      rw [List.take_of_length_le (by omega)]
      have := own_abide (β := Unit) (B := D) () _ _ _ hown (grownBy_putObj' W D (.deferred none)) (fun r e => by cases e; exact .inr ⟨Nat.le_refl _, _, hKD, rfl⟩)
      obtain ⟨A', c', e', -, h, -⟩ := own_vals this
      rw [e] at e'
      cases e'
      exact Lib.hid h
    obtain ⟨Av, cv, rfl, -⟩ := own_shape hown
    have HFN := Lib.hid (hfin Av cv rfl)
    clear hfin hown hbW
    gi_wp2
    exact leave13 rfl hKD HFN.out
  case stop =>
    rintro D c' pre W hD hpre ⟨⟨rfl, hlen⟩, ⟨u, ⟨hv, hf⟩, hown⟩, hbW⟩ hKD
    have htk : (pointsOf ls v).take 4096 = pre := by rw [← hlen]; exact (List.prefix_iff_eq_take.1 hpre).symm
    have hfin : ∀ Av cv, u = .slice Av pre.length cv → PoPost ls v w (.returned u) (W.putObj D (.deferred none)) := fun Av cv e => by
      refine ⟨Av, cv, by rw [htk, e], hbW.trans (belowK_b (w := w) (Nat.le_refl _) W D _ _ (by have := HL.out; omega) hKD rfl rfl), ?_⟩
      rw [htk]
      have := own_abide (β := Unit) (B := D) () _ _ _ hown (grownBy_putObj' W D (.deferred none)) (fun r e => by cases e; exact .inr ⟨Nat.le_refl _, _, hKD, rfl⟩)
      obtain ⟨A', c', e', -, h, -⟩ := own_vals this
      rw [e] at e'
      cases e'
      exact Lib.hid h
    obtain ⟨Av, cv, rfl, -⟩ := own_shape hown
    have HFN := Lib.hid (hfin Av cv rfl)
    rw [hlen] at HFN
    clear hfin hown hbW htk hpre
    gi_wp2
    exact leave13 rfl hKD HFN.out
end Go.Proofs.YtdbnegllncjhkaaGreatDoor
