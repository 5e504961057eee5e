/- A table lies in a block of its own; what list, Len, row, Gc, Ccc and Bidi hand back. -/
import Derived.Test.YtfmkhfjdihfppaaDoorRbin
namespace Go.Proofs.YtfmkhfjdihfppaaDoor
open Go.RowKit

/-- The pointer p is a table whose slice is (A, c), with the rows ls; nil, if there is no table. -/
def TIn (w : World) (p A : Option Addr) (c : Nat) (ls : List Rw) : Prop :=
  (p = none ∧ ls = [] ∧ A = none ∧ c = 0) ∨ ∃ b, p = some ⟨b, 0, none⟩ ∧ b < w.heap.size ∧ w.cell? ⟨b, 0, none⟩ = some (.slice A ls.length c) ∧ RAt w A ls.length ls
theorem TIn.below {w w' : World} {p A : Option Addr} {c : Nat} {ls : List Rw} (h : TIn w p A c ls) (hb : Below w.heap.size w w') : TIn w' p A c ls := by
  rcases h with h | ⟨b, rfl, hlt, hc, hS⟩
  · exact .inl h
  · exact .inr ⟨b, rfl, Nat.lt_of_lt_of_le hlt hb.size, (hb.cell (p := ⟨b, 0, none⟩) hlt).trans hc, hS.below hb⟩
theorem TIn.none (w : World) : TIn w .none .none 0 [] := .inl ⟨rfl, rfl, rfl, rfl⟩
theorem TIn.rat {w : World} {p A : Option Addr} {c : Nat} {ls : List Rw} (h : TIn w p A c ls) : RAt w A ls.length ls := by
  rcases h with ⟨_, rfl, _, _⟩ | ⟨b, rfl, hlt, hc, hS⟩
  · exact RAt.nil w A
  · exact hS
set_option maxRecDepth 100000 in
set_option maxHeartbeats 1000000 in
theorem list24 (p A : Option Addr) (c : Nat) (ls : List Rw) (w : World) (hT : TIn w p A c ls) :
    Calls Tryd.prog 24 #[.pointer p] w fun e w' => e = .returned (.slice A ls.length c) ∧ w = w' := by
  rcases hT with ⟨rfl, rfl, rfl, rfl⟩ | ⟨b, rfl, hlt, hc, hS⟩
  · go_enter Tryd.func24, Tryd.ntmps24
    go_wp2
    go_ret
    exact ⟨rfl, rfl⟩
  · clear hS
    go_enter Tryd.func24, Tryd.ntmps24
    go_wp2
    go_ret
    exact ⟨rfl, rfl⟩
set_option maxRecDepth 100000 in
set_option maxHeartbeats 1000000 in
theorem len12 (p A : Option Addr) (c : Nat) (ls : List Rw) (w : World) (hT : TIn w p A c ls) :
    Calls Tryd.prog 12 #[.pointer p] w fun e w' => e = .returned (.int .i64 ls.length) ∧ w = w' := by
  have c24 := list24 p A c ls w hT
  clear hT
  go_enter Tryd.func12, Tryd.ntmps12
  go_wp2_with (go_at_call 24; (with_reducible refine c24.mono ?_); rintro e w1 ⟨rfl, rfl⟩)
  go_ret
  exact ⟨rfl, rfl⟩
theorem below_store {w w1 : World} {a b d : Int} {c e f : Value} (o : Obj) (h : Below w.heap.size w (w.alloc o)) (h1 : Below (w.alloc o).heap.size (w.alloc o) w1) :
    Below w.heap.size w ((((((w1.setCell ⟨w.heap.size, 0, none⟩ (.int .i64 a)).setCell ⟨w.heap.size, 1, none⟩ (.int .i64 b)).setCell ⟨w.heap.size, 2, none⟩ c).setCell ⟨w.heap.size, 3, none⟩ (.int .i64 d)).setCell ⟨w.heap.size, 4, none⟩ e).setCell ⟨w.heap.size, 5, none⟩ f) :=
  below_six a b d (h.trans (h1.mono h.size))
/-- The six cells of a row that was laid ahead of a call. -/
theorem six_box {w w1 : World} {v0 v1 v2 v3 v4 v5 : Value} {t : TypeId} (h : Below (w.alloc (.cells #[v0, v1, v2, v3, v4, v5] t)).heap.size (w.alloc (.cells #[v0, v1, v2, v3, v4, v5] t)) w1) :
    (w1.cell? ⟨w.heap.size, 0, none⟩ = some v0 ∧ w1.cell? ⟨w.heap.size, 1, none⟩ = some v1 ∧ w1.cell? ⟨w.heap.size, 2, none⟩ = some v2 ∧ w1.cell? ⟨w.heap.size, 3, none⟩ = some v3 ∧ w1.cell? ⟨w.heap.size, 4, none⟩ = some v4 ∧ w1.cell? ⟨w.heap.size, 5, none⟩ = some v5) ∧
    ∀ i, w1.frozen? ⟨w.heap.size, i, none⟩ = false := by
  have hl : w.heap.size < (w.alloc (.cells #[v0, v1, v2, v3, v4, v5] t)).heap.size := by simp
  refine ⟨⟨(h.cell (p := ⟨w.heap.size, 0, none⟩) hl).trans (by simp), (h.cell (p := ⟨w.heap.size, 1, none⟩) hl).trans (by simp), (h.cell (p := ⟨w.heap.size, 2, none⟩) hl).trans (by simp), (h.cell (p := ⟨w.heap.size, 3, none⟩) hl).trans (by simp), (h.cell (p := ⟨w.heap.size, 4, none⟩) hl).trans (by simp), (h.cell (p := ⟨w.heap.size, 5, none⟩) hl).trans (by simp)⟩, fun i => (h.frozen (p := ⟨w.heap.size, i, none⟩) hl).trans ?_⟩
  have h2 := World.alloc_heap_new w (.cells #[v0, v1, v2, v3, v4, v5] t)
  simp only [World.frozen?]
  rw [h2]
  simp
theorem bcell {W w1 : World} (hb : Below W.heap.size W w1) : (∀ b o, b < W.heap.size → w1.cell? ⟨b, o, none⟩ = W.cell? ⟨b, o, none⟩) ∧ (∀ b o, b < W.heap.size → w1.frozen? ⟨b, o, none⟩ = W.frozen? ⟨b, o, none⟩) :=
  ⟨fun b o h => hb.cell (p := ⟨b, o, none⟩) h, fun b o h => hb.frozen (p := ⟨b, o, none⟩) h⟩
set_option maxRecDepth 100000 in
set_option maxHeartbeats 4000000 in
theorem row27 (p A : Option Addr) (c : Nat) (ls : List Rw) (z : Int) (w : World) (hT : TIn w p A c ls) (hn : ls.length ≤ 100000) (hr : Rises ls) :
    Calls Tryd.prog 27 #[.pointer p, .int .i64 z] w fun e w' => e = .returned (rwV (atOf ls z)) ∧ Below w.heap.size w w' := by
  have hb0 : Below w.heap.size w (w.alloc (.cells #[.int .i64 0, .int .i64 0, .string ⟨#[]⟩, .int .i64 0, .string ⟨#[]⟩, .slice none 0 0] 36)) := (Below.refl _ _).alloc (Nat.le_refl _) _
  have c24 := list24 p A c ls _ (hT.below hb0)
  have c43 := bin43 A ls.length c ls z _ (hT.below hb0).rat hn hr
  unfold BinPost at c43
  have HB := Lib.hid hb0
  clear hb0
  cases hfo : foundAt ls z
  · have HV := Lib.hid (at_lost hr hfo)
    rw [hfo] at c43
    clear hT hr hfo
    go_enter Tryd.func27, Tryd.ntmps27
    go_wp2_with (first
      | (go_at_call 24; (with_reducible refine c24.mono ?_); rintro e w1 ⟨rfl, rfl⟩)
      | (go_at_call 43; (with_reducible refine c43.mono ?_); rintro e w1 ⟨rfl, hb1⟩; have HB1 := Lib.hid hb1; obtain ⟨⟨e0, e1, e2, e3, e4, e5⟩, ef⟩ := six_box hb1; clear hb1))
    exact bodyPost_ret (v := rwV rw0) (by simp [results, Tryd.results27, go_sem, e0, e1, e2, e3, e4, e5, rwV, rw0, bs_nil]) rfl ⟨by rw [HV.out], below_store _ HB.out HB1.out⟩
  · obtain ⟨s, hs, hm⟩ := found_some hfo
    have HV := Lib.hid (at_found hs hm)
    rw [hfo] at c43
    have hkl := (List.getElem?_eq_some_iff.1 hs).1
    obtain ⟨b2, off, rfl, hb2, hcc⟩ := hT.rat.2 (by omega)
    obtain ⟨h1, h2, h3, h4, h5, h6⟩ := hcc _ s hs
    obtain ⟨K, hK⟩ : ∃ K, placeOf ls z = K := ⟨_, rfl⟩
    rw [hK] at c43 h1 h2 h3 h4 h5 h6 hkl
    obtain ⟨T, hT'⟩ : ∃ T, bs s.gc = T := ⟨_, rfl⟩
    obtain ⟨U, hU⟩ : ∃ U, bs s.bd = U := ⟨_, rfl⟩
    have HT := Lib.hid hT'
    have HU := Lib.hid hU
    rw [hT'] at h3
    rw [hU] at h5
    obtain ⟨N, hN⟩ : ∃ N, ls.length = N := ⟨_, rfl⟩
    rw [hN] at c24 c43 hkl hn
    clear hr hfo hs hm hcc hK hT' hU hT hN
    go_enter Tryd.func27, Tryd.ntmps27
    go_wp2_with (first
      | (go_at_call 24; (with_reducible refine c24.mono ?_); rintro e w1 ⟨rfl, rfl⟩)
      | (go_at_call 43; (with_reducible refine c43.mono ?_); rintro e w1 ⟨rfl, hb1⟩; have HB1 := Lib.hid hb1; obtain ⟨⟨e0, e1, e2, e3, e4, e5⟩, ef⟩ := six_box hb1; have k1 := (HB1.out.cell (p := ⟨b2, off + K * 6, none⟩) (by show b2 < _; simp; omega)).trans ((HB.out.cell (p := ⟨b2, off + K * 6, none⟩) hb2).trans h1); have k2 := (HB1.out.cell (p := ⟨b2, off + K * 6 + 1, none⟩) (by show b2 < _; simp; omega)).trans ((HB.out.cell (p := ⟨b2, off + K * 6 + 1, none⟩) hb2).trans h2); have k3 := (HB1.out.cell (p := ⟨b2, off + K * 6 + 2, none⟩) (by show b2 < _; simp; omega)).trans ((HB.out.cell (p := ⟨b2, off + K * 6 + 2, none⟩) hb2).trans h3); have k4 := (HB1.out.cell (p := ⟨b2, off + K * 6 + 3, none⟩) (by show b2 < _; simp; omega)).trans ((HB.out.cell (p := ⟨b2, off + K * 6 + 3, none⟩) hb2).trans h4); have k5 := (HB1.out.cell (p := ⟨b2, off + K * 6 + 4, none⟩) (by show b2 < _; simp; omega)).trans ((HB.out.cell (p := ⟨b2, off + K * 6 + 4, none⟩) hb2).trans h5); have k6 := (HB1.out.cell (p := ⟨b2, off + K * 6 + 5, none⟩) (by show b2 < _; simp; omega)).trans ((HB.out.cell (p := ⟨b2, off + K * 6 + 5, none⟩) hb2).trans h6); clear hb1))
    exact bodyPost_ret (v := rwV s) (by simp [results, Tryd.results27, go_sem, e0, e1, e2, e3, e4, e5, rwV, HT.out, HU.out]) rfl ⟨by rw [HV.out], below_store _ HB.out HB1.out⟩
theorem field2 (s : Rw) (W : World) : (Instr.field 36 (rwV s) 2).run Tryd.prog W = .ok (.string (bs s.gc)) W := by kernel_rfl
theorem field3 (s : Rw) (W : World) : (Instr.field 36 (rwV s) 3).run Tryd.prog W = .ok (.int .i64 s.ccc) W := by kernel_rfl
theorem field4 (s : Rw) (W : World) : (Instr.field 36 (rwV s) 4).run Tryd.prog W = .ok (.string (bs s.bd)) W := by kernel_rfl
theorem field5 (s : Rw) (W : World) : (Instr.field 36 (rwV s) 5).run Tryd.prog W = .ok (.slice s.dp s.dm s.dc) W := by kernel_rfl
set_option maxRecDepth 100000 in
set_option maxHeartbeats 1000000 in
theorem gc14 (p A : Option Addr) (c : Nat) (ls : List Rw) (z : Int) (w : World) (hT : TIn w p A c ls) (hn : ls.length ≤ 100000) (hr : Rises ls) :
    Calls Tryd.prog 14 #[.pointer p, .int .i64 z] w fun e w' => e = .returned (.string (bs (atOf ls z).gc)) ∧ Below w.heap.size w w' := by
  have c27 := row27 p A c ls z w hT hn hr
  unfold rwV at c27
  clear hT hr
  have hfd : ∀ W : World, _ := fun W => field2 (atOf ls z) W
  unfold rwV at hfd
  go_enter Tryd.func14, Tryd.ntmps14
  go_wp2_with (go_at_call 27; (with_reducible refine c27.mono ?_); rintro e w1 ⟨rfl, hb1⟩)
  go_ret
  exact ⟨rfl, hb1⟩
set_option maxRecDepth 100000 in
set_option maxHeartbeats 1000000 in
theorem ccc15 (p A : Option Addr) (c : Nat) (ls : List Rw) (z : Int) (w : World) (hT : TIn w p A c ls) (hn : ls.length ≤ 100000) (hr : Rises ls) :
    Calls Tryd.prog 15 #[.pointer p, .int .i64 z] w fun e w' => e = .returned (.int .i64 (atOf ls z).ccc) ∧ Below w.heap.size w w' := by
  have c27 := row27 p A c ls z w hT hn hr
  unfold rwV at c27
  clear hT hr
  have hfd : ∀ W : World, _ := fun W => field3 (atOf ls z) W
  unfold rwV at hfd
  go_enter Tryd.func15, Tryd.ntmps15
  go_wp2_with (go_at_call 27; (with_reducible refine c27.mono ?_); rintro e w1 ⟨rfl, hb1⟩)
  go_ret
  exact ⟨rfl, hb1⟩
set_option maxRecDepth 100000 in
set_option maxHeartbeats 1000000 in
theorem bidi16 (p A : Option Addr) (c : Nat) (ls : List Rw) (z : Int) (w : World) (hT : TIn w p A c ls) (hn : ls.length ≤ 100000) (hr : Rises ls) :
    Calls Tryd.prog 16 #[.pointer p, .int .i64 z] w fun e w' => e = .returned (.string (bs (atOf ls z).bd)) ∧ Below w.heap.size w w' := by
  have c27 := row27 p A c ls z w hT hn hr
  unfold rwV at c27
  clear hT hr
  have hfd : ∀ W : World, _ := fun W => field4 (atOf ls z) W
  unfold rwV at hfd
  go_enter Tryd.func16, Tryd.ntmps16
  go_wp2_with (go_at_call 27; (with_reducible refine c27.mono ?_); rintro e w1 ⟨rfl, hb1⟩)
  go_ret
  exact ⟨rfl, hb1⟩
end Go.Proofs.YtfmkhfjdihfppaaDoor
