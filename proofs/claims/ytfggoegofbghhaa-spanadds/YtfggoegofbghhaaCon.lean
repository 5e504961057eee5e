/- Slices of spans put one behind the other by slices.Concat: nothing of what was there is turned. -/
import Derived.Test.YtfggoegofbghhaaShelg
import Derived.Test.YtfggoegofbghhaaNew
namespace Go.Proofs.Ytfggoegofbghhaa
open Go.RowKit Go.Sort Go.Shelf

theorem grow44 (n : Nat) (w : World) (h0 : 0 < n) (hn : n ≤ 200000) : Calls Try.prog 44 #[.slice none 0 0, .int .i64 n] w fun e w' => ∃ A c, e = .returned (.slice A 0 c) ∧ Below w.heap.size w w' ∧ Hid (w'.ownsRow w.heap.size 41 3 (.slice A 0 c) 0 []) := by
  obtain ⟨i0, hi, hz0, hz1, hz2⟩ := info_parts info41
  have m1 := mx hn
  have hb : (0 + n) * i0.bytes ≤ 140737488355328 := by rw [hz2, Nat.zero_add]; omega
  refine (Try.slices_Grow_grow i0 _ hi hz0 (by rw [hz1]; decide) none 0 0 n [] w (Nat.le_refl _) (by omega) hb (by omega) (by simp) (fun _ => rfl) (fun a e => by cases e)).mono ?_
  rintro e w' ⟨rfl, rfl⟩
  have hb1 : Below w.heap.size w (w.drew) := ⟨rfl, rfl, rfl, Nat.le_refl _, fun _ _ => rfl⟩
  refine ⟨_, _, rfl, hb1.alloc (Nat.le_refl _) _, Lib.hid ?_⟩
  have h1 : 0 + n ≤ maxLen := by rw [Nat.zero_add]; exact m1
  have hge := grownCap_ge w (0 + n) 0 41
  exact World.ownsRow_made w.drew _ _ (Nat.le_refl _) (grownCap_le_maxLen w (0 + n) 0 41 h1) (by
    rw [Array.size_append, Array.size_append, size_zeroCells, size_zeroCells]
    show 0 + (0 + n - 0) * 3 + (grownCap w (0 + n) 0 41 - (0 + n)) * 3 = _
    omega)

/-- A slice among those that are put together. -/
structure Pc where
  A : Option Addr
  n : Nat
  c : Nat
  ls : List Sp
def total (L : List Pc) : Nat := (L.map fun x => x.n).sum
theorem total_more {L : List Pc} {k : Nat} {x : Pc} (h : L[k]? = some x) : total (L.take (k + 1)) = total (L.take k) + x.n := by
  have hlt := (List.getElem?_eq_some_iff.1 h).1
  have e : L[k] = x := (List.getElem?_eq_some_iff.1 h).2
  unfold total
  rw [List.take_succ_eq_append_getElem hlt, e, List.map_append, List.sum_append]
  simp
theorem total_le (L : List Pc) (k : Nat) : total (L.take k) ≤ total L := by
  conv => rhs; rw [← List.take_append_drop k L]
  unfold total
  rw [List.map_append, List.sum_append]
  omega
def Pcs (w : World) (g off : Nat) (L : List Pc) : Prop := ∀ (j : Nat) (x : Pc), L[j]? = some x → g < w.heap.size ∧ w.cell? ⟨g, off + j, none⟩ = some (.slice x.A x.n x.c) ∧ SAt w x.A x.n x.ls ∧ (x.A = none → x.c = 0)
theorem Pcs.below {w w' : World} {g off : Nat} {L : List Pc} (h : Pcs w g off L) (hb : Below w.heap.size w w') : Pcs w' g off L := fun j x hj =>
  have ⟨h1, h2, h3, h4⟩ := h j x hj
  ⟨Nat.lt_of_lt_of_le h1 hb.size, (hb.cell (p := ⟨g, _, none⟩) h1).trans h2, h3.below hb, h4⟩
def Ca1 (L : List Pc) (m : Nat) (i s : Value) (w wr : World) : Prop := ∃ k : Nat, i = .int .i64 k ∧ k ≤ m ∧ s = .int .i64 (total (L.take k)) ∧ w = wr
def Ca2 (L : List Pc) (m B : Nat) (i v : Value) (w wr : World) : Prop := Below B w wr ∧ B ≤ w.heap.size ∧ ∃ (k : Nat) (xs : List Value), i = .int .i64 k ∧ k ≤ m ∧ wr.ownsRow B 41 3 v (total (L.take k)) xs
set_option maxRecDepth 100000 in
set_option maxHeartbeats 2000000 in
theorem concat35 (g off m c : Nat) (L : List Pc) (w : World) (hL : L.length = m) (hP : Pcs w g off L) (h0 : 0 < total L) (ht : total L ≤ 100000) (hm : m ≤ 1000) :
    Calls Try.prog 35 #[.slice (some ⟨g, off, none⟩) m c] w fun e w' => ∃ A n c', e = .returned (.slice A n c') ∧ Below w.heap.size w w' := by
  obtain ⟨i0, hi, hz0, hz1, hz2⟩ := info_parts info41
  have HP := Lib.hid hP
  have HL := Lib.hid hL
  clear hP hL
  go_enter Try.func35, Try.ntmps35
  go_wp2
  go_loopw [11, 3] (fun i s wr => Ca1 L m i s w wr) (fun i _ _ => m - (intOf i).toNat)
  case atStart => exact ⟨0, rfl, Nat.zero_le _, rfl, rfl⟩
  case round =>
    obtain ⟨k, rfl, hkm, rfl, rfl⟩ := hrel
    by_cases hlt : k < m
    · obtain ⟨x, hx⟩ : ∃ x, L[k]? = some x := ⟨_, List.getElem?_eq_getElem (by rw [HL.out]; exact hlt)⟩
      obtain ⟨-, h2, -, -⟩ := HP.out k x hx
      have e1 := total_more hx
      have e2 := total_le L (k + 1)
      have E1 := Lib.hid e1
      have hb : total (L.take k) + x.n ≤ 100000 := by omega
      clear e1 e2 hx
      obtain ⟨S, hS⟩ : ∃ S, total (L.take k) = S := ⟨_, rfl⟩
      rw [hS] at hb E1
      have HS := Lib.hid hS
      rw [hS]
      clear hS
      go_wp2
      go_roundw
      case rel => exact ⟨k + 1, by go_num, by omega, by rw [E1.out]; go_num, rfl⟩
      case measure => simp [intOf]; omega
    · have hke : k = m := by omega
      subst hke
      rw [List.take_of_length_le (by rw [HL.out]; exact Nat.le_refl _)]
      obtain ⟨S, hS⟩ : ∃ S, total L = S := ⟨_, rfl⟩
      have HS := Lib.hid hS
      rw [hS] at h0 ht ⊢
      clear hS
      have c44 := grow44 S w h0 (by omega)
      go_wp2_with (go_at_call 44; (with_reducible refine c44.mono ?_); rintro e w1 ⟨A1, c1, rfl, hb1, ho1⟩; have HO := Lib.hid ho1; clear ho1)
      have HB1 := Lib.hid hb1
      clear c44 hb1
      go_loopw [27, 6] (fun i v wq => Ca2 L k w.heap.size i v w wq) (fun i _ _ => k - (intOf i).toNat)
      case atStart => exact ⟨HB1.out, Nat.le_refl _, 0, [], rfl, Nat.zero_le _, HO.out.out⟩
      case round =>
        obtain ⟨hbq, hBB, j, xs, rfl, hjm, hown⟩ := hrel
        obtain ⟨Ao, co, rfl, hAo⟩ := own_shape hown
        clear hAo
        have HOW := Lib.hid hown
        have HBQ := Lib.hid hbq
        by_cases hlt2 : j < k
        · obtain ⟨x, hx⟩ : ∃ x, L[j]? = some x := ⟨_, List.getElem?_eq_getElem (by rw [HL.out]; exact hlt2)⟩
          obtain ⟨-, h2, h3, h4⟩ := (HP.out.below hbq) j x hx
          have e1 := total_more hx
          have e2 := total_le L (j + 1)
          rw [HS.out] at e2
          have hb : total (L.take j) + x.n ≤ 200000 := by omega
          have m3 := mx hb
          have m4 := my hb
          have E1 := Lib.hid e1
          have H3 := Lib.hid h3
          have H4 := Lib.hid h4
          have hs2 := hbq.size
          clear e1 e2 hx hb h3 h4 hown hbq
          obtain ⟨xA, xn, xc, xl⟩ := x
          simp only at h2 m3 m4 E1 H3 H4
          obtain ⟨T, hT⟩ : ∃ T, total (L.take j) = T := ⟨_, rfl⟩
          rw [hT] at m3 m4 E1 HOW ⊢
          clear hT
          go_wp2_with (at_builtin; refine append_spans rfl _ _ 22 rfl w.heap.size 41 i0 (.agg #[.int .i64 0, .int .i64 0, .string ⟨#[]⟩]) 32 Try.underlying22 hi hz0 hz1 hz2 rfl _ _ _ rfl HOW.out xA xn xc xl rfl H3.out H4.out m3 m4 hs2 ?_; intro v2 w2 ho2 hg2)
          go_roundw
          case rel => exact ⟨HBQ.out.grown hg2 hs2 (fun r e => (HOW.out.lt r e).1), Nat.le_refl _, j + 1, _, by go_num, by omega, by rw [E1.out]; exact ho2⟩
          case measure => simp [intOf]; omega
        · clear hown hbq
          go_wp2
          go_ret
          exact ⟨_, _, _, rfl, HBQ.out⟩
end Go.Proofs.Ytfggoegofbghhaa
