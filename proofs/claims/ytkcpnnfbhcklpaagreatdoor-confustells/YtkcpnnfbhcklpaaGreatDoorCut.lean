/- What the document's own Cut and Same hand back. -/
import Derived.Test.YtkcpnnfbhcklpaaGreatDoorRef
import Derived.Test.YtkcpnnfbhcklpaaGreatDoorVals
namespace Go.Proofs.YtkcpnnfbhcklpaaGreatDoor
open Go.RowKit

theorem info9 : (Tryz.prog.info? 9).map (fun i => (i.zero, i.size, i.bytes)) = some (some (.string ⟨#[]⟩), 1, 16) := by kernel_rfl
theorem strs_snoc (out : List (List UInt8)) (p : List UInt8) : strs out ++ [Value.string (bs p)] = strs (out ++ [p]) := by simp [strs]
theorem strs_len_snoc (out : List (List UInt8)) (p : List UInt8) : out.length + 1 = (out ++ [p]).length := by simp

def CutRel (c : UInt8) (l : List UInt8) (w : World) (v f i : Value) (wr : World) : Prop :=
  Below w.heap.size w wr ∧ ∃ out : List (List UInt8), wr.ownsRow w.heap.size 9 1 v out.length (strs out) ∧
    ((∃ k g : Nat, i = .int .i64 k ∧ f = .int .i64 g ∧ g ≤ k ∧ k ≤ l.length ∧ out.length ≤ k ∧ out ++ glue ((l.drop g).take (k - g)) (cutAll c (l.drop k)) = cutAll c l) ∨
     (i = .int .i64 ((l.length : Int) + 1) ∧ out = cutAll c l))
theorem cut_end {c : UInt8} {l out : List (List UInt8)} {p : List UInt8} {s : List UInt8} (h : out ++ glue p (cutAll c s) = l) (hs : s = []) : out ++ [p] = l := by
  subst hs
  rw [← h]
  simp [cutAll, glue]
theorem cut_hit {c : UInt8} {l : List UInt8} {out r : List (List UInt8)} {p : List UInt8} {k : Nat} (hk : k < l.length) (hc : l.getD k 0 = c) (h : out ++ glue p (cutAll c (l.drop k)) = r) : (out ++ [p]) ++ glue ((l.drop (k + 1)).take (k + 1 - (k + 1))) (cutAll c (l.drop (k + 1))) = r := by
  rw [← h, cutAll_at c l k hk, if_pos hc, Nat.sub_self, List.take_zero, glue_nil (cutAll_ne _ _)]
  simp [glue]
theorem cut_miss {c : UInt8} {l : List UInt8} {out r : List (List UInt8)} {g k : Nat} (hk : k < l.length) (hg : g ≤ k) (hc : ¬ l.getD k 0 = c) (h : out ++ glue ((l.drop g).take (k - g)) (cutAll c (l.drop k)) = r) : out ++ glue ((l.drop g).take (k + 1 - g)) (cutAll c (l.drop (k + 1))) = r := by
  have e : (l.drop g).take (k + 1 - g) = (l.drop g).take (k - g) ++ [l.getD k 0] := by
    rw [show k + 1 - g = (k - g) + 1 by omega, List.take_succ_eq_append_getElem (by simp; omega)]
    congr 2
    rw [List.getElem_drop, List.getD_eq_getElem?_getD, List.getElem?_eq_getElem hk]
    simp [show g + (k - g) = k by omega]
  rw [← h, cutAll_at c l k hk, if_neg hc, glue_glue _ _ (cutAll_ne _ _), e]

def CutPost (c : UInt8) (l : List UInt8) (w : World) (e : Ending) (w' : World) : Prop :=
  Below w.heap.size w w' ∧ ∃ A ca, e = .returned (.slice A (cutAll c l).length ca) ∧ Vals w' A (cutAll c l).length (strs (cutAll c l))

set_option maxRecDepth 100000 in
set_option maxHeartbeats 1000000 in
theorem cut20 (c : UInt8) (l : List UInt8) (w : World) (hl : l.length ≤ 1000000) :
    Calls Tryz.prog 14 #[.string (bs l), .int .u8 c.toNat] w (CutPost c l w) := by
  obtain ⟨i0, hi, hz0, hz1, hz2⟩ := info_parts info9
  have hsz := bs_size l
  obtain ⟨n, hn⟩ : ∃ n, l.length = n := ⟨_, rfl⟩
  rw [hn] at hl hsz
  have HN := Lib.hid hn
  clear hn
  go_enter Tryz.func14, Tryz.ntmps14
  go_wp2
  go_loopw [5, 6, 7] (fun v f i wr => CutRel c l w v f i wr) (fun _ _ i _ => n + 1 - (intOf i).toNat)
  case atStart => exact ⟨Below.refl _ _, [], World.ownsRow_nil _ _ _ _, .inl ⟨0, 0, rfl, rfl, by omega, by omega, Nat.le_refl _, by simp [glue_nil (cutAll_ne c l)]⟩⟩
  case round =>
    obtain ⟨hbel, out, hown, ⟨k, g, rfl, rfl, hgk, hkl, hok, hcut⟩ | ⟨rfl, hout⟩⟩ := hrel
    · have hbase := hbel.size
      have hx := bs_oct l k
      have hext := bs_ext l g k
      have hk' : k ≤ n := by rw [← HN.out]; exact hkl
      clear hkl
      have h63 : out.length + 1 ≤ maxLen := by unfold maxLen; omega
      have h47 : (out.length + 1) * 16 ≤ 140737488355328 := by omega
      obtain ⟨p, hp⟩ : ∃ p, (l.drop g).take (k - g) = p := ⟨_, rfl⟩
      by_cases hlt : k < n
      · have hlt' : k < l.length := by rw [HN.out]; exact hlt
        by_cases hc : l.getD k 0 = c
        · have hX : oct l k = c.toNat := by unfold oct; rw [hc]
          rw [hX] at hx
          rw [hp] at hext hcut
          have HC := Lib.hid (cut_hit hlt' hc hcut)
          clear hcut hc hp hX hlt'
          go_wp2_with (at_builtin; refine append_lit rfl _ _ 42 rfl w.heap.size 9 i0 (.string ⟨#[]⟩) 1 16 Tryz.underlying42 hi hz0 hz1 hz2 rfl (by decide) _ _ _ rfl hown [.string (bs p)] rfl (by simp [Value.oneCell']) rfl h63 h47 hbase ?_; intro v' w2 hown' hg')
          go_roundw
          case rel =>
            rw [strs_snoc, strs_len_snoc out p] at hown'
            exact ⟨hg' _ _ hbel (Nat.le_refl _), out ++ [p], hown', .inl ⟨k + 1, k + 1, by go_num, by go_num, Nat.le_refl _, by rw [HN.out]; omega, by simp; omega, HC.out⟩⟩
          case measure => simp [intOf]; omega
        · have hX : ((oct l k) == (c.toNat : Int)) = false := beq_false_of_ne fun e => hc ((u8_int _ _).1 e)
          have HC := Lib.hid (cut_miss hlt' hgk hc hcut)
          obtain ⟨X, hXX⟩ : ∃ X, oct l k = X := ⟨_, rfl⟩
          rw [hXX] at hX hx
          clear hcut hc hp hext hlt' hXX
          go_wp2
          go_roundw
          case rel => exact ⟨hbel, out, hown, .inl ⟨k + 1, g, by go_num, rfl, by omega, by rw [HN.out]; omega, by omega, HC.out⟩⟩
          case measure => simp [intOf]; omega
      · have hke : k = n := by omega
        subst hke
        rw [hp] at hext hcut
        have HC := Lib.hid (cut_end hcut (List.drop_of_length_le (by rw [HN.out]; exact Nat.le_refl _)))
        clear hcut hp hx
        go_wp2_with (at_builtin; refine append_lit rfl _ _ 42 rfl w.heap.size 9 i0 (.string ⟨#[]⟩) 1 16 Tryz.underlying42 hi hz0 hz1 hz2 rfl (by decide) _ _ _ rfl hown [.string (bs p)] rfl (by simp [Value.oneCell']) rfl h63 h47 hbase ?_; intro v' w2 hown' hg')
        go_roundw
        case rel =>
          rw [strs_snoc, strs_len_snoc out p] at hown'
          exact ⟨hg' _ _ hbel (Nat.le_refl _), out ++ [p], hown', .inr ⟨by rw [HN.out], HC.out⟩⟩
        case measure => simp [intOf]
    · have hN : (l.length : Int) = n := by rw [HN.out]
      rw [hN]
      have HO := Lib.hid hout
      clear hout hN
      go_wp2
      go_ret
      obtain ⟨A, ca, rfl, _, hV, _⟩ := own_vals hown
      rw [HO.out] at hV ⊢
      exact ⟨hbel, A, ca, rfl, hV⟩
end Go.Proofs.YtkcpnnfbhcklpaaGreatDoor
