/- What the document's own Sequence hands back. -/
import Derived.Test.YtkcpnnfbhcklpaaGreatDoorRpoint
import Derived.Test.YtkcpnnfbhcklpaaGreatDoorRlines
import Derived.Test.YtkcpnnfbhcklpaaGreatDoorSeqw
namespace Go.Proofs.YtkcpnnfbhcklpaaGreatDoor
open Go.RowKit

def RsqRel (l : List UInt8) (w : World) (w1 : World) (v i : Value) (wr : World) : Prop :=
  Below w.heap.size w wr ∧ Below w1.heap.size w1 wr ∧ ∃ (k : Nat) (cs : List Nat), i = .int .i64 k ∧ k ≤ (cutAll 32 l).length ∧ ((cutAll 32 l).take k).mapM point = some cs ∧ cs.length ≤ k ∧ wr.ownsRow w1.heap.size 3 1 v cs.length (i64s cs)

theorem seq_end {l : List UInt8} {cs : List Nat} {k : Nat} (hne : ¬ l = []) (hk : k = (cutAll 32 l).length) (h : ((cutAll 32 l).take k).mapM point = some cs) : seqOf l = some cs := by
  unfold seqOf
  rw [if_neg hne, ← h, List.take_of_length_le (by omega)]
theorem seq_bad {l : List UInt8} {k : Nat} (hne : ¬ l = []) (hk : k < (cutAll 32 l).length) (h : point ((cutAll 32 l).getD k []) = none) : seqOf l = none := by
  unfold seqOf
  rw [if_neg hne]
  exact mapM_none hk h
theorem cut_each (c : UInt8) : ∀ (l : List UInt8), ∀ x ∈ cutAll c l, x.length ≤ l.length
  | [], x, hx => by simp [cutAll] at hx; rw [hx]; simp
  | y :: l, x, hx => by
    have ih := cut_each c l
    unfold cutAll at hx
    split at hx
    · rcases List.mem_cons.1 hx with rfl | hx
      · simp
      · have := ih x hx
        rw [List.length_cons]
        omega
    · cases h : cutAll c l with
      | nil => exact absurd h (cutAll_ne c l)
      | cons a t =>
        rw [h] at hx ih
        rcases List.mem_cons.1 hx with rfl | hx
        · have := ih a (by simp)
          simp
          omega
        · have := ih x (by simp [hx])
          rw [List.length_cons]
          omega
theorem cut_at {c : UInt8} {l : List UInt8} {k : Nat} (hk : k < (cutAll c l).length) : ((cutAll c l).getD k []).length ≤ l.length := by
  rw [List.getD_eq_getElem?_getD, List.getElem?_eq_getElem hk]
  exact cut_each c l _ (List.getElem_mem hk)

set_option maxRecDepth 100000 in
set_option maxHeartbeats 2000000 in
theorem sequence16 (l : List UInt8) (w : World) (hl : l.length ≤ 2000) : Calls Tryz.prog 22 #[.string (bs l)] w (SeqPost l w) := by
  by_cases hne : l = []
  · rw [hne, bs_nil]
    go_enter Tryz.func22, Tryz.ntmps22
    go_wp2
    go_ret2
    exact ⟨Below.refl _ _, .inl ⟨[], none, 0, rfl, rfl, Vals.nil _ _, fun a e => by cases e⟩⟩
  · obtain ⟨i0, hi, hz0, hz1, hz2⟩ := info_parts info3
    have hemp := bs_some hne
    have c20 := cut20_at 32 32 rfl l w (by omega)
    have HNE := Lib.hid hne
    have hcl := cutAll_length 32 l
    have hLm : (cutAll 32 l).length ≤ 2001 := by omega
    have c12 := fun k (hk : k < (cutAll 32 l).length) w => point12 ((cutAll 32 l).getD k []) w (by have := cut_at hk; omega)
    have C12 := Lib.hid c12
    obtain ⟨T, hT⟩ : ∃ T, bs l = T := ⟨_, rfl⟩
    rw [hT] at hemp c20 ⊢
    obtain ⟨n, hn⟩ : ∃ n, (cutAll 32 l).length = n := ⟨_, rfl⟩
    have HN := Lib.hid hn
    rw [hn] at hLm
    clear hT hne hcl c12 hn hl
    go_enter Tryz.func22, Tryz.ntmps22
    go_wp2_with (go_at_call 14; (with_reducible refine c20.mono ?_); rintro e w1 ⟨hb1, A, ca, rfl, hV⟩; rw [HN.out] at hV ⊢; have HV := Lib.hid hV; clear hV)
    clear c20 hemp
    go_loopw [5, 6] (fun v i wr => RsqRel l w w1 v i wr) (fun _ i _ => n - (intOf i).toNat)
    case atStart => exact ⟨hb1, Below.refl _ _, 0, [], rfl, Nat.zero_le _, by simp, by simp, World.ownsRow_nil _ _ _ _⟩
    case round =>
      obtain ⟨hbel, hbw1, k, cs, rfl, hkn, hpre, hcs, hown⟩ := hrel
      rw [HN.out] at hkn
      have hbase := hbw1.size
      by_cases hlt : k < n
      · have hlt' : k < (cutAll 32 l).length := by rw [HN.out]; exact hlt
        obtain ⟨b, off, rfl, -, hc⟩ := (HV.out.below hbw1).2 (by omega)
        have h1 : wr.cell? ⟨b, off + k, none⟩ = some (.string (bs ((cutAll 32 l).getD k []))) := hc k _ (strs_get hlt')
        have c12 := C12.out k hlt' wr
        clear hc
        obtain ⟨S, hS⟩ : ∃ S, bs ((cutAll 32 l).getD k []) = S := ⟨_, rfl⟩
        rw [hS] at h1 c12
        clear hS
        cases hp : point ((cutAll 32 l).getD k []) with
        | none =>
          rw [hp] at c12
          simp only [ptI] at c12
          have HS := Lib.hid (seq_bad HNE.out hlt' hp)
          clear hp hpre hlt'
          go_wp2_with (go_at_call 21; (with_reducible refine c12.mono ?_); rintro e wa ⟨rfl, hba⟩)
          go_ret2
          exact ⟨hbel.trans (hba.mono hbel.size), .inr ⟨HS.out, rfl⟩⟩
        | some c =>
          rw [hp] at c12
          simp only [ptI] at c12
          have hm : ((cutAll 32 l).take (k + 1)).mapM point = some (cs ++ [c]) := by
            rw [mapM_take k hlt', hpre, hp]
            rfl
          have HM := Lib.hid hm
          have h63 : cs.length + 1 ≤ maxLen := by unfold maxLen; omega
          have h47 : (cs.length + 1) * 8 ≤ 140737488355328 := by omega
          clear hp hpre hlt' hm
          go_wp2_with (first
            | (go_at_call 21; (with_reducible refine c12.mono ?_); rintro e wa ⟨rfl, hba⟩; replace hown := own_below hown hba (Nat.le_refl _); have hbs := Nat.le_trans hbase hba.size)
            | (at_builtin; refine append_lit rfl _ _ 33 rfl w1.heap.size 3 i0 (.int .i64 0) 1 8 Tryz.underlying33 hi hz0 hz1 hz2 rfl (by decide) _ _ _ rfl hown [.int .i64 (c : Int)] rfl (by simp [Value.oneCell']) rfl h63 h47 hbs ?_; intro v' w2 hown' hg'))
          go_roundw
          case rel =>
            have e1 : cs.length + 1 = (cs ++ [c]).length := by simp
            rw [i64s_snoc, e1] at hown'
            exact ⟨hg' _ _ (hbel.trans (hba.mono hbel.size)) hb1.size, hg' _ _ (hbw1.trans (hba.mono hbw1.size)) (Nat.le_refl _), k + 1, cs ++ [c], by go_num, by rw [HN.out]; omega, HM.out, by simp; omega, hown'⟩
          case measure => simp [intOf]; omega
      · have hke : k = n := by omega
        subst hke
        have HS := Lib.hid (seq_end HNE.out HN.out.symm hpre)
        clear hpre
        go_wp2
        go_ret2
        obtain ⟨Av, cv, rfl, _, hV, _⟩ := own_vals hown
        exact ⟨hbel, .inl ⟨cs, Av, cv, HS.out, rfl, hV, fun a e => by have := (hown.lt a.block (by rw [e]; rfl)).1; have := hb1.size; omega⟩⟩
end Go.Proofs.YtkcpnnfbhcklpaaGreatDoor
