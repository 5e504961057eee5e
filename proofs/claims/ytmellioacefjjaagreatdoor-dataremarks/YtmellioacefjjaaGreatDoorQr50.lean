/- What a pair makes, plain: what DataMakes asks of it. -/
import Derived.Test.YtmellioacefjjaaGreatDoorQr45
import Derived.Test.YtmellioacefjjaaGreatDoorQr26
namespace Go.Proofs.YtmellioacefjjaaGreatDoor
open Go.RowKit

theorem readp_err (f : Nat → List UInt8) : ∀ n i, n + i = 5 → readP f n i = ⟨0, 0, 0⟩ ∨ (¬ (readP f n i).err = 0 ∧ 1 ≤ (readP f n i).file ∧ (readP f n i).file ≤ 7)
  | 0, i, _ => by
    by_cases h : (cfF f).err = 0
    · left; rw [readP, if_pos h]
    · right; rw [readP, if_neg h]; exact ⟨h, by show (1 : Int) ≤ 7; omega, by show (7 : Int) ≤ 7; omega⟩
  | n + 1, i, hi => by
    by_cases h : (prF f i).err = 0
    · rw [readP, if_pos h]; exact readp_err f n (i + 1) (by omega)
    · right; rw [readP, if_neg h]; exact ⟨h, by show (1 : Int) ≤ 2 + i; omega, by show (2 : Int) + i ≤ 7; omega⟩
/-- Where a bundle is wrong. -/
theorem load_wrong {f : Nat → List UInt8} {x : Wh} (h : loadOf f = (x, none)) : ¬ x.err = 0 ∧ 1 ≤ x.file ∧ x.file ≤ 7 := by
  rcases read_load f with ⟨h1, h2⟩ | ⟨h1, h2⟩
  · rw [h2] at h
    rcases load2_join (uF f).rows (spF f) (cfF f).rows with ⟨-, ms, -, h3⟩ | ⟨h3, h4⟩
    · rw [h3] at h; injection h with _ h; cases h
    · rw [h4] at h
      injection h with h _
      subst h
      exact ⟨h3, by show (1 : Int) ≤ 1; omega, by show (1 : Int) ≤ 7; omega⟩
  · rw [h2] at h
    injection h with h _
    subst h
    by_cases hu : (uF f).err = 0
    · have e : readOf f = readP f 5 0 := by rw [readOf, if_pos hu]
      rw [e] at h1 ⊢
      rcases readp_err f 5 0 rfl with h | h
      · rw [h] at h1; exact absurd rfl h1
      · exact h
    · rw [readOf, if_neg hu]; exact ⟨hu, by show (1 : Int) ≤ 1; omega, by show (1 : Int) ≤ 7; omega⟩
/-- What a right bundle's data is. -/
theorem load_right {f : Nat → List UInt8} {d : Dt} (h : loadOf f = (⟨0, 0, 0⟩, some d)) : ¬ touA d.ps = true ∧ mkP (d.sp 0) d.ps [] d.ps = some d.ms := by
  rcases read_load f with ⟨h1, h2⟩ | ⟨h1, h2⟩
  · rw [h2] at h
    rcases load2_join (uF f).rows (spF f) (cfF f).rows with ⟨h4, ms, h5, h3⟩ | ⟨h3, h4⟩
    · rw [h3] at h
      injection h with _ h
      injection h with h
      subst h
      refine ⟨fun ht => ?_, h5⟩
      unfold joinE at h4
      rw [if_pos ht] at h4
      cases h4
    · rw [h4] at h; injection h with _ h; cases h
  · rw [h2] at h; injection h with _ h; cases h
/-- What is found in what pairs make. -/
theorem mkp_found {ex : List Pq.Sp} {ps : List Uc.Pr} : ∀ (l : List Uc.Pr) (out ms : List (Int × Int × Int)), mkP ex ps out l = some ms →
    (∀ x y c, findM out x y = some c → findM ms x y = some c) ∧ (∀ q ∈ l, ¬ idle ex ps q → findM ms (dec0 q) (dec1 q) = some q.a) ∧ (∀ x y c, findM ms x y = some c → findM out x y = some c ∨ ∃ q ∈ l, ¬ idle ex ps q ∧ q.a = c ∧ dec0 q = x ∧ dec1 q = y)
  | [], out, ms, h => by
    rw [mkP] at h
    injection h with h
    subst h
    refine ⟨fun _ _ _ h => h, ?_, ?_⟩
    · intro q hq; cases hq
    · intro x y c h; exact .inl h
  | r :: l, out, ms, h => by
    by_cases hi : idle ex ps r
    · rw [mkp_idle hi] at h
      obtain ⟨h1, h2, h3⟩ := mkp_found l out ms h
      refine ⟨h1, fun q hq hn => ?_, fun x y c hc => ?_⟩
      · rcases List.mem_cons.1 hq with rfl | hq
        · exact absurd hi hn
        · exact h2 q hq hn
      · rcases h3 x y c hc with h | ⟨q, hq, hh⟩
        · exact .inl h
        · exact .inr ⟨q, List.mem_cons_of_mem _ hq, hh⟩
    · by_cases hn : findM out (dec0 r) (dec1 r) = none
      · rw [mkp_add hi hn] at h
        obtain ⟨h1, h2, h3⟩ := mkp_found l _ ms h
        have hr : findM (out ++ [(r.a, dec0 r, dec1 r)]) (dec0 r) (dec1 r) = some r.a := by
          rw [findM_snoc, hn, if_neg (by simp), if_pos ⟨rfl, rfl⟩]
        refine ⟨fun x y c hc => h1 x y c ?_, fun q hq hq2 => ?_, fun x y c hc => ?_⟩
        · rw [findM_snoc, hc]; rfl
        · rcases List.mem_cons.1 hq with rfl | hq
          · exact h1 _ _ _ hr
          · exact h2 q hq hq2
        · rcases h3 x y c hc with h | ⟨q, hq, hh⟩
          · rw [findM_snoc] at h
            split at h
            · exact .inl h
            · split at h
              · rename_i e
                injection h with h
                exact .inr ⟨r, List.mem_cons_self .., hi, h, e.1, e.2⟩
              · cases h
          · exact .inr ⟨q, List.mem_cons_of_mem _ hq, hh⟩
      · rw [mkp_twice hi hn] at h; cases h
theorem good_same {ps : List Uc.Pr} (h : Uc.Good ps) {q r : Uc.Pr} (hq : q ∈ ps) (hr : r ∈ ps) (e : q.a = r.a) : q = r := by
  rw [← pat_row h q hq, ← pat_row h r hr, e]
/-- What Makes tells of a row's own pair. -/
theorem makes_row {ps : List Uc.Pr} {ex : List Pq.Sp} {ms : List (Int × Int × Int)} (hg : Uc.Good ps) (hm : mkP ex ps [] ps = some ms) {q : Uc.Pr} (hq : q ∈ ps) :
    (findM ms (dec0 q) (dec1 q) = some q.a ∧ ¬ idle ex ps q) ∨ (∃ c, findM ms (dec0 q) (dec1 q) = some c ∧ ¬ c = q.a) ∨ (findM ms (dec0 q) (dec1 q) = none ∧ idle ex ps q) := by
  obtain ⟨-, h2, h3⟩ := mkp_found ps [] ms hm
  cases hf : findM ms (dec0 q) (dec1 q) with
  | none =>
    refine .inr (.inr ⟨rfl, ?_⟩)
    by_cases hi : idle ex ps q
    · exact hi
    · rw [h2 q hq hi] at hf; cases hf
  | some c =>
    by_cases hc : c = q.a
    · subst hc
      refine .inl ⟨rfl, ?_⟩
      rcases h3 _ _ _ hf with h | ⟨r, hr, hi, ha, -⟩
      · cases h
      · rw [good_same hg hq hr ha.symm]; exact hi
    · exact .inr (.inl ⟨c, rfl, hc⟩)
/-- What any pair makes has just that pair as its decomposition. -/
theorem makes_any {ps : List Uc.Pr} {ex : List Pq.Sp} {ms : List (Int × Int × Int)} (hg : Uc.Good ps) (hm : mkP ex ps [] ps = some ms) {x y c : Int} (hf : findM ms x y = some c) :
    ((Uc.patOf ps c).dec.map fun c : Nat => (c : Int)) = [x, y] := by
  obtain ⟨-, -, h3⟩ := mkp_found ps [] ms hm
  rcases h3 _ _ _ hf with h | ⟨r, hr, hi, ha, hx, hy⟩
  · cases h
  · rw [← ha, pat_row hg r hr, ← hx, ← hy]
    have hl : r.dec.length = 2 := Classical.byContradiction (fun h => hi (.inl h))
    unfold dec0 dec1
    match hh : r.dec, hl with
    | [u, v], _ => rfl
/-- No row of Hangul has what it must not. -/
theorem row_kor {ps : List Uc.Pr} (ht : ¬ touA ps = true) {q : Uc.Pr} (hq : q ∈ ps) (h : 0 < q.dec.length ∨ ¬ q.ccc = 0) : korB q.a = false ∧ korB q.b = false := by
  have hb : ¬ badK q := fun hb => ht (by unfold touA; exact List.any_eq_true.2 ⟨q, hq, decide_eq_true hb⟩)
  have ht : touB q.a q.b = false := by
    cases e : touB q.a q.b with
    | false => rfl
    | true => exact absurd ⟨h, e⟩ hb
  unfold touB at ht
  simp only [Bool.or_eq_false_iff] at ht
  exact ht.1
end Go.Proofs.YtmellioacefjjaaGreatDoor
