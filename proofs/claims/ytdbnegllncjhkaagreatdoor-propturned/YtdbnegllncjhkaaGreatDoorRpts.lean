/- What the document's own Points hands back. -/
import Derived.Test.YtdbnegllncjhkaaGreatDoorPiter
import Derived.Test.YtdbnegllncjhkaaGreatDoorRsort
import Derived.Test.YtdbnegllncjhkaaGreatDoorInts
namespace Go.Proofs.YtdbnegllncjhkaaGreatDoor
open Go.RowKit

theorem info3 : (Tryz.prog.info? 3).map (fun i => (i.zero, i.size, i.bytes)) = some (some (.int .i64 0), 1, 8) := by kernel_rfl
/-- So far: what was gathered ahead of a span, and its first j code points; at most so many. -/
def upQ (ps : List Int) (s : Sp) (most j : Nat) : List Int := (ps ++ (upTo s.a s.b).take j).take most
theorem upQ_step {ps : List Int} {s : Sp} {most j : Nat} (hl : (upQ ps s most j).length < most) (hj : s.a + j ≤ s.b) : upQ ps s most (j + 1) = upQ ps s most j ++ [s.a + (j : Int)] := by
  unfold upQ at hl ⊢
  rw [List.length_take] at hl
  have h1 : (ps ++ (upTo s.a s.b).take j).length < most := by omega
  rw [List.take_of_length_le (show (ps ++ (upTo s.a s.b).take j).length ≤ most by omega), upTo_take hj, ← List.append_assoc, List.take_of_length_le]
  rw [List.length_append, List.length_singleton]
  omega
theorem upQ_end {ps : List Int} {s : Sp} {most j : Nat} (h : ¬ (upQ ps s most j).length < most ∨ s.b < s.a + j) : upQ ps s most j = (ps ++ upTo s.a s.b).take most := by
  unfold upQ at h ⊢
  rcases h with h | h
  · rw [List.length_take] at h
    have h1 : most ≤ (ps ++ (upTo s.a s.b).take j).length := by omega
    have e : ps ++ upTo s.a s.b = (ps ++ (upTo s.a s.b).take j) ++ (upTo s.a s.b).drop j := by rw [List.append_assoc, List.take_append_drop]
    rw [e, List.take_append_of_le_length h1]
  · rw [upTo_all h]
theorem upQ_zero (ps : List Int) (s : Sp) (most : Nat) : upQ ps s most 0 = ps.take most := by unfold upQ; simp
theorem upQ_length (ps : List Int) (s : Sp) (most j : Nat) : (upQ ps s most j).length ≤ most := by unfold upQ; rw [List.length_take]; omega
theorem nums_snoc (zs : List Int) (z : Int) : nums .i64 zs ++ [.int .i64 z] = nums .i64 (zs ++ [z]) := by simp [nums]
theorem nums_len (zs : List Int) : (nums .i64 zs).length = zs.length := by simp [nums]
def RpRel (r : List Sp) (v : List UInt8) (most n : Nat) (w : World) (o i : Value) (wr : World) : Prop :=
  Below w.heap.size w wr ∧ ∃ k : Nat, i = .int .i64 k ∧ k ≤ n ∧ wr.ownsRow w.heap.size 3 1 o ((pointsOf (r.take k) v).take most).length (nums .i64 ((pointsOf (r.take k) v).take most))
def RqRel (ps : List Int) (s : Sp) (most : Nat) (w : World) (o i : Value) (wr : World) : Prop :=
  Below w.heap.size w wr ∧ ∃ j : Nat, i = .int .i64 (s.a + j) ∧ s.a + j ≤ s.b + 1 ∧ wr.ownsRow w.heap.size 3 1 o (upQ ps s most j).length (nums .i64 (upQ ps s most j))
def RpPost (r : List Sp) (v : List UInt8) (most : Nat) (w : World) (e : Ending) (w' : World) : Prop :=
  Below w.heap.size w w' ∧ ∃ A c, e = .returned (.slice A ((pointsOf r v).take most).length c) ∧ Vals w' A ((pointsOf r v).take most).length (nums .i64 ((pointsOf r v).take most))
theorem my8 {a : Nat} (h : a ≤ 200000) : a * 8 ≤ 140737488355328 := by omega
set_option maxRecDepth 100000 in
set_option maxHeartbeats 4000000 in
theorem points21 (A : Option Addr) (n ca most : Nat) (r : List Sp) (v : List UInt8) (w : World) (hV : SAt w A n r) (hn : n ≤ 100000) (hm : most ≤ 5000) (hg : Good r) :
    Calls Tryz.prog 14 #[.slice A n ca, .string (bs v), .int .i64 most] w (RpPost r v most w) := by
  obtain ⟨i0, hi, hz0, hz1, hz2⟩ := info_parts info3
  have HV := Lib.hid hV
  have HL := Lib.hid hV.1
  have HG := Lib.hid hg
  obtain ⟨V, hVV⟩ : ∃ V, bs v = V := ⟨_, rfl⟩
  have HVV := Lib.hid hVV
  rw [hVV]
  clear hV hg hVV
  go_enter Tryz.func14, Tryz.ntmps14
  go_wp2
  go_loopw [7, 8] (fun o i wr => RpRel r v most n w o i wr) (fun _ i _ => n - (intOf i).toNat)
  case atStart => exact ⟨Below.refl _ _, 0, rfl, Nat.zero_le _, by rw [List.take_zero, points_nil, List.take_nil]; exact World.ownsRow_nil _ _ _ _⟩
  case round =>
    obtain ⟨hbel, k, rfl, hkn, hown⟩ := hrel
    obtain ⟨Ao, co, rfl, hAo⟩ := own_shape hown
    by_cases hlt : k < n
    · obtain ⟨s, hs⟩ := getSp (ls := r) (k := k) (by rw [HL.out]; exact hlt)
      obtain ⟨f1, f2, f3, f4⟩ := HG.out.2 s (List.mem_of_getElem? hs)
      obtain ⟨b, off, rfl, hblt, hc⟩ := (HV.out.below hbel).2 (by omega)
      obtain ⟨h1, h2, h3⟩ := hc k s hs
      have ht : r.take (k + 1) = r.take k ++ [s] := by
        have hlt' := (List.getElem?_eq_some_iff.1 hs).1
        have e : r[k] = s := (List.getElem?_eq_some_iff.1 hs).2
        rw [List.take_succ_eq_append_getElem hlt', e]
      have heq := bs_eq s.v v
      rw [HVV.out] at heq
      by_cases hsv : s.v = v
      · have hps := pts_yes (pre := r.take k) hsv f4
        rw [← ht] at hps
        have hTV : bs s.v = V := by rw [hsv]; exact HVV.out
        have hemp := bs_some f4
        rw [hTV] at h3 hemp
        have H0 : Hid (RqRel (pointsOf (r.take k) v) s most w (.slice Ao ((pointsOf (r.take k) v).take most).length co) (.int .i64 s.a) wr) := Lib.hid ⟨hbel, 0, by simp, by omega, by rw [upQ_zero]; exact hown⟩
        have HPS := Lib.hid hps
        have hbW : b < w.heap.size := by
          obtain ⟨b', off', e', hlt', -⟩ := HV.out.2 (by omega)
          cases e'
          exact hlt'
        have d1 := h1
        clear hown hAo hc hs ht heq hps hTV hsv
        obtain ⟨L, hL⟩ : ∃ L, ((pointsOf (r.take k) v).take most).length = L := ⟨_, rfl⟩
        rw [hL] at H0 ⊢
        clear hL
        have hcell : ∀ wq, Below w.heap.size w wq → wq.cell? ⟨b, off + k * 3 + 1, none⟩ = some (.int .i64 s.b) ∧ wq.cell? ⟨b, off + k * 3 + 2, none⟩ = some (.string V) := fun wq hq =>
          ⟨((hq.cell (p := ⟨b, off + k * 3 + 1, none⟩) hbW).trans ((hbel.cell (p := ⟨b, off + k * 3 + 1, none⟩) hbW).symm)).trans h2, ((hq.cell (p := ⟨b, off + k * 3 + 2, none⟩) hbW).trans ((hbel.cell (p := ⟨b, off + k * 3 + 2, none⟩) hbW).symm)).trans h3⟩
        have HCE := Lib.hid hcell
        clear hcell hbel
        go_wp2
        clear d1 h1 h2 h3
        go_loopw [7, 9] (fun o i wq => RqRel (pointsOf (r.take k) v) s most w o i wq) (fun _ i _ => (s.b + 1 - intOf i).toNat)
        case atStart => exact H0.out
        case round =>
          clear H0
          obtain ⟨hbq, j, rfl, hj, hoq⟩ := hrel
          obtain ⟨Aq, cq, rfl, hAq⟩ := own_shape hoq
          obtain ⟨h2, h3⟩ := HCE.out _ hbq
          have HBQ := Lib.hid hbq
          have HOQ := Lib.hid hoq
          have hql := upQ_length (pointsOf (r.take k) v) s most j
          have hst := fun a b => upQ_step (ps := pointsOf (r.take k) v) (s := s) (most := most) (j := j) a b
          have hen := fun a => upQ_end (ps := pointsOf (r.take k) v) (s := s) (most := most) (j := j) a
          have HST := Lib.hid hst
          have HEN := Lib.hid hen
          have hs2 := hbq.size
          clear hbq hoq hAq hst hen
          obtain ⟨Q, hQ⟩ : ∃ Q, upQ (pointsOf (r.take k) v) s most j = Q := ⟨_, rfl⟩
          rw [hQ] at HOQ hql HST HEN ⊢
          clear hQ
          have hfin : Q = (pointsOf (r.take k) v ++ upTo s.a s.b).take most → RpRel r v most n w (.slice Aq Q.length cq) (.int .i64 ((k : Int) + 1)) ‹World› := fun e =>
            ⟨HBQ.out, k + 1, by go_num, by omega, by rw [HPS.out, ← e]; exact HOQ.out⟩
          have HFI := Lib.hid hfin
          clear hfin
          by_cases hcb : s.a + j ≤ s.b
          · obtain ⟨C, hC⟩ : ∃ C, s.a + (j : Int) = C := ⟨_, rfl⟩
            have HC := Lib.hid hC
            by_cases hqm : Q.length < most
            · have hap := HST.out hqm hcb
              have hsn := nums_snoc Q (s.a + j)
              rw [← hap] at hsn
              rw [hC] at hcb hj hap hsn ⊢
              have hC0 : 0 ≤ C := by omega
              have hl2 : Q.length + 1 ≤ 200000 := by omega
              have m3 := mx hl2
              have m4 := my8 hl2
              have hlen : (upQ (pointsOf (r.take k) v) s most (j + 1)).length = Q.length + 1 := by rw [hap]; simp
              have HSN := Lib.hid hsn
              have HLE := Lib.hid hlen
              obtain ⟨L, hL⟩ : ∃ L, Q.length = L := ⟨_, rfl⟩
              rw [hL] at HOQ hqm m3 m4 HLE ⊢
              clear hap hsn hC hlen hL hql HST HEN HFI
              go_wp2_with (at_builtin; refine append_lit rfl _ _ 36 rfl w.heap.size 3 i0 (.int .i64 0) 1 8 Tryz.underlying36 hi hz0 hz1 hz2 rfl (by decide) _ _ _ rfl HOQ.out [.int .i64 C] rfl (by simp [Value.oneCell']) rfl m3 m4 hs2 ?_; intro v2 w2 ho2 hg2)
              go_roundw
              case rel => exact ⟨hg2 _ _ HBQ.out (Nat.le_refl _), j + 1, by rw [← HC.out, Int.add_assoc]; rfl, by have := HC.out; omega, by rw [HLE.out, ← HSN.out]; exact ho2⟩
              case measure => simp [intOf]; omega
            · have hap := HEN.out (.inl hqm)
              have R := Lib.hid (HFI.out hap)
              rw [hC] at hcb hj ⊢
              obtain ⟨L, hL⟩ : ∃ L, Q.length = L := ⟨_, rfl⟩
              rw [hL] at hqm R ⊢
              clear hap hC hL hql HST HEN HFI HOQ
              go_wp2
              go_roundw
              case rel => exact R.out
              case measure => simp [intOf]; omega
          · have hap := HEN.out (.inr (by omega))
            have R := Lib.hid (HFI.out hap)
            obtain ⟨C, hC⟩ : ∃ C, s.a + (j : Int) = C := ⟨_, rfl⟩
            rw [hC] at hcb hj ⊢
            obtain ⟨L, hL⟩ : ∃ L, Q.length = L := ⟨_, rfl⟩
            rw [hL] at R ⊢
            clear hap hC hL hql HST HEN HFI HOQ
            go_wp2
            go_roundw
            case rel => exact R.out
            case measure => simp [intOf]; omega
      · have hps := pts_no (pre := r.take k) hsv
        rw [← ht] at hps
        rw [decide_eq_false hsv] at heq
        have hne : ¬ (bs s.v).toList = V.toList := by
          intro e
          rw [e] at heq
          simp at heq
        have R : Hid (RpRel r v most n w (.slice Ao ((pointsOf (r.take k) v).take most).length co) (.int .i64 ((k : Int) + 1)) wr) := Lib.hid ⟨hbel, k + 1, by go_num, by omega, by rw [hps]; exact hown⟩
        obtain ⟨T, hT⟩ : ∃ T, bs s.v = T := ⟨_, rfl⟩
        rw [hT] at h3 heq hne
        obtain ⟨L, hL⟩ : ∃ L, ((pointsOf (r.take k) v).take most).length = L := ⟨_, rfl⟩
        rw [hL] at R ⊢
        clear hown hAo hc hs ht hps hsv hL hT hbel
        go_wp2
        go_loopw [7, 9] (fun o i wq => o = .slice Ao L co ∧ i = .int .i64 s.a ∧ wr = wq) (fun _ _ _ => 0)
        case atStart => exact ⟨rfl, rfl, rfl⟩
        case round =>
          obtain ⟨rfl, rfl, rfl⟩ := hrel
          by_cases hqm : L < most
          · go_wp2
            go_roundw
            case rel => exact R.out
            case measure => simp [intOf]; omega
          · go_wp2
            go_roundw
            case rel => exact R.out
            case measure => simp [intOf]; omega
    · have hke : k = n := by omega
      subst hke
      have htk : r.take k = r := List.take_of_length_le (by rw [HL.out]; exact Nat.le_refl _)
      rw [htk] at hown ⊢
      clear htk
      obtain ⟨A', c', e', -, hVs, -⟩ := own_vals hown
      injection e' with e1 e2 e3
      subst e1 e3
      have HVs := Lib.hid hVs
      have HB := Lib.hid hbel
      obtain ⟨L, hL⟩ : ∃ L, ((pointsOf r v).take most).length = L := ⟨_, rfl⟩
      rw [hL]
      have HLL := Lib.hid hL
      clear hown hAo hVs hbel hL
      go_wp2
      go_ret
      exact ⟨HB.out, Ao, co, by rw [HLL.out]; rfl, HVs.out⟩
end Go.Proofs.YtdbnegllncjhkaaGreatDoor
