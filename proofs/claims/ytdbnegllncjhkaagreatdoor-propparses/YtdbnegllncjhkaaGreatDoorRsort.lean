/- Appending any slice of spans onto a row of the call's own; lists in order; no program is spoken of. -/
/- What the document's own Sorted hands back. -/
import Derived.Test.YtdbnegllncjhkaaGreatDoorSat
import Derived.Laws.AppendOwnNone
import Derived.Test.YtdbnegllncjhkaaGreatDoorProg
import Derived.BigQuiet
import Derived.IntWalk
namespace Go.Proofs.YtdbnegllncjhkaaGreatDoor
open Go.RowKit

theorem spvs_at : ∀ {ls : List Sp} {j : Nat} {u : Value}, (spvs ls)[j]? = some u → ∃ q s, ls[q]? = some s ∧ ((j = q * 3 ∧ u = .int .i64 s.a) ∨ (j = q * 3 + 1 ∧ u = .int .i64 s.b) ∨ (j = q * 3 + 2 ∧ u = .string (bs s.v)))
  | [], j, u, h => by simp [spvs] at h
  | s :: ls, 0, u, h => by rw [spvs_cons] at h; simp at h; exact ⟨0, s, rfl, .inl ⟨rfl, h.symm⟩⟩
  | s :: ls, 1, u, h => by rw [spvs_cons] at h; simp at h; exact ⟨0, s, rfl, .inr (.inl ⟨rfl, h.symm⟩)⟩
  | s :: ls, 2, u, h => by rw [spvs_cons] at h; simp at h; exact ⟨0, s, rfl, .inr (.inr ⟨rfl, h.symm⟩)⟩
  | s :: ls, j + 3, u, h => by
    rw [spvs_cons] at h
    obtain ⟨q, t, hq, ht⟩ := spvs_at (ls := ls) (j := j) (u := u) (by simpa using h)
    refine ⟨q + 1, t, by simpa using hq, ?_⟩
    rcases ht with ⟨rfl, e⟩ | ⟨rfl, e⟩ | ⟨rfl, e⟩
    · exact .inl ⟨by omega, e⟩
    · exact .inr (.inl ⟨by omega, e⟩)
    · exact .inr (.inr ⟨by omega, e⟩)
theorem add_off (b off j : Nat) : (⟨b, off, none⟩ : Addr).add j = ⟨b, off + j, none⟩ := by unfold Addr.add; split <;> simp_all
theorem sat_cells {w : World} {ad : Addr} {m : Nat} {ls : List Sp} (h : SAt w (some ad) m ls) : ∀ j u, (spvs ls)[j]? = some u → w.cell? (ad.add j) = some u := by
  intro j u hu
  obtain ⟨q, s, hq, hs⟩ := spvs_at hu
  have hlt := (List.getElem?_eq_some_iff.1 hq).1
  obtain ⟨b, off, e, _, hc⟩ := h.2 (by have := h.1; omega)
  obtain rfl : ad = ⟨b, off, none⟩ := by injection e
  obtain ⟨h1, h2, h3⟩ := hc q s hq
  rw [add_off]
  rcases hs with ⟨rfl, rfl⟩ | ⟨rfl, rfl⟩ | ⟨rfl, rfl⟩
  · exact h1
  · exact h2
  · exact h3
theorem append_spans {P : Program} {w : World} {ops : Array Oper} {rest : List Oper} {o : Oper} {a : Act} {Q : Exit → Act → World → Prop} (hgd : o.guard = none) (s x : Operand) (t : TypeId)
    (ho : o.op = .call { callee := .builtin .append, args := #[s, x], argTypes := #[t, t] })
    (base : Nat) (e : TypeId) (i : TypeInfo) (z : Value) (bytes : Nat) (ht : P.underlying t = some (.slice e)) (hi : P.info? e = some i) (hz : i.zero = some z)
    (hsize : i.size = 3) (hby : i.bytes = bytes) (hzs : z.cells.size = 3)
    (v : Value) (n : Nat) (xs : List Value) (hs : a.eval s = v) (hown : w.ownsRow base e 3 v n xs)
    (A : Option Addr) (m c : Nat) (ls : List Sp) (hx : a.eval x = .slice A m c) (hN : SAt w A m ls) (hA : A = none → c = 0)
    (h63 : n + m ≤ maxLen) (hbytes : (n + m) * bytes ≤ 140737488355328) (hbase : base ≤ w.heap.size)
    (h : ∀ v' w', w'.ownsRow base e 3 v' (n + m) (xs ++ spvs ls) → w.grownBy w' v.ownBlock → wpList P ops Q rest (a.put o.dst v') w') : wpList P ops Q (o :: rest) a w := by
  cases A with
  | none =>
    have hm : m = 0 := by
      rcases Nat.eq_zero_or_pos m with h0 | h0
      · exact h0
      · obtain ⟨b, off, e, _⟩ := hN.2 h0
        cases e
    subst hm
    have hc := hA rfl
    subst hc
    obtain rfl : ls = [] := List.eq_nil_of_length_eq_zero hN.1
    refine wpList_append_own_none hgd s x t ho base e i 3 ht hi v n xs hs hown hx (h v w ?_ (World.grownBy.refl w _))
    simpa [spvs] using hown
  | some ad =>
    refine wpList_append_own w hgd s x t ho base e i z 3 bytes ht hi hz hsize hby hzs (by decide) v n xs hs hown ad m c (spvs ls) hx (by rw [spvs_length, hN.1]) (sat_cells hN) ?_ h63 hbytes hbase (fun v' w' h1 h2 _ => h v' w' h1 h2)
    intro u hu
    obtain ⟨j, hj⟩ := List.mem_iff_getElem?.1 hu
    obtain ⟨q, t, _, ⟨_, rfl⟩ | ⟨_, rfl⟩ | ⟨_, rfl⟩⟩ := spvs_at hj <;> rfl
theorem SAt.take {w : World} {A : Option Addr} {n k : Nat} {ls : List Sp} (h : SAt w A n ls) (hk : k ≤ n) : SAt w A k (ls.take k) := by
  refine ⟨by rw [List.length_take, h.1]; omega, fun h0 => ?_⟩
  obtain ⟨b, off, rfl, hlt, hc⟩ := h.2 (by omega)
  refine ⟨b, off, rfl, hlt, fun j s hj => ?_⟩
  rw [List.getElem?_take] at hj
  split at hj
  · exact hc j s hj
  · cases hj
theorem SAt.drop {w : World} {b off n k : Nat} {ls : List Sp} (h : SAt w (some ⟨b, off, none⟩) n ls) (hk : k ≤ n) : SAt w (some ⟨b, off + k * 3, none⟩) (n - k) (ls.drop k) := by
  refine ⟨by rw [List.length_drop, h.1], fun h0 => ?_⟩
  obtain ⟨b', off', e, hlt, hc⟩ := h.2 (by omega)
  cases e
  refine ⟨b, off + k * 3, rfl, hlt, fun j s hj => ?_⟩
  rw [List.getElem?_drop] at hj
  have := hc (k + j) s hj
  rw [show off + (k + j) * 3 = off + k * 3 + j * 3 by omega] at this
  exact this
/-! Lists in order. -/
def Low (l : List Sp) : Prop := l.Pairwise fun s t => s.a ≤ t.a
theorem ins_low {s : Sp} {l : List Sp} (h : Low l) : Low (ins s l) := by
  induction l with
  | nil => simp [ins, Low]
  | cons x l ih =>
    have hp := List.pairwise_cons.1 h
    unfold ins
    rw [List.takeWhile_cons, List.dropWhile_cons]
    by_cases hx : x.a ≤ s.a
    · rw [if_pos (by simpa using hx), if_pos (by simpa using hx), List.cons_append]
      refine List.pairwise_cons.2 ⟨fun t ht => ?_, ih hp.2⟩
      rcases (ins_mem (s := s) (l := l)).1 ht with rfl | ht
      · exact hx
      · exact hp.1 t ht
    · rw [if_neg (by simpa using hx), if_neg (by simpa using hx), List.nil_append]
      refine List.pairwise_cons.2 ⟨fun t ht => ?_, h⟩
      rcases List.mem_cons.1 ht with rfl | ht
      · omega
      · have := hp.1 t ht
        omega
theorem sorted_low (l : List Sp) : Low (sorted l) := by
  unfold sorted
  have : ∀ (l acc : List Sp), Low acc → Low (l.foldl (fun acc s => ins s acc) acc) := by
    intro l
    induction l with
    | nil => intro acc h; exact h
    | cons s l ih => intro acc h; exact ih _ (ins_low h)
  exact this l [] List.Pairwise.nil
theorem low_take {l : List Sp} {k : Nat} {s : Sp} {x : Int} (h : Low l) (hs : l[k]? = some s) (hx : s.a ≤ x) : ∀ t ∈ l.take (k + 1), t.a ≤ x := by
  have hlt := (List.getElem?_eq_some_iff.1 hs).1
  have e : l[k] = s := (List.getElem?_eq_some_iff.1 hs).2
  intro t ht
  obtain ⟨j, hj, rfl⟩ := List.mem_iff_getElem.1 ht
  rw [List.length_take] at hj
  rw [List.getElem_take]
  rcases Nat.lt_or_ge j k with h1 | h1
  · have := List.pairwise_iff_getElem.1 h j k (by omega) hlt h1
    rw [e] at this
    omega
  · obtain rfl : j = k := by omega
    rw [e]; exact hx
theorem drop_head {l : List Sp} {k : Nat} {s : Sp} {x : Int} (hs : l[k]? = some s) (hx : x < s.a) : ∀ t, (l.drop k).head? = some t → x < t.a := by
  intro t ht
  rw [List.head?_drop, hs] at ht
  cases ht
  exact hx
theorem take_sorted {l : List Sp} {k : Nat} {s : Sp} (hs : l[k]? = some s) : sorted (l.take (k + 1)) = ins s (sorted (l.take k)) := by
  have hlt := (List.getElem?_eq_some_iff.1 hs).1
  have e : l[k] = s := (List.getElem?_eq_some_iff.1 hs).2
  rw [List.take_succ_eq_append_getElem hlt, e, sorted_snoc]
end Go.Proofs.YtdbnegllncjhkaaGreatDoor

namespace Go.Proofs.YtdbnegllncjhkaaGreatDoor
open Go.RowKit

theorem info44 : (Tryz.prog.info? 71).map (fun i => (i.zero, i.size, i.bytes)) = some (some (.agg #[.int .i64 0, .int .i64 0, .string ⟨#[]⟩]), 3, 32) := by kernel_rfl
def SrtRel (ls : List Sp) (w : World) (v i : Value) (wr : World) : Prop :=
  Below w.heap.size w wr ∧ ∃ k : Nat, i = .int .i64 k ∧ k ≤ ls.length ∧ wr.ownsRow w.heap.size 71 3 v k (spvs (sorted (ls.take k)))
def SrtPost (ls : List Sp) (w : World) (e : Ending) (w' : World) : Prop :=
  Below w.heap.size w w' ∧ ∃ A ca, e = .returned (.slice A ls.length ca) ∧ (A = none → ca = 0) ∧ SAt w' A ls.length (sorted ls)
theorem own_sat' {w : World} {base n : Nat} {e : TypeId} {v : Value} {ls : List Sp} (hl : ls.length = n) (ho : w.ownsRow base e 3 v n (spvs ls)) : (v = .slice none 0 0 ∧ n = 0) ∨ ∃ g c, v = .slice (some ⟨g, 0, none⟩) n c ∧ n ≤ c ∧ g < w.heap.size ∧ SAt w (some ⟨g, 0, none⟩) n ls := by
  subst hl
  rcases ho.2 with ⟨rfl, h0⟩ | ⟨g, cap, cur, rfl, _, hg, hcap, _⟩
  · exact .inl ⟨rfl, h0⟩
  · obtain ⟨A, c, e, hc, hS, _⟩ := own_sat ho
    injection e with e1 e2 e3
    subst e1 e3
    exact .inr ⟨g, cap, rfl, hcap, (Array.getElem?_eq_some_iff.1 hg).1, hS⟩

theorem mx {a : Nat} (h : a ≤ 200000) : a ≤ maxLen := by unfold maxLen; omega
theorem my {a : Nat} (h : a ≤ 200000) : a * 32 ≤ 140737488355328 := by omega
theorem own_base {w : World} {b b' : Nat} {e : TypeId} {size n : Nat} {v : Value} {xs : List Value} (h : w.ownsRow b e size v n xs) (hb : b' ≤ b) : w.ownsRow b' e size v n xs := by
  refine ⟨h.1, ?_⟩
  rcases h.2 with hn | ⟨g, cap, cur, rfl, hg, rest⟩
  · exact .inl hn
  · exact .inr ⟨g, cap, cur, rfl, Nat.le_trans hb hg, rest⟩
theorem srt_fin {os : List Sp} {s : Sp} {J : Nat} {T : ByteArray} (hI : ins s os = os.take J ++ s :: os.drop J) (hT : bs s.v = T) : ([] ++ spvs (os.take J) ++ [.int .i64 s.a, .int .i64 s.b, .string T]) ++ spvs (os.drop J) = spvs (ins s os) := by
  rw [hI, ← hT, List.nil_append, spvs_snoc, spvs_app]
  simp
theorem srt_rel {ls os : List Sp} {s : Sp} {J k n : Nat} {T : ByteArray} {w W w3 : World} {v : Value} (hI : ins s os = os.take J ++ s :: os.drop J) (hT : bs s.v = T) (hS : sorted (ls.take (k + 1)) = ins s os) (hk : k < ls.length) (hb : Below w.heap.size w W) (hb3 : Below W.heap.size W w3)
    (hn : n = k + 1) (ho : w3.ownsRow W.heap.size 71 3 v n (([] ++ spvs (os.take J) ++ [.int .i64 s.a, .int .i64 s.b, .string T]) ++ spvs (os.drop J))) : SrtRel ls w v (.int .i64 ((k : Int) + 1)) w3 := by
  rw [srt_fin hI hT, ← hS, hn] at ho
  exact ⟨hb.trans (hb3.mono hb.size), k + 1, by go_num, hk, own_base ho hb.size⟩

set_option maxRecDepth 100000 in
set_option maxHeartbeats 2500000 in
theorem sorted24 (A : Option Addr) (n ca : Nat) (ls : List Sp) (w : World) (hV : SAt w A n ls) (hn : n ≤ 100000) :
    Calls Tryz.prog 29 #[.slice A n ca] w (SrtPost ls w) := by
  obtain ⟨i0, hi, hz0, hz1, hz2⟩ := info_parts info44
  have HV := Lib.hid hV
  have HL := Lib.hid hV.1
  clear hV
  go_enter Tryz.func29, Tryz.ntmps29
  go_wp2
  go_loopw [3, 4] (fun v i wr => SrtRel ls w v i wr) (fun _ i _ => n - (intOf i).toNat)
  case atStart => exact ⟨Below.refl _ _, 0, rfl, Nat.zero_le _, World.ownsRow_nil _ _ _ _⟩
  case round =>
    obtain ⟨hbel, k, rfl, hkn, hown⟩ := hrel
    rw [HL.out] at hkn
    have hol : (sorted (ls.take k)).length = k := by rw [sorted_length, List.length_take, HL.out]; omega
    by_cases hlt : k < n
    · obtain ⟨b, off, rfl, hblt, hc⟩ := (HV.out.below hbel).2 (by omega)
      obtain ⟨s, hs⟩ := getSp (ls := ls) (k := k) (by rw [HL.out]; exact hlt)
      obtain ⟨h1, h2, h3⟩ := hc k s hs
      have HSO := Lib.hid (take_sorted hs)
      have hlow := sorted_low (ls.take k)
      obtain ⟨os, hos⟩ : ∃ os, sorted (ls.take k) = os := ⟨_, rfl⟩
      rw [hos] at hown hol HSO hlow
      have HLOW := Lib.hid hlow
      have HOL := Lib.hid hol
      have HOW := Lib.hid hown
      clear hc hs hos hlow
      rcases own_sat' hol hown with ⟨rfl, h0⟩ | ⟨g, c, rfl, hkc, hg, hS⟩
      · obtain rfl : os = [] := List.eq_nil_of_length_eq_zero (by rw [hol]; exact h0)
        have H0 := Lib.hid h0
        clear hol hown HOW h0
        obtain ⟨T, hT⟩ : ∃ T, bs s.v = T := ⟨_, rfl⟩
        rw [hT] at h3
        have HT := Lib.hid hT
        clear hT
        go_wp2
        go_loopw [5] (fun i wq => ∃ q : Nat, i = .int .i64 0 ∧ wq = wr.drewN q) (fun i _ => (intOf i).toNat)
        case atStart => exact ⟨0, rfl, rfl⟩
        case round =>
          obtain ⟨q, rfl, rfl⟩ := hrel
          have HI := Lib.hid (ins_at (s := s) (l := []) (k := 0) (Nat.le_refl _) (by simp) (by simp))
          go_wp2
          go_quiet (fail)
          have n1 : 0 + 0 ≤ 200000 := by have := H0.out; omega
          have n2 : 0 + 0 + 1 ≤ 200000 := by have := H0.out; omega
          have n3 : 0 + 0 + 1 + 0 ≤ 200000 := by have := H0.out; omega
          have nk : 0 + 0 + 1 + 0 = k + 1 := by have := H0.out; omega
          have NK := Lib.hid nk
          clear nk
          have hW : Below wr.heap.size wr ((wr.drewN q).drewN nq) := below_drewN (below_drewN (Below.refl _ _) q) nq
          have hbw := hbel.trans (hW.mono hbel.size)
          obtain ⟨W, hWW⟩ : ∃ W, (wr.drewN q).drewN nq = W := ⟨_, rfl⟩
          rw [hWW] at hW hbw ⊢
          have HST : Hid (SAt W none 0 (List.take 0 ([] : List Sp))) := Lib.hid (SAt.nil _ _)
          have HSD : Hid (SAt W none 0 (List.drop 0 ([] : List Sp))) := Lib.hid (SAt.nil _ _)
          have c1 := (hW.cell (p := ⟨b, off + k * 3, none⟩) hblt).trans h1
          have c2 := (hW.cell (p := ⟨b, off + k * 3 + 1, none⟩) hblt).trans h2
          have c3 := (hW.cell (p := ⟨b, off + k * 3 + 2, none⟩) hblt).trans h3
          have hbW : b < W.heap.size := Nat.lt_of_lt_of_le hblt hW.size
          have m1 := mx n1
          have m2 := my n1
          have m3 := mx n2
          have m4 := my n2
          have m5 := mx n3
          have m6 := my n3
          clear hWW h1 h2 h3 hW
          go_wp2_with (first
            | (at_builtin; refine append_spans rfl _ _ 30 rfl W.heap.size 71 i0 (.agg #[.int .i64 0, .int .i64 0, .string ⟨#[]⟩]) 32 Tryz.underlying30 hi hz0 hz1 hz2 rfl (.slice none 0 0) 0 [] rfl (World.ownsRow_nil _ _ _ _) none 0 0 (List.take 0 ([] : List Sp)) rfl HST.out (fun _ => rfl) m1 m2 (Nat.le_refl _) ?_; intro v1 w1 ho1 hg1; have hb1 : Below W.heap.size W w1 := (Below.refl _ _).grown hg1 (Nat.le_refl _) (fun g h => by cases h); have d1 := (hb1.cell (p := ⟨b, off + k * 3, none⟩) hbW).trans c1; have d2 := (hb1.cell (p := ⟨b, off + k * 3 + 1, none⟩) hbW).trans c2; have d3 := (hb1.cell (p := ⟨b, off + k * 3 + 2, none⟩) hbW).trans c3; have hs1 := hb1.size)
            | (at_builtin; refine append_lit rfl _ _ 30 rfl W.heap.size 71 i0 (.agg #[.int .i64 0, .int .i64 0, .string ⟨#[]⟩]) 3 32 Tryz.underlying30 hi hz0 hz1 hz2 rfl (by decide) _ _ _ rfl ho1 [.int .i64 s.a, .int .i64 s.b, .string T] rfl (by simp [Value.oneCell']) rfl m3 m4 hs1 ?_; intro v2 w2 ho2 hg2; have hb2 := hg2 _ _ hb1 (Nat.le_refl _); have hs2 := hb2.size; have HS3 := Lib.hid (HSD.out.below hb2))
            | (at_builtin; refine append_spans rfl _ _ 30 rfl W.heap.size 71 i0 (.agg #[.int .i64 0, .int .i64 0, .string ⟨#[]⟩]) 32 Tryz.underlying30 hi hz0 hz1 hz2 rfl _ _ _ rfl ho2 none 0 0 (List.drop 0 ([] : List Sp)) rfl HS3.out (fun _ => rfl) m5 m6 hs2 ?_; intro v3 w3 ho3 hg3; have hb3 := hb2.grown hg3 hs2 (fun g h => (ho2.lt g h).1)))
          go_roundw
          case rel => exact srt_rel HI.out HT.out HSO.out (by rw [HL.out]; exact hlt) hbw hb3 NK.out ho3
          case measure => simp [intOf]; omega
      · have HS := Lib.hid hS
        clear hS hol hown
        obtain ⟨T, hT⟩ : ∃ T, bs s.v = T := ⟨_, rfl⟩
        rw [hT] at h3
        have HT := Lib.hid hT
        clear hT
        go_wp2
        go_loopw [5] (fun i wq => ∃ j q : Nat, i = .int .i64 j ∧ j ≤ k ∧ wq = wr.drewN q ∧ ∀ t, (os.drop j).head? = some t → s.a < t.a) (fun i _ => (intOf i).toNat)
        case atStart => exact ⟨k, 0, rfl, Nat.le_refl _, rfl, fun t ht => by rw [List.drop_of_length_le (by rw [HOL.out]; exact Nat.le_refl _)] at ht; cases ht⟩
        case round =>
          obtain ⟨j, q, rfl, hjk, rfl, hhead⟩ := hrel
          rcases j with - | j
          · have HI := Lib.hid (ins_at (s := s) (l := os) (k := 0) (Nat.zero_le _) (by simp) hhead)
            clear hhead
            go_wp2
            go_quiet (fail)
            have n1 : 0 + 0 ≤ 200000 := by omega
            have n2 : 0 + 0 + 1 ≤ 200000 := by omega
            have n3 : 0 + 0 + 1 + k ≤ 200000 := by omega
            have nk : 0 + 0 + 1 + k = k + 1 := by omega
            have NK := Lib.hid nk
            clear nk
            have hW : Below wr.heap.size wr ((wr.drewN q).drewN nq) := below_drewN (below_drewN (Below.refl _ _) q) nq
            have hbw := hbel.trans (hW.mono hbel.size)
            obtain ⟨W, hWW⟩ : ∃ W, (wr.drewN q).drewN nq = W := ⟨_, rfl⟩
            rw [hWW] at hW hbw ⊢
            have hSW := HS.out.below hW
            have HST := Lib.hid (hSW.take (k := 0) (by omega))
            have HSD : Hid (SAt W (some ⟨g, 0, none⟩) k (List.drop 0 os)) := Lib.hid (by simpa using hSW)
            clear hSW
            have c1 := (hW.cell (p := ⟨b, off + k * 3, none⟩) hblt).trans h1
            have c2 := (hW.cell (p := ⟨b, off + k * 3 + 1, none⟩) hblt).trans h2
            have c3 := (hW.cell (p := ⟨b, off + k * 3 + 2, none⟩) hblt).trans h3
            have hbW : b < W.heap.size := Nat.lt_of_lt_of_le hblt hW.size
            have m1 := mx n1
            have m2 := my n1
            have m3 := mx n2
            have m4 := my n2
            have m5 := mx n3
            have m6 := my n3
            clear hWW h1 h2 h3 hW
            go_wp2_with (first
              | (at_builtin; refine append_spans rfl _ _ 30 rfl W.heap.size 71 i0 (.agg #[.int .i64 0, .int .i64 0, .string ⟨#[]⟩]) 32 Tryz.underlying30 hi hz0 hz1 hz2 rfl (.slice none 0 0) 0 [] rfl (World.ownsRow_nil _ _ _ _) (some ⟨g, 0, none⟩) 0 c (List.take 0 os) rfl HST.out (fun h => by cases h) m1 m2 (Nat.le_refl _) ?_; intro v1 w1 ho1 hg1; have hb1 : Below W.heap.size W w1 := (Below.refl _ _).grown hg1 (Nat.le_refl _) (fun g h => by cases h); have d1 := (hb1.cell (p := ⟨b, off + k * 3, none⟩) hbW).trans c1; have d2 := (hb1.cell (p := ⟨b, off + k * 3 + 1, none⟩) hbW).trans c2; have d3 := (hb1.cell (p := ⟨b, off + k * 3 + 2, none⟩) hbW).trans c3; have hs1 := hb1.size)
              | (at_builtin; refine append_lit rfl _ _ 30 rfl W.heap.size 71 i0 (.agg #[.int .i64 0, .int .i64 0, .string ⟨#[]⟩]) 3 32 Tryz.underlying30 hi hz0 hz1 hz2 rfl (by decide) _ _ _ rfl ho1 [.int .i64 s.a, .int .i64 s.b, .string T] rfl (by simp [Value.oneCell']) rfl m3 m4 hs1 ?_; intro v2 w2 ho2 hg2; have hb2 := hg2 _ _ hb1 (Nat.le_refl _); have hs2 := hb2.size; have HS3 := Lib.hid (HSD.out.below hb2))
              | (at_builtin; refine append_spans rfl _ _ 30 rfl W.heap.size 71 i0 (.agg #[.int .i64 0, .int .i64 0, .string ⟨#[]⟩]) 32 Tryz.underlying30 hi hz0 hz1 hz2 rfl _ _ _ rfl ho2 (some ⟨g, 0, none⟩) k c (List.drop 0 os) rfl HS3.out (fun h => by cases h) m5 m6 hs2 ?_; intro v3 w3 ho3 hg3; have hb3 := hb2.grown hg3 hs2 (fun g h => (ho2.lt g h).1)))
            go_roundw
            case rel => exact srt_rel HI.out HT.out HSO.out (by rw [HL.out]; exact hlt) hbw hb3 NK.out ho3
            case measure => simp [intOf]; omega
          · obtain ⟨t, ht⟩ := getSp (ls := os) (k := j) (by rw [HOL.out]; omega)
            obtain ⟨b2, off2, e2, -, hc2⟩ := HS.out.2 (by omega)
            cases e2
            obtain ⟨k1, -, -⟩ := hc2 j t ht
            rw [Nat.zero_add] at k1
            clear hc2
            by_cases hgt : s.a < t.a
            · have HD := Lib.hid (drop_head ht hgt)
              have w1 : IntKind.i64.wrap ((j : Int) + 1 - 1) = j := by rw [Int.add_sub_cancel]; exact IntWalk.i64_in _ (by omega)
              have w2 : IntKind.i64.wrap (j : Int) = j := IntWalk.i64_in _ (by omega)
              clear hhead ht
              go_wp2
              go_quiet (fail)
              go_wp2
              clear w1 w2
              go_roundw
              case rel => exact ⟨j, _, by go_num, by omega, rfl, HD.out⟩
              case measure => simp [intOf]
            · have HI := Lib.hid (ins_at (s := s) (l := os) (k := j + 1) (by rw [HOL.out]; omega) (low_take HLOW.out ht (by omega)) hhead)
              have hgd : decide (s.a < t.a) = false := decide_eq_false hgt
              clear hhead ht
              by_cases hcc : c = j + 1
              · subst hcc
                have w1 : IntKind.i64.wrap ((j : Int) + 1 - 1) = j := by rw [Int.add_sub_cancel]; exact IntWalk.i64_in _ (by omega)
                have w2 : IntKind.i64.wrap (j : Int) = j := IntWalk.i64_in _ (by omega)
                go_wp2
                go_quiet (fail)
                clear w1 w2 k1
                have n1 : 0 + (j + 1) ≤ 200000 := by omega
                have n2 : 0 + (j + 1) + 1 ≤ 200000 := by omega
                have n3 : 0 + (j + 1) + 1 + 0 ≤ 200000 := by omega
                have nk : 0 + (j + 1) + 1 + 0 = k + 1 := by omega
                have NK := Lib.hid nk
                clear nk
                have hW : Below wr.heap.size wr ((wr.drewN q).drewN nq) := below_drewN (below_drewN (Below.refl _ _) q) nq
                have hbw := hbel.trans (hW.mono hbel.size)
                obtain ⟨W, hWW⟩ : ∃ W, (wr.drewN q).drewN nq = W := ⟨_, rfl⟩
                rw [hWW] at hW hbw ⊢
                have hSW := HS.out.below hW
                have HST := Lib.hid (hSW.take (k := j + 1) (by omega))
                have HSD : Hid (SAt W (some ⟨g, 0, none⟩) 0 (List.drop (j + 1) os)) := Lib.hid ⟨by rw [List.length_drop, HOL.out]; omega, fun h => absurd h (by omega)⟩
                clear hSW
                have c1 := (hW.cell (p := ⟨b, off + k * 3, none⟩) hblt).trans h1
                have c2 := (hW.cell (p := ⟨b, off + k * 3 + 1, none⟩) hblt).trans h2
                have c3 := (hW.cell (p := ⟨b, off + k * 3 + 2, none⟩) hblt).trans h3
                have hbW : b < W.heap.size := Nat.lt_of_lt_of_le hblt hW.size
                have m1 := mx n1
                have m2 := my n1
                have m3 := mx n2
                have m4 := my n2
                have m5 := mx n3
                have m6 := my n3
                clear hWW h1 h2 h3 hW
                go_wp2_with (first
                  | (at_builtin; refine append_spans rfl _ _ 30 rfl W.heap.size 71 i0 (.agg #[.int .i64 0, .int .i64 0, .string ⟨#[]⟩]) 32 Tryz.underlying30 hi hz0 hz1 hz2 rfl (.slice none 0 0) 0 [] rfl (World.ownsRow_nil _ _ _ _) (some ⟨g, 0, none⟩) (j + 1) (j + 1) (List.take (j + 1) os) rfl HST.out (fun h => by cases h) m1 m2 (Nat.le_refl _) ?_; intro v1 w1 ho1 hg1; have hb1 : Below W.heap.size W w1 := (Below.refl _ _).grown hg1 (Nat.le_refl _) (fun g h => by cases h); have d1 := (hb1.cell (p := ⟨b, off + k * 3, none⟩) hbW).trans c1; have d2 := (hb1.cell (p := ⟨b, off + k * 3 + 1, none⟩) hbW).trans c2; have d3 := (hb1.cell (p := ⟨b, off + k * 3 + 2, none⟩) hbW).trans c3; have hs1 := hb1.size)
                  | (at_builtin; refine append_lit rfl _ _ 30 rfl W.heap.size 71 i0 (.agg #[.int .i64 0, .int .i64 0, .string ⟨#[]⟩]) 3 32 Tryz.underlying30 hi hz0 hz1 hz2 rfl (by decide) _ _ _ rfl ho1 [.int .i64 s.a, .int .i64 s.b, .string T] rfl (by simp [Value.oneCell']) rfl m3 m4 hs1 ?_; intro v2 w2 ho2 hg2; have hb2 := hg2 _ _ hb1 (Nat.le_refl _); have hs2 := hb2.size; have HS3 := Lib.hid (HSD.out.below hb2))
                  | (at_builtin; refine append_spans rfl _ _ 30 rfl W.heap.size 71 i0 (.agg #[.int .i64 0, .int .i64 0, .string ⟨#[]⟩]) 32 Tryz.underlying30 hi hz0 hz1 hz2 rfl _ _ _ rfl ho2 (some ⟨g, 0, none⟩) 0 0 (List.drop (j + 1) os) rfl HS3.out (fun h => by cases h) m5 m6 hs2 ?_; intro v3 w3 ho3 hg3; have hb3 := hb2.grown hg3 hs2 (fun g h => (ho2.lt g h).1)))
                go_roundw
                case rel => exact srt_rel HI.out HT.out HSO.out (by rw [HL.out]; exact hlt) hbw hb3 NK.out ho3
                case measure => simp [intOf]; omega
              · have w1 : IntKind.i64.wrap ((j : Int) + 1 - 1) = j := by rw [Int.add_sub_cancel]; exact IntWalk.i64_in _ (by omega)
                have w2 : IntKind.i64.wrap (j : Int) = j := IntWalk.i64_in _ (by omega)
                have hcb : (c == j + 1) = false := beq_false_of_ne hcc
                go_wp2
                go_quiet (fail)
                clear w1 w2 k1
                have n1 : 0 + (j + 1) ≤ 200000 := by omega
                have n2 : 0 + (j + 1) + 1 ≤ 200000 := by omega
                have n3 : 0 + (j + 1) + 1 + (k - (j + 1)) ≤ 200000 := by omega
                have nk : 0 + (j + 1) + 1 + (k - (j + 1)) = k + 1 := by omega
                have NK := Lib.hid nk
                clear nk
                have hW : Below wr.heap.size wr ((wr.drewN q).drewN nq) := below_drewN (below_drewN (Below.refl _ _) q) nq
                have hbw := hbel.trans (hW.mono hbel.size)
                obtain ⟨W, hWW⟩ : ∃ W, (wr.drewN q).drewN nq = W := ⟨_, rfl⟩
                rw [hWW] at hW hbw ⊢
                have hSW := HS.out.below hW
                have HST := Lib.hid (hSW.take (k := j + 1) (by omega))
                have HSD : Hid (SAt W (some ⟨g, (j + 1) * 3, none⟩) (k - (j + 1)) (List.drop (j + 1) os)) := Lib.hid (by simpa using hSW.drop (k := j + 1) (by omega))
                clear hSW
                have c1 := (hW.cell (p := ⟨b, off + k * 3, none⟩) hblt).trans h1
                have c2 := (hW.cell (p := ⟨b, off + k * 3 + 1, none⟩) hblt).trans h2
                have c3 := (hW.cell (p := ⟨b, off + k * 3 + 2, none⟩) hblt).trans h3
                have hbW : b < W.heap.size := Nat.lt_of_lt_of_le hblt hW.size
                have m1 := mx n1
                have m2 := my n1
                have m3 := mx n2
                have m4 := my n2
                have m5 := mx n3
                have m6 := my n3
                clear hWW h1 h2 h3 hW
                go_wp2_with (first
                  | (at_builtin; refine append_spans rfl _ _ 30 rfl W.heap.size 71 i0 (.agg #[.int .i64 0, .int .i64 0, .string ⟨#[]⟩]) 32 Tryz.underlying30 hi hz0 hz1 hz2 rfl (.slice none 0 0) 0 [] rfl (World.ownsRow_nil _ _ _ _) (some ⟨g, 0, none⟩) (j + 1) c (List.take (j + 1) os) rfl HST.out (fun h => by cases h) m1 m2 (Nat.le_refl _) ?_; intro v1 w1 ho1 hg1; have hb1 : Below W.heap.size W w1 := (Below.refl _ _).grown hg1 (Nat.le_refl _) (fun g h => by cases h); have d1 := (hb1.cell (p := ⟨b, off + k * 3, none⟩) hbW).trans c1; have d2 := (hb1.cell (p := ⟨b, off + k * 3 + 1, none⟩) hbW).trans c2; have d3 := (hb1.cell (p := ⟨b, off + k * 3 + 2, none⟩) hbW).trans c3; have hs1 := hb1.size)
                  | (at_builtin; refine append_lit rfl _ _ 30 rfl W.heap.size 71 i0 (.agg #[.int .i64 0, .int .i64 0, .string ⟨#[]⟩]) 3 32 Tryz.underlying30 hi hz0 hz1 hz2 rfl (by decide) _ _ _ rfl ho1 [.int .i64 s.a, .int .i64 s.b, .string T] rfl (by simp [Value.oneCell']) rfl m3 m4 hs1 ?_; intro v2 w2 ho2 hg2; have hb2 := hg2 _ _ hb1 (Nat.le_refl _); have hs2 := hb2.size; have HS3 := Lib.hid (HSD.out.below hb2))
                  | (at_builtin; refine append_spans rfl _ _ 30 rfl W.heap.size 71 i0 (.agg #[.int .i64 0, .int .i64 0, .string ⟨#[]⟩]) 32 Tryz.underlying30 hi hz0 hz1 hz2 rfl _ _ _ rfl ho2 (some ⟨g, (j + 1) * 3, none⟩) (k - (j + 1)) (c - (j + 1)) (List.drop (j + 1) os) rfl HS3.out (fun h => by cases h) m5 m6 hs2 ?_; intro v3 w3 ho3 hg3; have hb3 := hb2.grown hg3 hs2 (fun g h => (ho2.lt g h).1)))
                go_roundw
                case rel => exact srt_rel HI.out HT.out HSO.out (by rw [HL.out]; exact hlt) hbw hb3 NK.out ho3
                case measure => simp [intOf]; omega
    · have hke : k = n := by omega
      subst hke
      rw [List.take_of_length_le (by rw [HL.out]; exact Nat.le_refl _)] at hown
      have HOW := Lib.hid hown
      clear hown
      go_wp2
      go_ret
      have hl2 : (sorted ls).length = k := by rw [sorted_length, HL.out]
      have ho := HOW.out
      rw [← hl2] at ho
      obtain ⟨A2, c2, rfl, _, hS2, hA2⟩ := own_sat ho
      refine ⟨hbel, A2, c2, ?_, hA2, ?_⟩
      · rw [HL.out, hl2]; rfl
      · rw [HL.out, ← hl2]; exact hS2
end Go.Proofs.YtdbnegllncjhkaaGreatDoor
