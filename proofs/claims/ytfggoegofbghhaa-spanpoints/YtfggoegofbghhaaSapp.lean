/- Appending any slice of spans onto a row of the call's own; lists in order; no program is spoken of. -/
import Derived.Test.YtfggoegofbghhaaSat
import Derived.Laws.AppendOwnNone
namespace Go.Proofs.Ytfggoegofbghhaa
open Go.RowKit

theorem spvs_at : ∀ {ls : List Sp} {j : Nat} {u : Value}, (spvs ls)[j]? = some u → ∃ q s, ls[q]? = some s ∧ ((j = q * 3 ∧ u = .int .i64 s.a) ∨ (j = q * 3 + 1 ∧ u = .int .i64 s.b) ∨ (j = q * 3 + 2 ∧ u = .string (bs s.v)))
  | [], j, u, h => by simp [spvs] at h
  | s :: ls, 0, u, h => by rw [spvs_cons] at h; simp at h; exact ⟨0, s, rfl, .inl ⟨rfl, h.symm⟩⟩
  | s :: ls, 1, u, h => by rw [spvs_cons] at h; simp at h; exact ⟨0, s, rfl, .inr (.inl ⟨rfl, h.symm⟩)⟩
  | s :: ls, 2, u, h => by rw [spvs_cons] at h; simp at h; exact ⟨0, s, rfl, .inr (.inr ⟨rfl, h.symm⟩)⟩
  | s :: ls, j + 3, u, h => by
    rw [spvs_cons] at h
    obtain ⟨q, t, hq, ht⟩ := spvs_at (ls := ls) (j := j) (u := u) (by simpa using h)
    refine ⟨q + 1, t, by simpa using hq, ?_⟩
    rcases ht with ⟨rfl, e⟩ | ⟨rfl, e⟩ | ⟨rfl, e⟩
    · exact .inl ⟨by omega, e⟩
    · exact .inr (.inl ⟨by omega, e⟩)
    · exact .inr (.inr ⟨by omega, e⟩)
theorem add_off (b off j : Nat) : (⟨b, off, none⟩ : Addr).add j = ⟨b, off + j, none⟩ := by unfold Addr.add; split <;> simp_all
theorem sat_cells {w : World} {ad : Addr} {m : Nat} {ls : List Sp} (h : SAt w (some ad) m ls) : ∀ j u, (spvs ls)[j]? = some u → w.cell? (ad.add j) = some u := by
  intro j u hu
  obtain ⟨q, s, hq, hs⟩ := spvs_at hu
  have hlt := (List.getElem?_eq_some_iff.1 hq).1
  obtain ⟨b, off, e, _, hc⟩ := h.2 (by have := h.1; omega)
  obtain rfl : ad = ⟨b, off, none⟩ := by injection e
  obtain ⟨h1, h2, h3⟩ := hc q s hq
  rw [add_off]
  rcases hs with ⟨rfl, rfl⟩ | ⟨rfl, rfl⟩ | ⟨rfl, rfl⟩
  · exact h1
  · exact h2
  · exact h3
theorem append_spans {P : Program} {w : World} {ops : Array Oper} {rest : List Oper} {o : Oper} {a : Act} {Q : Exit → Act → World → Prop} (hgd : o.guard = none) (s x : Operand) (t : TypeId)
    (ho : o.op = .call { callee := .builtin .append, args := #[s, x], argTypes := #[t, t] })
    (base : Nat) (e : TypeId) (i : TypeInfo) (z : Value) (bytes : Nat) (ht : P.underlying t = some (.slice e)) (hi : P.info? e = some i) (hz : i.zero = some z)
    (hsize : i.size = 3) (hby : i.bytes = bytes) (hzs : z.cells.size = 3)
    (v : Value) (n : Nat) (xs : List Value) (hs : a.eval s = v) (hown : w.ownsRow base e 3 v n xs)
    (A : Option Addr) (m c : Nat) (ls : List Sp) (hx : a.eval x = .slice A m c) (hN : SAt w A m ls) (hA : A = none → c = 0)
    (h63 : n + m ≤ maxLen) (hbytes : (n + m) * bytes ≤ 140737488355328) (hbase : base ≤ w.heap.size)
    (h : ∀ v' w', w'.ownsRow base e 3 v' (n + m) (xs ++ spvs ls) → w.grownBy w' v.ownBlock → wpList P ops Q rest (a.put o.dst v') w') : wpList P ops Q (o :: rest) a w := by
  cases A with
  | none =>
    have hm : m = 0 := by
      rcases Nat.eq_zero_or_pos m with h0 | h0
      · exact h0
      · obtain ⟨b, off, e, _⟩ := hN.2 h0
        cases e
    subst hm
    have hc := hA rfl
    subst hc
    obtain rfl : ls = [] := List.eq_nil_of_length_eq_zero hN.1
    refine wpList_append_own_none hgd s x t ho base e i 3 ht hi v n xs hs hown hx (h v w ?_ (World.grownBy.refl w _))
    simpa [spvs] using hown
  | some ad =>
    refine wpList_append_own w hgd s x t ho base e i z 3 bytes ht hi hz hsize hby hzs (by decide) v n xs hs hown ad m c (spvs ls) hx (by rw [spvs_length, hN.1]) (sat_cells hN) ?_ h63 hbytes hbase (fun v' w' h1 h2 _ => h v' w' h1 h2)
    intro u hu
    obtain ⟨j, hj⟩ := List.mem_iff_getElem?.1 hu
    obtain ⟨q, t, _, ⟨_, rfl⟩ | ⟨_, rfl⟩ | ⟨_, rfl⟩⟩ := spvs_at hj <;> rfl
theorem SAt.take {w : World} {A : Option Addr} {n k : Nat} {ls : List Sp} (h : SAt w A n ls) (hk : k ≤ n) : SAt w A k (ls.take k) := by
  refine ⟨by rw [List.length_take, h.1]; omega, fun h0 => ?_⟩
  obtain ⟨b, off, rfl, hlt, hc⟩ := h.2 (by omega)
  refine ⟨b, off, rfl, hlt, fun j s hj => ?_⟩
  rw [List.getElem?_take] at hj
  split at hj
  · exact hc j s hj
  · cases hj
theorem SAt.drop {w : World} {b off n k : Nat} {ls : List Sp} (h : SAt w (some ⟨b, off, none⟩) n ls) (hk : k ≤ n) : SAt w (some ⟨b, off + k * 3, none⟩) (n - k) (ls.drop k) := by
  refine ⟨by rw [List.length_drop, h.1], fun h0 => ?_⟩
  obtain ⟨b', off', e, hlt, hc⟩ := h.2 (by omega)
  cases e
  refine ⟨b, off + k * 3, rfl, hlt, fun j s hj => ?_⟩
  rw [List.getElem?_drop] at hj
  have := hc (k + j) s hj
  rw [show off + (k + j) * 3 = off + k * 3 + j * 3 by omega] at this
  exact this
/-! Lists in order. -/
def Low (l : List Sp) : Prop := l.Pairwise fun s t => s.a ≤ t.a
theorem ins_low {s : Sp} {l : List Sp} (h : Low l) : Low (ins s l) := by
  induction l with
  | nil => simp [ins, Low]
  | cons x l ih =>
    have hp := List.pairwise_cons.1 h
    unfold ins
    rw [List.takeWhile_cons, List.dropWhile_cons]
    by_cases hx : x.a ≤ s.a
    · rw [if_pos (by simpa using hx), if_pos (by simpa using hx), List.cons_append]
      refine List.pairwise_cons.2 ⟨fun t ht => ?_, ih hp.2⟩
      rcases (ins_mem (s := s) (l := l)).1 ht with rfl | ht
      · exact hx
      · exact hp.1 t ht
    · rw [if_neg (by simpa using hx), if_neg (by simpa using hx), List.nil_append]
      refine List.pairwise_cons.2 ⟨fun t ht => ?_, h⟩
      rcases List.mem_cons.1 ht with rfl | ht
      · omega
      · have := hp.1 t ht
        omega
theorem sorted_low (l : List Sp) : Low (sorted l) := by
  unfold sorted
  have : ∀ (l acc : List Sp), Low acc → Low (l.foldl (fun acc s => ins s acc) acc) := by
    intro l
    induction l with
    | nil => intro acc h; exact h
    | cons s l ih => intro acc h; exact ih _ (ins_low h)
  exact this l [] List.Pairwise.nil
theorem low_take {l : List Sp} {k : Nat} {s : Sp} {x : Int} (h : Low l) (hs : l[k]? = some s) (hx : s.a ≤ x) : ∀ t ∈ l.take (k + 1), t.a ≤ x := by
  have hlt := (List.getElem?_eq_some_iff.1 hs).1
  have e : l[k] = s := (List.getElem?_eq_some_iff.1 hs).2
  intro t ht
  obtain ⟨j, hj, rfl⟩ := List.mem_iff_getElem.1 ht
  rw [List.length_take] at hj
  rw [List.getElem_take]
  rcases Nat.lt_or_ge j k with h1 | h1
  · have := List.pairwise_iff_getElem.1 h j k (by omega) hlt h1
    rw [e] at this
    omega
  · obtain rfl : j = k := by omega
    rw [e]; exact hx
theorem drop_head {l : List Sp} {k : Nat} {s : Sp} {x : Int} (hs : l[k]? = some s) (hx : x < s.a) : ∀ t, (l.drop k).head? = some t → x < t.a := by
  intro t ht
  rw [List.head?_drop, hs] at ht
  cases ht
  exact hx
theorem take_sorted {l : List Sp} {k : Nat} {s : Sp} (hs : l[k]? = some s) : sorted (l.take (k + 1)) = ins s (sorted (l.take k)) := by
  have hlt := (List.getElem?_eq_some_iff.1 hs).1
  have e : l[k] = s := (List.getElem?_eq_some_iff.1 hs).2
  rw [List.take_succ_eq_append_getElem hlt, e, sorted_snoc]
end Go.Proofs.Ytfggoegofbghhaa
