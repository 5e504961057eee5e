/- Slices that read as pairs, a source and its prototype; no program is spoken of. -/
import Derived.Test.YtkcpnnfbhcklpaaGreatDoorCnf
import Derived.Laws.AppendOwnNone
namespace Go.Proofs.YtkcpnnfbhcklpaaGreatDoor
open Go.RowKit

/-- A pair as it stands there: its prototype as a slice. -/
structure Pv where
  c : Int
  A : Option Addr
  n : Nat
  cap : Nat
def pvv (q : Pv) : List Value := [.int .i64 q.c, .slice q.A q.n q.cap]
def pvs (qs : List Pv) : List Value := qs.flatMap pvv
theorem pvs_cons (q : Pv) (qs : List Pv) : pvs (q :: qs) = .int .i64 q.c :: .slice q.A q.n q.cap :: pvs qs := rfl
theorem pvs_snoc (qs : List Pv) (q : Pv) : pvs qs ++ [.int .i64 q.c, .slice q.A q.n q.cap] = pvs (qs ++ [q]) := by unfold pvs; rw [List.flatMap_append]; rfl
theorem pvs_app (qs rs : List Pv) : pvs qs ++ pvs rs = pvs (qs ++ rs) := by unfold pvs; rw [List.flatMap_append]
theorem pvs_length : ∀ qs : List Pv, (pvs qs).length = qs.length * 2
  | [] => rfl
  | q :: qs => by rw [pvs_cons]; simp [pvs_length qs]; omega
theorem pvs_get : ∀ {qs : List Pv} {j : Nat} {q : Pv}, qs[j]? = some q → (pvs qs)[j * 2]? = some (.int .i64 q.c) ∧ (pvs qs)[j * 2 + 1]? = some (.slice q.A q.n q.cap)
  | [], _, _, h => by simp at h
  | x :: qs, 0, q, h => by simp at h; subst h; exact ⟨rfl, rfl⟩
  | x :: qs, j + 1, q, h => by
    have := pvs_get (qs := qs) (j := j) (q := q) (by simpa using h)
    rw [pvs_cons, show (j + 1) * 2 = j * 2 + 2 by omega]
    exact this
theorem pvs_at : ∀ {qs : List Pv} {j : Nat} {u : Value}, (pvs qs)[j]? = some u → ∃ k q, qs[k]? = some q ∧ ((j = k * 2 ∧ u = .int .i64 q.c) ∨ (j = k * 2 + 1 ∧ u = .slice q.A q.n q.cap))
  | [], _, _, h => by simp [pvs] at h
  | x :: qs, 0, u, h => ⟨0, x, rfl, .inl ⟨rfl, by simpa [pvs_cons] using h.symm⟩⟩
  | x :: qs, 1, u, h => ⟨0, x, rfl, .inr ⟨rfl, by simpa [pvs_cons] using h.symm⟩⟩
  | x :: qs, j + 2, u, h => by
    rw [pvs_cons] at h
    obtain ⟨k, q, h1, h2⟩ := pvs_at (qs := qs) (j := j) (u := u) (by simpa using h)
    refine ⟨k + 1, q, by simpa using h1, ?_⟩
    rcases h2 with ⟨rfl, h2⟩ | ⟨rfl, h2⟩
    · exact .inl ⟨by omega, h2⟩
    · exact .inr ⟨by omega, h2⟩
theorem pvs_one {qs : List Pv} : ∀ u ∈ pvs qs, u.oneCell' = true := by
  intro u hu
  obtain ⟨j, hj⟩ := List.mem_iff_getElem?.1 hu
  obtain ⟨k, q, -, ⟨-, rfl⟩ | ⟨-, rfl⟩⟩ := pvs_at hj <;> rfl
/-- The slice with address A and length n reads, in w, as these pairs. -/
def PAt (w : World) (A : Option Addr) (n : Nat) (qs : List Pv) : Prop :=
  qs.length = n ∧ (0 < n → ∃ b off, A = some ⟨b, off, none⟩ ∧ b < w.heap.size ∧ ∀ j q, qs[j]? = some q → w.cell? ⟨b, off + j * 2, none⟩ = some (.int .i64 q.c) ∧ w.cell? ⟨b, off + j * 2 + 1, none⟩ = some (.slice q.A q.n q.cap))
theorem PAt.below {w w' : World} {A : Option Addr} {n : Nat} {qs : List Pv} (h : PAt w A n qs) (hb : Below w.heap.size w w') : PAt w' A n qs := by
  refine ⟨h.1, fun hn => ?_⟩
  obtain ⟨b, off, rfl, hlt, hc⟩ := h.2 hn
  refine ⟨b, off, rfl, Nat.lt_of_lt_of_le hlt hb.size, fun j q hj => ?_⟩
  obtain ⟨h1, h2⟩ := hc j q hj
  exact ⟨(hb.cell (p := ⟨b, _, none⟩) hlt).trans h1, (hb.cell (p := ⟨b, _, none⟩) hlt).trans h2⟩
theorem PAt.nil (w : World) (A : Option Addr) : PAt w A 0 [] := ⟨rfl, fun h => absurd h (by omega)⟩
theorem own_pat {w : World} {base : Nat} {e : TypeId} {v : Value} {qs : List Pv} (ho : w.ownsRow base e 2 v qs.length (pvs qs)) : ∃ A c, v = .slice A qs.length c ∧ qs.length ≤ c ∧ PAt w A qs.length qs ∧ (A = none → c = 0) := by
  rcases ho.2 with ⟨rfl, h0⟩ | ⟨g, cap, cur, rfl, _, hg, hcap, _⟩
  · exact ⟨none, 0, by rw [h0], by omega, ⟨rfl, fun h => absurd h (by omega)⟩, fun _ => rfl⟩
  · refine ⟨_, cap, rfl, hcap, ⟨rfl, fun _ => ⟨g, 0, rfl, (Array.getElem?_eq_some_iff.1 hg).1, fun j q hj => ?_⟩⟩, fun h => by cases h⟩
    obtain ⟨h1, h2⟩ := pvs_get hj
    have k1 := ho.cells (g := g) rfl _ _ h1
    have k2 := ho.cells (g := g) rfl _ _ h2
    rw [add_at] at k1 k2
    exact ⟨k1, k2⟩
theorem pat_off (b off j : Nat) : (⟨b, off, none⟩ : Addr).add j = ⟨b, off + j, none⟩ := by unfold Addr.add; split <;> simp_all
theorem pat_cells {w : World} {ad : Addr} {m : Nat} {qs : List Pv} (h : PAt w (some ad) m qs) : ∀ j u, (pvs qs)[j]? = some u → w.cell? (ad.add j) = some u := by
  intro j u hj
  obtain ⟨k, q, hq, hu⟩ := pvs_at hj
  have hm : 0 < m := by have := (List.getElem?_eq_some_iff.1 hq).1; have := h.1; omega
  obtain ⟨b, off, e, -, hc⟩ := h.2 hm
  cases e
  rw [pat_off]
  obtain ⟨h1, h2⟩ := hc k q hq
  rcases hu with ⟨rfl, rfl⟩ | ⟨rfl, rfl⟩
  · exact h1
  · exact h2
theorem PAt.take {w : World} {A : Option Addr} {n k : Nat} {qs : List Pv} (h : PAt w A n qs) (hk : k ≤ n) : PAt w A k (qs.take k) := by
  refine ⟨by rw [List.length_take, h.1]; omega, fun h0 => ?_⟩
  obtain ⟨b, off, rfl, hlt, hc⟩ := h.2 (by omega)
  refine ⟨b, off, rfl, hlt, fun j q hj => ?_⟩
  rw [List.getElem?_take] at hj
  split at hj
  · exact hc j q hj
  · cases hj
theorem PAt.drop {w : World} {b off n k : Nat} {qs : List Pv} (h : PAt w (some ⟨b, off, none⟩) n qs) (hk : k ≤ n) : PAt w (some ⟨b, off + k * 2, none⟩) (n - k) (qs.drop k) := by
  refine ⟨by rw [List.length_drop, h.1], fun h0 => ?_⟩
  obtain ⟨b', off', e, hlt, hc⟩ := h.2 (by omega)
  cases e
  refine ⟨b, off + k * 2, rfl, hlt, fun j q hj => ?_⟩
  rw [List.getElem?_drop] at hj
  have := hc (k + j) q hj
  rw [show off + k * 2 + j * 2 = off + (k + j) * 2 by omega]
  exact this
theorem append_pairs {P : Program} {w : World} {ops : Array Oper} {rest : List Oper} {o : Oper} {a : Act} {Q : Exit → Act → World → Prop} (hgd : o.guard = none) (s x : Operand) (t : TypeId)
    (ho : o.op = .call { callee := .builtin .append, args := #[s, x], argTypes := #[t, t] })
    (base : Nat) (e : TypeId) (i : TypeInfo) (z : Value) (bytes : Nat) (ht : P.underlying t = some (.slice e)) (hi : P.info? e = some i) (hz : i.zero = some z)
    (hsize : i.size = 2) (hby : i.bytes = bytes) (hzs : z.cells.size = 2)
    (v : Value) (n : Nat) (xs : List Value) (hs : a.eval s = v) (hown : w.ownsRow base e 2 v n xs)
    (A : Option Addr) (m c : Nat) (qs : List Pv) (hx : a.eval x = .slice A m c) (hN : PAt w A m qs) (hA : A = none → c = 0)
    (h63 : n + m ≤ maxLen) (hbytes : (n + m) * bytes ≤ 140737488355328) (hbase : base ≤ w.heap.size)
    (h : ∀ v' w', w'.ownsRow base e 2 v' (n + m) (xs ++ pvs qs) → w.grownBy w' v.ownBlock → wpList P ops Q rest (a.put o.dst v') w') : wpList P ops Q (o :: rest) a w := by
  cases A with
  | none =>
    have hm : m = 0 := by
      rcases Nat.eq_zero_or_pos m with h0 | h0
      · exact h0
      · obtain ⟨b, off, e, _⟩ := hN.2 h0
        cases e
    subst hm
    have hc := hA rfl
    subst hc
    obtain rfl : qs = [] := List.eq_nil_of_length_eq_zero hN.1
    refine wpList_append_own_none hgd s x t ho base e i 2 ht hi v n xs hs hown hx (h v w ?_ (World.grownBy.refl w _))
    simpa [pvs] using hown
  | some ad =>
    exact wpList_append_own w hgd s x t ho base e i z 2 bytes ht hi hz hsize hby hzs (by decide) v n xs hs hown ad m c (pvs qs) hx (by rw [pvs_length, hN.1]) (pat_cells hN) pvs_one h63 hbytes hbase (fun v' w' h1 h2 _ => h v' w' h1 h2)
/-- A pair that stands there, and what it says. -/
def IsP (w : World) (q : Pv) (r : Pp) : Prop := q.c = r.c ∧ q.n = r.p.length ∧ Vals w q.A q.n (nums .i64 r.p)
def IsPs (w : World) : List Pv → List Pp → Prop
  | [], [] => True
  | q :: qs, r :: rs => IsP w q r ∧ IsPs w qs rs
  | _, _ => False
theorem IsP.below {w w' : World} {q : Pv} {r : Pp} (h : IsP w q r) (hb : Below w.heap.size w w') : IsP w' q r := ⟨h.1, h.2.1, h.2.2.below hb⟩
theorem IsPs.below {w w' : World} (hb : Below w.heap.size w w') : ∀ {qs : List Pv} {rs : List Pp}, IsPs w qs rs → IsPs w' qs rs
  | [], [], _ => trivial
  | _ :: _, _ :: _, h => ⟨h.1.below hb, IsPs.below hb h.2⟩
  | [], _ :: _, h => h.elim
  | _ :: _, [], h => h.elim
theorem IsPs.len {w : World} : ∀ {qs : List Pv} {rs : List Pp}, IsPs w qs rs → qs.length = rs.length
  | [], [], _ => rfl
  | _ :: qs, _ :: rs, h => by have := IsPs.len h.2; simp [this]
  | [], _ :: _, h => h.elim
  | _ :: _, [], h => h.elim
theorem IsPs.get {w : World} : ∀ {qs : List Pv} {rs : List Pp}, IsPs w qs rs → ∀ {j : Nat} {q : Pv}, qs[j]? = some q → ∃ r, rs[j]? = some r ∧ IsP w q r
  | [], [], _, j, q, h => by simp at h
  | x :: qs, y :: rs, h, 0, q, hq => by simp at hq; subst hq; exact ⟨y, rfl, h.1⟩
  | x :: qs, y :: rs, h, j + 1, q, hq => by
    obtain ⟨r, h1, h2⟩ := IsPs.get h.2 (j := j) (q := q) (by simpa using hq)
    exact ⟨r, by simpa using h1, h2⟩
  | [], _ :: _, h, _, _, _ => h.elim
  | _ :: _, [], h, _, _, _ => h.elim
theorem IsPs.app {w : World} : ∀ {qs qs' : List Pv} {rs rs' : List Pp}, IsPs w qs rs → IsPs w qs' rs' → IsPs w (qs ++ qs') (rs ++ rs')
  | [], _, [], _, _, h => h
  | _ :: _, _, _ :: _, _, h, h' => ⟨h.1, IsPs.app h.2 h'⟩
  | [], _, _ :: _, _, h, _ => h.elim
  | _ :: _, _, [], _, h, _ => h.elim
theorem IsPs.take {w : World} : ∀ {qs : List Pv} {rs : List Pp} (k : Nat), IsPs w qs rs → IsPs w (qs.take k) (rs.take k)
  | [], [], k, _ => by simp [IsPs]
  | _ :: _, _ :: _, 0, _ => by simp [IsPs]
  | _ :: _, _ :: _, k + 1, h => by simp only [List.take_succ_cons]; exact ⟨h.1, IsPs.take k h.2⟩
  | [], _ :: _, _, h => h.elim
  | _ :: _, [], _, h => h.elim
theorem IsPs.drop {w : World} : ∀ {qs : List Pv} {rs : List Pp} (k : Nat), IsPs w qs rs → IsPs w (qs.drop k) (rs.drop k)
  | [], [], k, _ => by simp [IsPs]
  | _ :: _, _ :: _, 0, h => by simpa using h
  | _ :: _, _ :: _, k + 1, h => by simp only [List.drop_succ_cons]; exact IsPs.drop k h.2
  | [], _ :: _, _, h => h.elim
  | _ :: _, [], _, h => h.elim
/-- A place among the pairs. -/
theorem find_cons (q : Pp) (l : List Pp) (c : Int) : findC (q :: l) c = if q.c = c then 0 else if findC l c < 0 then -1 else findC l c + 1 := rfl
theorem find_lt : ∀ (l : List Pp) (c : Int), findC l c < l.length
  | [], c => by simp [findC]
  | q :: l, c => by
    have := find_lt l c
    rw [find_cons]
    simp only [List.length_cons]
    split
    · omega
    split <;> omega
theorem find_ge : ∀ (l : List Pp) (c : Int), -1 ≤ findC l c
  | [], c => by simp [findC]
  | q :: l, c => by
    have := find_ge l c
    rw [find_cons]
    split
    · omega
    split <;> omega
theorem find_has : ∀ (l : List Pp) (c : Int), hasS l c = decide (0 ≤ findC l c)
  | [], c => by simp [hasS, findC]
  | q :: l, c => by
    have ih := find_has l c
    have hg := find_ge l c
    unfold hasS at ih ⊢
    rw [List.any_cons, ih]
    rw [find_cons]
    by_cases h : q.c = c
    · simp [h]
    · rw [if_neg h, decide_eq_false h, Bool.false_or]
      by_cases h2 : findC l c < 0
      · rw [if_pos h2, decide_eq_decide]; omega
      · rw [if_neg h2, decide_eq_decide]; omega
theorem find_first : ∀ {l : List Pp} {c : Int} {k : Nat} {q : Pp}, l[k]? = some q → q.c = c → (∀ t ∈ l.take k, t.c ≠ c) → findC l c = k
  | [], c, k, q, h, _, _ => by simp at h
  | x :: l, c, 0, q, h, hq, _ => by simp at h; subst h; simp [findC, hq]
  | x :: l, c, k + 1, q, h, hq, hn => by
    have hx := hn x (by simp)
    have := find_first (l := l) (c := c) (k := k) (q := q) (by simpa using h) hq (fun t ht => hn t (by simp [ht]))
    rw [find_cons]
    rw [if_neg hx, this, if_neg (by omega)]
    push_cast
    rfl
theorem find_none : ∀ {l : List Pp} {c : Int}, (∀ t ∈ l, t.c ≠ c) → findC l c = -1
  | [], c, _ => rfl
  | x :: l, c, h => by
    have := find_none (l := l) (c := c) (fun t ht => h t (List.mem_cons_of_mem _ ht))
    rw [find_cons]
    rw [if_neg (h x (by simp)), this, if_pos (by omega)]
end Go.Proofs.YtkcpnnfbhcklpaaGreatDoor
