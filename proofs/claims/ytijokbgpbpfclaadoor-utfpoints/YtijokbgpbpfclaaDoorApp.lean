/- Appending any slice of numbers, nil or not, onto a row of the call's own; what encoding hands back, told in one way for all numbers. -/
import Derived.Test.YtijokbgpbpfclaaDoorPosts
import Derived.Laws.AppendOwnNone
import Derived.Laws.OwnMore
namespace Go.Proofs.YtijokbgpbpfclaaDoor
open Go.RowKit

theorem nums_cells {k : IntKind} {w : World} {ad : Addr} {m : Nat} {zs : List Int} (h : Nums k w (some ad) m zs) : ∀ j u, (zs.map (Value.int k))[j]? = some u → w.cell? (ad.add j) = some u := by
  intro j u hu
  have hj : j < m := by
    rcases Nat.lt_or_ge j m with hj | hj
    · exact hj
    · rw [List.getElem?_eq_none (by rw [List.length_map, h.1]; exact hj)] at hu
      cases hu
  obtain ⟨b, off, e, _, hc⟩ := h.2 (by omega)
  obtain rfl : ad = ⟨b, off, none⟩ := by injection e
  have e2 : (⟨b, off, none⟩ : Addr).add j = ⟨b, off + j, none⟩ := by unfold Addr.add; split <;> simp_all
  rw [e2, hc j hj]
  have hl : j < zs.length := by rw [h.1]; exact hj
  rw [List.getElem?_map, List.getElem?_eq_getElem hl] at hu
  simp at hu
  subst hu
  simp [List.getD_eq_getElem?_getD, List.getElem?_eq_getElem hl]

theorem append_nums {P : Program} {w : World} {ops : Array Oper} {rest : List Oper} {o : Oper} {a : Act} {Q : Exit → Act → World → Prop} (hgd : o.guard = none) (s x : Operand) (t : TypeId)
    (ho : o.op = .call { callee := .builtin .append, args := #[s, x], argTypes := #[t, t] })
    (base : Nat) (e : TypeId) (i : TypeInfo) (z : Value) (bytes : Nat) (ht : P.underlying t = some (.slice e)) (hi : P.info? e = some i) (hz : i.zero = some z)
    (hsize : i.size = 1) (hby : i.bytes = bytes) (hzs : z.cells.size = 1)
    (v : Value) (n : Nat) (xs : List Value) (hs : a.eval s = v) (hown : w.ownsRow base e 1 v n xs)
    (k : IntKind) (A : Option Addr) (m c : Nat) (zs : List Int) (hx : a.eval x = .slice A m c) (hN : Nums k w A m zs) (hA : A = none → c = 0)
    (h63 : n + m ≤ maxLen) (hbytes : (n + m) * bytes ≤ 140737488355328) (hbase : base ≤ w.heap.size)
    (h : ∀ v' w', w'.ownsRow base e 1 v' (n + m) (xs ++ zs.map (Value.int k)) → w.grownBy w' v.ownBlock → wpList P ops Q rest (a.put o.dst v') w') : wpList P ops Q (o :: rest) a w := by
  cases A with
  | none =>
    have hm : m = 0 := by
      rcases Nat.eq_zero_or_pos m with h0 | h0
      · exact h0
      · obtain ⟨b, off, e, _⟩ := hN.2 h0
        cases e
    subst hm
    have hc := hA rfl
    subst hc
    obtain rfl : zs = [] := List.eq_nil_of_length_eq_zero hN.1
    refine wpList_append_own_none hgd s x t ho base e i 1 ht hi v n xs hs hown hx (h v w ?_ (World.grownBy.refl w _))
    simpa using hown
  | some ad =>
    refine wpList_append_own w hgd s x t ho base e i z 1 bytes ht hi hz hsize hby hzs (by decide) v n xs hs hown ad m c (zs.map (Value.int k)) hx (by simp [hN.1]) (nums_cells hN) ?_ h63 hbytes hbase (fun v' w' h1 h2 _ => h v' w' h1 h2)
    intro u hu
    obtain ⟨y, _, rfl⟩ := List.mem_map.1 hu
    rfl

theorem info5 : (Tryd.prog.info? 5).map (fun i => (i.zero, i.size, i.bytes)) = some (some (.int .u8 0), 1, 1) := by kernel_rfl

/-- A row of the call's own as a slice of numbers; a nil one has no capacity. -/
theorem own_numsz {w : World} {base : Nat} {e : TypeId} {n : Nat} {v : Value} {k : IntKind} {zs : List Int} (h : w.ownsRow base e 1 v n (zs.map (Value.int k))) : ∃ A c, v = .slice A n c ∧ n ≤ c ∧ (A = none → c = 0) ∧ Nums k w A n zs := by
  obtain ⟨A, c, rfl, hc, hN⟩ := own_nums h
  refine ⟨A, c, rfl, hc, fun hA => ?_, hN⟩
  subst hA
  rcases h.2 with ⟨e, _⟩ | ⟨g, cap, cur, e, _⟩
  · injection e
  · injection e with e1
    cases e1
theorem ownF_numsz {w : World} {base : Nat} {e : TypeId} {n : Nat} {v : Value} {k : IntKind} {zs : List Int} (h : w.ownsRowF base e 1 v n (zs.map (Value.int k))) : ∃ A c, v = .slice A n c ∧ n ≤ c ∧ (A = none → c = 0) ∧ Nums k w A n zs := by
  obtain ⟨A, c, rfl, hc, hN⟩ := ownF_nums h
  refine ⟨A, c, rfl, hc, fun hA => ?_, hN⟩
  subst hA
  rcases h.2 with ⟨e, _⟩ | ⟨g, cap, cur, fz, e, _⟩
  · injection e
  · injection e with e1
    cases e1

def allS (xs : List Int) : Bool := xs.all scal
def good (xs : List Int) : List Int := if allS xs then xs else []
theorem allS_iff {xs : List Int} : allS xs = true ↔ ∀ c ∈ xs, scal c = true := by simp [allS]
theorem allS_append (a b : List Int) : allS (a ++ b) = (allS a && allS b) := by simp [allS]
theorem good_all (xs : List Int) : ∀ c ∈ good xs, scal c = true := by
  unfold good
  split
  · exact allS_iff.1 ‹_›
  · simp
theorem good_yes {xs : List Int} (h : allS xs = true) : good xs = xs := by simp [good, h]
theorem good_len (xs : List Int) : (good xs).length ≤ xs.length := by
  unfold good
  split <;> simp
theorem enc_any {xs : List Int} {w w' : World} {e : Ending} (h : EncPost xs w e w') :
    ∃ A c, e = .returned (.tuple #[.slice A (encs (good xs)).length c, .bool (allS xs)]) ∧ (encs (good xs)).length ≤ c ∧ (A = none → c = 0) ∧ Nums .u8 w' A (encs (good xs)).length (encs (good xs)) ∧ Below w.heap.size w w' := by
  obtain ⟨hb, ⟨ha, v, rfl, hown⟩ | ⟨hn, rfl⟩⟩ := h
  · have e1 := allS_iff.2 ha
    rw [good_yes e1, e1]
    obtain ⟨A, c, rfl, hc, hA, hN⟩ := ownF_numsz hown
    exact ⟨A, c, rfl, hc, hA, hN, hb⟩
  · have e1 : allS xs = false := by
      cases h : allS xs with
      | false => rfl
      | true => exact absurd (allS_iff.1 h) hn
    have e2 : good xs = [] := by simp [good, e1]
    rw [e2, e1]
    exact ⟨none, 0, rfl, by simp [encs], fun _ => rfl, nums_nil _ _ _, hb⟩
end Go.Proofs.YtijokbgpbpfclaaDoor
