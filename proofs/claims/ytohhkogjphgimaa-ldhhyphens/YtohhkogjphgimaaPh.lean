/- A region that draws its order, walked operation by operation. -/
import Derived.Test.YtohhkogjphgimaaWords
import Derived.Test.YtohhkogjphgimaaProg
import Derived.Deep.RegionHeld3
import Derived.BigQuiet
namespace Go.Proofs.Ytohhkogjphgimaa
open Go.RowKit
attribute [local go_sem] Oper.semAt_some

theorem drop_get {α : Type} {l : List α} {i : Nat} {x : α} {r : List α} (h : l.drop i = x :: r) : l.toArray[i]? = some x := by
  rw [List.getElem?_toArray, show l[i]? = (l.drop i)[0]? by rw [List.getElem?_drop, Nat.add_zero], h]
  rfl
theorem ph_take {Q : Exit → Act → World → Prop} {l : List Oper} {S : World → Prop} {i : Nat} {oi : Oper} {rest : List Oper} {v : Value} {fuel : Nat} {listed : Array Bool} {a : Act} {w : World} (hs : Hid (Region.noSelect l.toArray = true)) (hd : l.drop i = oi :: rest) (hf : Region.free .any l.toArray listed i = true) (hr : (Region.ready .any l.toArray listed).contains i = true)
    (hQ : ∀ c a w, Q (.panic c) (a.put oi.dst v) w → Q (.panic c) a w) (hw : Region.wanted oi (yielded l.toArray a.tmps) = true) (hy : ∀ w, S w → (execOp a.eval oi).run Try.prog w = .ok (.value v) w) (hS : S w) (h : wpAnyH Try.prog .any l.toArray Q S fuel (listed.setIfInBounds i true) (a.put oi.dst v) w) : wpAnyH Try.prog .any l.toArray Q S (fuel + 1) listed a w :=
  wpAnyH_take (drop_get hd) hs.out hf hr hQ (.inl ⟨hw, hy⟩) hS h
theorem ph_step {Q : Exit → Act → World → Prop} {l : List Oper} {S : World → Prop} {i : Nat} {oi : Oper} {rest : List Oper} {fuel : Nat} {listed : Array Bool} {a : Act} {w : World} (hd : l.drop i = oi :: rest) (hr : Region.ready .any l.toArray listed = [i]) (hw : Region.wanted oi (yielded l.toArray a.tmps) = true)
    (h : ∀ K : Act → World → Prop, Shut (∀ a w, S w → (S w → wpAnyH Try.prog .any l.toArray Q S fuel (listed.setIfInBounds i true) a w) → K a w) → Oper.wp Try.prog oi a w K Q) : wpAnyH Try.prog .any l.toArray Q S (fuel + 1) listed a w :=
  wpAnyH_ready hr (by simp) (AllReadyH.cons (drop_get hd) (fun K hK => by rw [if_pos hw]; exact h K hK) AllReadyH.nil)
theorem ph_two {Q : Exit → Act → World → Prop} {l : List Oper} {S : World → Prop} {i j : Nat} {oi oj : Oper} {ri rj : List Oper} {fuel : Nat} {listed : Array Bool} {a : Act} {w : World} (hd : l.drop i = oi :: ri) (hd' : l.drop j = oj :: rj) (hr : Region.ready .any l.toArray listed = [i, j]) (hw : Region.wanted oi (yielded l.toArray a.tmps) = true) (hw' : Region.wanted oj (yielded l.toArray a.tmps) = true)
    (h : ∀ K : Act → World → Prop, Shut (∀ a w, S w → (S w → wpAnyH Try.prog .any l.toArray Q S fuel (listed.setIfInBounds i true) a w) → K a w) → Oper.wp Try.prog oi a w K Q)
    (h' : ∀ K : Act → World → Prop, Shut (∀ a w, S w → (S w → wpAnyH Try.prog .any l.toArray Q S fuel (listed.setIfInBounds j true) a w) → K a w) → Oper.wp Try.prog oj a w K Q) : wpAnyH Try.prog .any l.toArray Q S (fuel + 1) listed a w :=
  wpAnyH_ready hr (by simp) (AllReadyH.cons (drop_get hd) (fun K hK => by rw [if_pos hw]; exact h K hK) (AllReadyH.cons (drop_get hd') (fun K hK => by rw [if_pos hw']; exact h' K hK) AllReadyH.nil))
theorem ph_open {Q : Exit → Act → World → Prop} {id : Nat} {l : List Oper} {a : Act} {w : World} (S : World → Prop) (hm : Try.prog.follows .mixedOrders = true) (hS : S w.drew) (hs : Region.noSelect l.toArray = true)
    (h : Hid (Region.noSelect l.toArray = true) → S w.drew → wpAnyH Try.prog .any l.toArray Q S l.toArray.size (Array.replicate l.toArray.size false) a w.drew) : (Code.region id l.toArray true).wp Try.prog Q a w :=
  wp_region_held_drew (S := S) hm hS (fun q => h (Lib.hid hs) q)
theorem ph_skip {Q : Exit → Act → World → Prop} {l : List Oper} {S : World → Prop} {i : Nat} {oi : Oper} {rest : List Oper} {fuel : Nat} {listed : Array Bool} {a : Act} {w : World} (hs : Hid (Region.noSelect l.toArray = true)) (hd : l.drop i = oi :: rest) (hf : Region.free .any l.toArray listed i = true) (hr : (Region.ready .any l.toArray listed).contains i = true)
    (hQ : ∀ c a w, Q (.panic c) (a.put oi.dst undef) w → Q (.panic c) a w) (hw : Region.wanted oi (yielded l.toArray a.tmps) = false) (hS : S w) (h : wpAnyH Try.prog .any l.toArray Q S fuel (listed.setIfInBounds i true) (a.put oi.dst undef) w) : wpAnyH Try.prog .any l.toArray Q S (fuel + 1) listed a w :=
  wpAnyH_take (drop_get hd) hs.out hf hr hQ (.inr ⟨hw, rfl⟩) hS h
theorem below_drew {B : Nat} {a w : World} (h : Below B a w) : Below B a w.drew := ⟨h.os, h.tape, h.output, h.size, h.block⟩
/-- a conversion, as one step -/
theorem step_conv {Q : Exit → Act → World → Prop} {o : Oper} {a : Act} {w : World} {K : Act → World → Prop} (s d : TypeId) (x : Operand) (v' : Value) (hop : o.op = .convert s d x) (hrun : (convert s d (a.eval x)).run Try.prog w = .ok v' w) (h : K (a.put o.dst v') w) : Oper.wp Try.prog o a w K Q := by
  unfold Oper.wp
  simp [execOp, hop, hrun, Result.andThen]
  exact h
theorem lift {B : Nat} {f : Nat} {args : Array Value} {w W : World} {R : Ending → Prop} (hb : Below B w W) (hB : B ≤ W.heap.size) (h : Calls Try.prog f args W fun e w' => R e ∧ Hid (Below W.heap.size W w')) : Calls Try.prog f args W fun e w' => R e ∧ Hid (Below B w w') :=
  h.mono fun _ _ ⟨r, h2⟩ => ⟨r, hb.trans (h2.out.mono hB)⟩
end Go.Proofs.Ytohhkogjphgimaa
