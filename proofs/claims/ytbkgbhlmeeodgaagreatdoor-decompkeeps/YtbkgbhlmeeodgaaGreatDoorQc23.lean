/- A part. -/
import Derived.Sort.QuietThIn
import Derived.Sort.BigQuietIn
import Derived.OwnWalkIn
import Derived.Shelf.RegionOpen
import Derived.Lib.QuietBelow
import Derived.BigQuiet
import Derived.Deep.RegionHeld3
import Derived.RangeFuncCalls
namespace Go.Proofs.YtbkgbhlmeeodgaaGreatDoor
open Go.RowKit Go.Sort
theorem round_fn (lq f:Nat):(Fence.wide.inRound lq).fn f=True:=rfl
def noDefer (l:List Oper):Bool:=l.all fun o=>match o.op with | .defer _=>false | _=>true
theorem noDefer_at {l:List Oper} (h:noDefer l=true) {i:Nat} {o:Oper} (ho:l.toArray[i]? = some o):∀ c,o.op ≠ .defer c:=by
 intro c e
 have hm:o∈l:=by
  rw [List.getElem?_toArray] at ho
  exact List.mem_of_getElem? ho
 have:=List.all_eq_true.1 h o hm
 rw [e] at this
 cases this
section
variable {F:Fence} {n:Nat} {P:Program} {C:World→Prop} {l:List Oper}
end
def OnlyN (Q:Exit→Act→World→Prop):Exit→Act→World→Prop
 | .normal,a,w=>Q .normal a w
 | _,_,_=>False
theorem only_out (Q:Exit→Act→World→Prop):¬LetsOut (OnlyN Q):=fun ⟨_,_,h⟩=>h
theorem only_imp {Q:Exit→Act→World→Prop}:∀ (e:Exit) (a:Act) (w:World),OnlyN Q e a w→Q e a w:=fun e a w h=>by
 cases e <;> first | exact h | exact (h:False).elim
section
variable {P:Program} {Q:Exit→Act→World→Prop}
theorem oper_round {n lq:Nat} {o:Oper} {a:Act} {w:World} {K K':Act→World→Prop} (hnd:∀ c,o.op ≠ .defer c) (hK:∀ a w,K a w→K' a w) (h:o.wp P a w K Q):o.wpIn (Fence.wide.inRound lq) n P a w K' Q:=by
 refine⟨fun _ _=>trivial,?_⟩
 rw [Oper.semAt_plain _ _ _ hnd]
 unfold Oper.wp at h
 generalize (execOp a.eval o).run P w=r at *
 cases r with
 | halt x w'=>cases x <;> simp only [Oper.upon,Oper.uponIn] at h ⊢ <;> exact h
 | ok x w'=>
  cases x with
  | enter f args=>
   simp only [Oper.upon,Oper.uponIn] at h ⊢
   refine⟨(fun e=>(by cases e)),CallsIn.inRound lq (callsIn_wide.2 (Calls.mono h (fun e w'' he=>?_)))⟩
   cases e with
   | returned v=>exact hK _ _ he
   | panicked c=>exact he
   | outgrown=>exact he
  | row r args=>
   simp only [Oper.upon,Oper.uponIn] at h ⊢
   refine⟨(fun e=>(by cases e)),fun c cs _=>?_⟩
   obtain⟨v,w',r,s⟩:=h c cs
   exact⟨v,w',hK _ _ r,stepsIn_wide.2 s⟩
  | _=>first
   | exact h.elim
   | exact hK _ _ h
theorem any_round' {n lq:Nat} {md:Region.Mode} {l:List Oper} (hnd:noDefer l=true):∀ (fuel:Nat) (listed:Array Bool) (a:Act) (w:World),
 wpAny P md l.toArray (OnlyN Q) fuel listed a w→wpAnyIn (Fence.wide.inRound lq) n P md l.toArray (OnlyN Q) fuel listed a w
 | 0,_,_,_,h=>h
 | fuel+1,listed,a,w,h=>⟨h.1,fun i hi=>by
  have hh:=h.2 i hi
  unfold wpOp at hh
  unfold wpOpIn
  split
  · rename_i ho
    simp only [ho] at hh
    exact any_round' hnd fuel _ _ _ hh
  · rename_i o ho
    simp only [ho] at hh
    split
    · rename_i hw
      simp only [hw,if_true] at hh
      exact oper_round (noDefer_at hnd ho) (fun a w h=>any_round' hnd fuel _ a w h) (hh.resolve_right (fun h=>only_out Q h.2))
    · rename_i hw
      simp only [hw] at hh
      exact⟨fun _ _=>trivial,any_round' hnd fuel _ _ _ hh⟩⟩
theorem in_round_held {n lq id:Nat} {l:List Oper} {a:Act} {w:World} (S:World→Prop) (hnd:noDefer l=true) (hm:P.follows .mixedOrders=true) (hS:S w.drew)
 (h:S w.drew→wpAnyH P .any l.toArray (OnlyN Q) S l.toArray.size (Array.replicate l.toArray.size false) a w.drew):(Code.region id l.toArray true).wpIn (Fence.wide.inRound lq) n P Q a w:=
 wpIn_mono (wpIn_region_any hm (any_round' hnd _ _ _ _ (wpAny_of_held _ _ _ _ (h hS)))) only_imp
variable {l:List Oper} {S:World→Prop}
theorem drop_get:∀ {l:List Oper} {i:Nat} {o:Oper} {rest:List Oper},l.drop i=o::rest→l.toArray[i]? = some o:=fun {l i o rest} h=>by
 rw [List.getElem?_toArray,←List.head?_drop,h]
 rfl
theorem rh_take {i:Nat} {oi:Oper} {rest:List Oper} {v:Value} {fuel:Nat} {listed:Array Bool} {a:Act} {w:World} (hd:l.drop i=oi::rest) (hs:Region.noSelect l.toArray=true) (hf:Region.free .any l.toArray listed i=true) (hr:(Region.ready .any l.toArray listed).contains i=true)
 (hw:Region.wanted oi (yielded l.toArray a.tmps)=true) (hy:∀ w,S w→(execOp a.eval oi).run P w=.ok (.value v) w) (hS:S w) (h:wpAnyH P .any l.toArray (OnlyN Q) S fuel (listed.setIfInBounds i true) (a.put oi.dst v) w):wpAnyH P .any l.toArray (OnlyN Q) S (fuel+1) listed a w:=
 wpAnyH_take (drop_get hd) hs hf hr (fun _ _ _ h=>h) (.inl ⟨hw,hy⟩) hS h
theorem rh_step {i:Nat} {oi:Oper} {rest:List Oper} {fuel:Nat} {listed:Array Bool} {a:Act} {w:World} (hd:l.drop i=oi::rest) (hr:Region.ready .any l.toArray listed = [i]) (hw:Region.wanted oi (yielded l.toArray a.tmps)=true)
 (h:∀ K:Act→World→Prop,Shut (∀ a w,S w→(S w→wpAnyH P .any l.toArray (OnlyN Q) S fuel (listed.setIfInBounds i true) a w)→K a w)→Oper.wp P oi a w K (OnlyN Q)):wpAnyH P .any l.toArray (OnlyN Q) S (fuel+1) listed a w:=
 wpAnyH_ready hr (by simp) (AllReadyH.cons (drop_get hd) (fun K hK=>by rw [if_pos hw];exact h K hK) AllReadyH.nil)
end
end Go.Proofs.YtbkgbhlmeeodgaaGreatDoor
