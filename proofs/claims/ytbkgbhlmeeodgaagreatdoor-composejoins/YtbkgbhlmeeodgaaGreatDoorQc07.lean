/- A part. -/
import Derived.Test.YtbkgbhlmeeodgaaGreatDoorQc06
import Derived.Deep.RegionWith
import Derived.Deep.RegionHeld3
namespace Go.Proofs.YtbkgbhlmeeodgaaGreatDoor
open Go.RowKit Go.Shelf
attribute [local go_sem] Oper.semAt_some
abbrev LnV:=Int×Option Addr×List (List UInt8)
def view (x:LnV):Ln:=(x.1,x.2.2)
def lnVal (x:LnV):Array Value:=#[.agg #[.int .i64 x.1,.slice x.2.1 x.2.2.length x.2.2.length]]
def LnRd (x:LnV) (W:World):Prop:=Vals W x.2.1 x.2.2.length (strs x.2.2)∧x.2.2.length≤200000
theorem lnRd_abide (x:LnV) (B:Nat):Abide 0 0 B (fun (_:Unit) W=>LnRd x W):=by
 refine Abide.and ?_ (Abide.pure _ _ _ _)
 intro _ W W' row hs hg hr
 refine⟨hs.1,fun hn=>?_⟩
 obtain⟨b,off,e,hlt,hc⟩:=hs.2 hn
 refine⟨b,off,e,Nat.lt_of_lt_of_le hlt hg.size,fun j v hj=>?_⟩
 have h1:=hc j v hj
 obtain⟨o,ho,hcl⟩:=cells_of_cell h1
 refine (World.cell?_of_block (hg.block _ (Array.getElem?_eq_some_iff.1 ho).1 (fun e=>?_))).trans h1
 rcases hr _ e.symm with h | ⟨_,o',ho',hc'⟩
 · omega
 · rw [ho] at ho';cases ho';rw [hcl] at hc';cases hc'
def LinesPost (l:List UInt8) (n:Nat) (w:World) (e:Ending) (w':World):Prop:=
 Below w.heap.size w w'∧∃ B P c,e=.returned (.func (.func 134) #[] #[.pointer (some ⟨B,0,none⟩)])∧w.heap.size≤B∧B<w'.heap.size∧w'.cell? ⟨B,0,none⟩=some (.slice P n c)∧Octs w' P n l∧n≤c∧(P=none→c=0) ∧
  (∀ a,P=some a→w.heap.size≤a.block∧a.block<w'.heap.size)
def ClonePost (l:List UInt8) (n:Nat) (w:World) (e:Ending) (w':World):Prop:=
 Below w.heap.size w w'∧∃ P c,e=.returned (.slice P n c)∧Octs w' P n l∧n≤c∧(P=none→c=0)∧(∀ a,P=some a→w.heap.size≤a.block∧a.block<w'.heap.size)
theorem clone22 (A:Option Addr) (n c:Nat) (l:List UInt8) (w:World) (hO:Octs w A n l) (hn:n≤100000):Calls Tryz.prog 133 #[.slice A n c] w (ClonePost l n w):=by
 have hl:=hO.len
 cases A with
 | none=>
  have h0:n=0:=by
   rcases Nat.eq_zero_or_pos n with h | h
   · exact h
   · obtain⟨b,off,e,-⟩:=hO.2 h
     cases e
  subst h0
  obtain rfl:l = []:=List.eq_nil_of_length_eq_zero hl
  refine (Tryz.bytes_Clone_nil 0 c w).mono ?_
  rintro e w' ⟨rfl,rfl⟩
  exact⟨Below.refl _ _,none,0,rfl,Vals.nil _ _,Nat.le_refl _,fun _=>rfl,fun a e=>by cases e⟩
 | some ad=>
  have hcell:∀ i,i<n→w.cell? (ad.add i)=some (.int .u8 ((ints l).getD i 0)):=fun i hi=>by
   obtain⟨b,off,e,-,-⟩:=hO.2 (by omega)
   cases e
   have:=octs_cells hO i hi
   rw [show (⟨b,off,none⟩:Addr).add i=⟨b,off+i,none⟩ by simp [Addr.add]]
   exact this
  refine (Tryz.bytes_Clone_at ad n c (ints l) w (by rw [ints_length,hl]) (by omega) hcell).mono ?_
  rintro e w' ⟨v,rfl,hown,-,hb⟩
  have hlt:∀ g,v.ownBlock=some g→w.heap.size≤g∧g<w'.heap.size:=fun g hg=>by
   rcases hown.2 with ⟨rfl,_⟩ | ⟨g',cap,cur,rfl,h1,h2,_⟩
   · cases hg
   · cases hg
     exact⟨h1,(Array.getElem?_eq_some_iff.1 h2).1⟩
  obtain⟨P,c',rfl,hc,hV,hnil⟩:=own_vals hown
  exact⟨hb,P,c',rfl,hV,hc,hnil,fun a e=>hlt a.block (by rw [e];rfl)⟩
set_option maxHeartbeats 1000000 in
theorem lines9 (A:Option Addr) (n c:Nat) (l:List UInt8) (w:World) (hO:Octs w A n l) (hn:n≤100000):Calls Tryz.prog 110 #[.slice A n c] w (LinesPost l n w):=by
 have c22:=clone22 A n c l w hO hn
 clear hO
 go_enter Tryz.func110,Tryz.ntmps110
 go_wp2_with (go_at_call 133;(with_reducible refine c22.mono ?_);rintro e w1 ⟨hb1,P,c1,rfl,hO1,hc1,hP1,hA1⟩;have H1:=Lib.hid hO1;have H2:=Lib.hid hP1;have H3:=Lib.hid hA1;clear hO1 hP1 hA1)
 go_ret
 have b2:Below w1.heap.size w1 (w1.alloc (.cells #[.slice P n c1] 22)):=(Below.refl _ w1).alloc (Nat.le_refl _) _
 exact⟨hb1.trans (b2.mono hb1.size),w1.heap.size,P,c1,rfl,hb1.size,by simp,by simp,H1.out.below b2,hc1,H2.out,fun a e=>⟨(H3.out a e).1,by have:=(H3.out a e).2;simp;omega⟩⟩
def BX (Jx:List LnV→World→Prop) (c:Code) (pre:List (Int×List UInt8)) (W:World):Prop:=c=.ret∧∃ xs:List LnV,xs.map view=pre.filterMap lineOf∧Jx xs W
theorem bx_abide {Jx:List LnV→World→Prop} {B C:Nat} (hB:B≤C) (h:Abide 0 0 B Jx) (c:Code):Abide 0 0 C (BX Jx c):=by
 intro s W W' row hs hg hr
 obtain⟨e,xs,h1,h3⟩:=hs
 exact⟨e,xs,h1,h.mono (fun _ _ h=>absurd h (by omega)) hB xs W W' row h3 hg hr⟩
theorem leave23 {R:Ending→World→Prop} {Wf:World} {D m:Nat} {tmps:Array Value} (hk:Wf.heap[D]? = some (.deferred (some []))) (h:R (.returned (.tuple #[])) (Wf.putObj D (.deferred none))):
 LeavesInM Fence.wide m Tryz.prog Tryz.f134 tmps R [{ target:=.collected D,args:=#[] }] .returning Wf:=by
 refine⟨by simp,.inl ⟨_,_,rfl,run_takeDeferred hk,?_⟩⟩
 refine⟨.tuple #[],?_,h⟩
 simp [results,go_sem]
theorem round_any {m m' lq:Nat} {P:Program} {l:Nat} {f:FuncId} {tmps:Array Value} {assign body:Code} {w:World} {R:Ending→World→Prop} (h:RoundIn Fence.wide m P l f tmps assign body w R):RoundIn (Fence.wide.inRound lq) m' P l f tmps assign body w R:=⟨h.1,fun c cs _=>h.2 c cs (room_wide _)⟩
theorem below_drew {B:Nat} {a w:World} (h:Below B a w):Below B a w.drew:=⟨h.os,h.tape,h.output,h.size,h.block⟩
theorem below_of_drew {w w':World} (h:Below w.drew.heap.size w.drew w'):Below w.heap.size w w':=⟨h.os,h.tape,h.output,h.size,h.block⟩
def YieldsTo (m l lq:Nat) (x:LnV) (R:Bool→World→Prop) (W:World):Prop:=
 ∃ fn tmps assign body,(Instr.yield l #[.agg #[.int .i64 x.1,.slice x.2.1 x.2.2.length x.2.2.length]]).run Tryz.prog W=.ok (.round l fn tmps assign body) W∧RoundIn (Fence.wide.inRound lq) m Tryz.prog l fn tmps assign body W fun e W'=>∃ f,e=.returned (.bool f)∧R f W'
end Go.Proofs.YtbkgbhlmeeodgaaGreatDoor
