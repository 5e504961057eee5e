/- A part. -/
import Derived.Deep.RegionWith
import Derived.Deep.RegionHeld3
import Derived.Test.YtmellioacefjjaaGreatDoorQA08
namespace Go.Proofs.YtmellioacefjjaaGreatDoor
open Go.RowKit
theorem trim25 (l:List UInt8) (w:World) (hl:l.length≤1000000):Calls Tryz.prog 108 #[.string (bs l),.string ⟨#[32,9]⟩] w fun e w'=>e=.returned (.string (bs (trim l)))∧Below w.heap.size w w':=by
 have c:=Tryz.strings_Trim (bs l) ⟨#[32,9]⟩ w (by rw [bs_size];omega) (by decide) (ascii_of_all (by decide))
 refine c.mono fun e w' ⟨h1,h2⟩=>⟨h1.trans ?_,h2⟩
 rw [bs_data,←trimS_eq]
 rfl
theorem splitB_cut (c:UInt8):∀ (n:Nat) (b:List UInt8),b.length≤n→Lib.splitB (bs [c]) 0 (Lib.countB (bs b) (bs [c])) (bs b)=(cutAll c b).map bs
 | n,b,hn=>by
  have hsz:(bs [c]).size=1:=by rw [bs_size];rfl
  by_cases h:c∈b
  · obtain⟨a,t,rfl,ha⟩:=split_at c b h
    have hidx:Lib.indexB (bs (a++c::t)) (bs [c])=a.length:=by
     show Lib.index _ _=_
     rw [bs_data,bs_data,index_one c a t ha]
    have hext:(bs (a++c::t)).extract (a.length+(bs [c]).size) (bs (a++c::t)).size=bs t:=by
     rw [bs_ext,hsz,bs_size]
     congr 1
     rw [List.drop_append]
     simp
     rw [List.drop_of_length_le (by omega),List.nil_append,List.take_of_length_le (by omega)]
    rw [Lib.countB_hit _ _ a.length (by rw [hsz];exact Nat.le_refl _) hidx,hext,Nat.add_comm,Lib.splitB_hit _ _ _ _ a.length hidx,hext,cutAll_some c a t ha,List.map_cons]
    cases n with
    | zero=>simp at hn
    | succ n=>
     rw [splitB_cut c n t (by simp at hn;omega)]
     congr 1
     rw [bs_ext]
     simp
  · have hidx:Lib.indexB (bs b) (bs [c]) = -1:=by
     show Lib.index _ _=_
     rw [bs_data,bs_data,index_no c b h]
    rw [Lib.splitB_miss _ _ _ _ hidx,cutAll_none c b h]
    rfl
theorem countB_cut (c:UInt8) (b:List UInt8):Lib.countB (bs b) (bs [c])+1=(cutAll c b).length:=by
 have h:=Lib.splitB_all (bs [c]) (by rw [bs_size];exact Nat.le_refl _) 0 _ (bs b) rfl
 rw [splitB_cut c _ b (Nat.le_refl _),List.length_map] at h
 exact h.symm
theorem split44 (b:List UInt8) (w:World) (hb:b.length≤1000000) (hm:ML w):Calls Tryz.prog 143 #[.string (bs b),.string ⟨#[59]⟩] w fun e w'=>
 e=.returned (.slice (some ⟨w.heap.size,0,none⟩) (cutAll 59 b).length (cutAll 59 b).length)∧w'=w.alloc (.cells (strs (cutAll 59 b)).toArray 9):=by
 obtain⟨m,hm⟩:=hm
 have c:=Tryz.strings_Split (bs b) (bs [59]) m w (by rw [bs_size];omega) hm (by rw [bs_size];exact Nat.le_refl _)
 rw [countB_cut 59 b,splitB_cut 59 _ b (Nat.le_refl _),List.map_map] at c
 exact c
def SplRel (P:List (List UInt8)) (w:World) (i:Value) (wr:World):Prop:=
 Below w.heap.size w wr∧w.heap.size<wr.heap.size∧∃ k:Nat,i=.int .i64 k∧k≤P.length∧∀ j,j<P.length→wr.cell? ⟨w.heap.size,j,none⟩=some (.string (bs (if j<k then trim (P.getD j []) else P.getD j [])))∧wr.frozen? ⟨w.heap.size,j,none⟩=false
theorem spl_start (P:List (List UInt8)) (w:World):SplRel P w (.int .i64 0) (w.alloc (.cells (strs P).toArray 9)):=by
 refine⟨(Below.refl _ _).alloc (Nat.le_refl _) _,by simp,0,rfl,Nat.zero_le _,fun j hj=>⟨?_,?_⟩⟩
 · have:=lit_cells w (strs P) 9 j _ (strs_get hj)
   rw [add_at,Nat.zero_add] at this
   simpa using this
 · have h:=World.alloc_heap_new w (.cells (strs P).toArray 9)
   simp only [World.frozen?]
   rw [h]
   simp
theorem spl_step {P:List (List UInt8)} {w wr w1:World} {k:Nat} (hk:k<P.length) (hb:Below w.heap.size w wr) (hlt:w.heap.size<wr.heap.size)
 (hc:∀ j,j<P.length→wr.cell? ⟨w.heap.size,j,none⟩=some (.string (bs (if j<k then trim (P.getD j []) else P.getD j [])))∧wr.frozen? ⟨w.heap.size,j,none⟩=false)
 (h1:Below wr.heap.size wr w1):SplRel P w (.int .i64 ((k:Int)+1)) (w1.setCell ⟨w.heap.size,k,none⟩ (.string (bs (trim (P.getD k []))))):=by
 have hb1:=hb.trans (h1.mono hb.size)
 have hcell:∀ j,w1.cell? ⟨w.heap.size,j,none⟩=wr.cell? ⟨w.heap.size,j,none⟩:=fun j=>h1.cell (p:=⟨w.heap.size,j,none⟩) hlt
 have hfz:∀ j,w1.frozen? ⟨w.heap.size,j,none⟩=wr.frozen? ⟨w.heap.size,j,none⟩:=fun j=>by
  unfold World.frozen?
  rw [h1.block _ hlt]
 refine⟨hb1.setCell (p:=⟨w.heap.size,k,none⟩) (Nat.le_refl _) _,?_,k+1,by go_num,hk,fun j hj=>⟨?_,?_⟩⟩
 · rw [World.size_setCell];exact Nat.lt_of_lt_of_le hlt h1.size
 · by_cases e:j=k
   · subst e
     rw [World.cell?_setCell_same' _ _ _ (by rw [hcell,(hc j hj).1];rfl),if_pos (by omega)]
   · rw [World.cell?_setCell_other _ _ _ _ (by simp),hcell,(hc j hj).1]
     by_cases h:j<k
     · rw [if_pos h,if_pos (by omega)]
     · rw [if_neg h,if_neg (by omega)]
 · rw [World.frozen?_setCell,hfz];exact (hc j hj).2
def FieldsPost (b:List UInt8) (w:World) (e:Ending) (w':World):Prop:=
 Below w.heap.size w w'∧∃ A,e=.returned (.slice A (fieldsOf b).length (fieldsOf b).length)∧Vals w' A (fieldsOf b).length (strs (fieldsOf b))
set_option maxRecDepth 100000 in
set_option maxHeartbeats 1000000 in
theorem split26 (b:List UInt8) (w:World) (hb:b.length≤100000) (hm:ML w):Calls Tryz.prog 109 #[.string (bs b)] w (FieldsPost b w):=by
 have c44:=split44 b w (by omega) hm
 have hPl:=cutAll_length 59 b
 have hPp:=fun k (h:k<(cutAll 59 b).length)=>cutAll_mem_length 59 b _ (getD_mem (d:=[]) h)
 have hfin:Hid ((cutAll 59 b).map trim=fieldsOf b):=Lib.hid rfl
 obtain⟨P,hP⟩:∃ P,cutAll 59 b=P:=⟨_,rfl⟩
 rw [hP] at c44 hPl hPp hfin
 obtain⟨n,hn⟩:∃ n,P.length=n:=⟨_,rfl⟩
 rw [hn] at c44 hPl
 have HN:=Lib.hid hn
 have HPP:=Lib.hid hPp
 have hst:=Lib.hid (spl_start P w)
 clear hP hn hPp hm
 obtain⟨W,hW⟩:∃ W,w.alloc (.cells (strs P).toArray 9)=W:=⟨_,rfl⟩
 rw [hW] at c44 hst
 clear hW
 go_enter Tryz.func109,Tryz.ntmps109
 go_wp2_with (go_at_call 143;(with_reducible refine c44.mono ?_);rintro e w' ⟨rfl,rfl⟩)
 go_loopw [10] (fun i wr=>SplRel P w i wr) (fun i _=>n-(intOf i).toNat)
 case atStart=>exact hst.out
 case round=>
  obtain⟨hbel,hlt,k,rfl,hkP,hc⟩:=hrel
  by_cases hk:k<n
  · have hk':k<P.length:=by rw [HN.out];exact hk
    have hck:=(hc k hk').1
    rw [if_neg (Nat.lt_irrefl k)] at hck
    have hfk:=(hc k hk').2
    have c25:=trim25 (P.getD k []) wr (by have:=HPP.out k hk';omega)
    have hstep:=fun w1 h1=>@spl_step P w wr w1 k hk' hbel hlt hc h1
    obtain⟨p,hp⟩:∃ p,P.getD k []=p:=⟨_,rfl⟩
    rw [hp] at hck c25 hstep
    have HST:=Lib.hid hstep
    clear hc hstep hp hk' hkP
    have hfr:∀ w1,Below wr.heap.size wr w1→w1.frozen? ⟨w.heap.size,k,none⟩=false∧w1.cell? ⟨w.heap.size,k,none⟩=some (.string (bs p)):=fun w1 h1=>by
     refine⟨?_,(h1.cell (p:=⟨w.heap.size,k,none⟩) hlt).trans hck⟩
     have:=hfk
     unfold World.frozen? at this ⊢
     rw [h1.block _ hlt]
     exact this
    have HFR:=Lib.hid hfr
    clear hfr
    go_wp2_with (go_at_call 108;(with_reducible refine c25.mono ?_);rintro e w1 ⟨rfl,hb1⟩;obtain⟨hf1,hc1⟩:=HFR.out w1 hb1)
    go_roundw
    case rel=>exact HST.out w1 hb1
    case measure=>simp [intOf];omega
  · have hke:k=n:=by have:=HN.out;omega
    subst hke
    have hres:Hid (Vals wr (some ⟨w.heap.size,0,none⟩) (fieldsOf b).length (strs (fieldsOf b))):=by
     refine⟨strs_length _,fun _=>⟨_,_,rfl,hlt,fun j v hj=>?_⟩⟩
     rw [←hfin.out] at hj
     have hj':j<P.length:=by
      have:=(List.getElem?_eq_some_iff.1 hj).1
      rwa [strs_length,List.length_map] at this
     rw [strs_get (by rw [List.length_map];exact hj')] at hj
     cases hj
     rw [Nat.zero_add,(hc j hj').1,if_pos (by rw [←HN.out];exact hj')]
     simp [List.getD_eq_getElem?_getD,List.getElem?_eq_getElem hj']
    have hle:Hid ((fieldsOf b).length=k):=by rw [←hfin.out,List.length_map,HN.out];exact Lib.hid rfl
    clear hc hkP
    go_wp2
    go_ret
    have H:=hres.out
    exact⟨hbel,some ⟨w.heap.size,0,none⟩,by rw [hle.out];rfl,H⟩
end Go.Proofs.YtmellioacefjjaaGreatDoor
namespace Go.Proofs.YtmellioacefjjaaGreatDoor
open Go.RowKit Go.Shelf
attribute [local go_sem] Oper.semAt_some
def lenOf:Value→Nat
 | .slice _ n _=>n
 | _=>0
theorem lenOf_slice (A:Option Addr) (n c:Nat):lenOf (.slice A n c)=n:=rfl
set_option maxHeartbeats 1000000 in
theorem bodies24 (A:Option Addr) (n c:Nat) (w:World):Calls Tryz.prog 107 #[.slice A n c] w fun e w'=>e=.returned (.func (.func 133) #[] #[.pointer (some ⟨w.heap.size,0,none⟩)])∧w'=w.alloc (.cells #[.slice A n c] 22):=by
 go_enter Tryz.func107,Tryz.ntmps107
 go_wp2
 go_ret
 exact⟨rfl,rfl⟩
theorem rest_none {l:List UInt8} {n:Nat} (h:l.length=n) (h0:0<n) (hn:(10:UInt8)∉l):pieces l = [l]:=pieces_none hn (by rintro rfl;simp at h;omega)
theorem line_cut {P:Option Addr} {n c:Nat} {rest:List UInt8} {w:World} (hO:Octs w P n rest) (h0:0<n) (hc:n≤c):
 ∃ (k:Nat) (Q:Option Addr) (n2 c2:Nat) (f:Bool) (t:List UInt8),Lib.cutV P n c 1 (Lib.index (Lib.bytesOf (ints rest)) (Lib.bytesOf (ints [10])))=.tuple #[.slice P k c,.slice Q n2 c2,.bool f]∧k≤n∧n2<n∧n2≤c2∧(Q=none→c2=0) ∧
  (∀ a,Q=some a→∃ a',P=some a'∧a.block=a'.block)∧Octs w Q n2 t∧pieces rest=rest.take k::pieces t:=by
 have hl:=hO.len
 rw [ints_bytes,ints_bytes]
 obtain⟨b,off,rfl,-,-⟩:=hO.2 h0
 by_cases h:(10:UInt8)∈rest
 · obtain⟨a,t,rfl,ha⟩:=split_at 10 rest h
   rw [index_one 10 a t ha]
   have hlen:a.length+1≤n:=by simp at hl;omega
   refine⟨_,_,_,_,_,t,cutV_hit _ n c a.length,by omega,by omega,by omega,?_,?_,?_,?_⟩
   · intro h
     split at h
     · cases h
     · simp at h
   · intro x hx
     split at hx
     · exact⟨x,hx,rfl⟩
     · simp at hx
       subst hx
       exact⟨_,rfl,by simp [Addr.add]⟩
   · have:=octs_from hO (a.length+1) hlen hc
     rw [List.drop_append,List.drop_of_length_le (by omega)] at this
     simpa using this
   · rw [pieces_some ha]
     simp
 · rw [index_no 10 rest h]
   exact⟨_,_,_,_,_,[],cutV_miss _ n c,Nat.le_refl _,h0,Nat.le_refl _,fun _=>rfl,fun a e=>(by cases e),Vals.nil _ _,by rw [rest_none hl h0 h,pieces_nil,List.take_of_length_le (by omega)]⟩
abbrev LnV:=Int×Option Addr×List (List UInt8)
def view (x:LnV):Ln:=(x.1,x.2.2)
def lnVal (x:LnV):Array Value:=#[.agg #[.int .i64 x.1,.slice x.2.1 x.2.2.length x.2.2.length]]
def LnRd (x:LnV) (W:World):Prop:=Vals W x.2.1 x.2.2.length (strs x.2.2)∧x.2.2.length≤200000
theorem lnRd_abide (x:LnV) (B:Nat):Abide 0 0 B (fun (_:Unit) W=>LnRd x W):=by
 refine Abide.and ?_ (Abide.pure _ _ _ _)
 intro _ W W' row hs hg hr
 refine⟨hs.1,fun hn=>?_⟩
 obtain⟨b,off,e,hlt,hc⟩:=hs.2 hn
 refine⟨b,off,e,Nat.lt_of_lt_of_le hlt hg.size,fun j v hj=>?_⟩
 have h1:=hc j v hj
 obtain⟨o,ho,hcl⟩:=cells_of_cell h1
 refine (World.cell?_of_block (hg.block _ (Array.getElem?_eq_some_iff.1 ho).1 (fun e=>?_))).trans h1
 rcases hr _ e.symm with h | ⟨_,o',ho',hc'⟩
 · omega
 · rw [ho] at ho';cases ho';rw [hcl] at hc';cases hc'
def LinesPost (l:List UInt8) (n:Nat) (w:World) (e:Ending) (w':World):Prop:=
 Below w.heap.size w w'∧∃ B P c,e=.returned (.func (.func 106) #[] #[.pointer (some ⟨B,0,none⟩)])∧w.heap.size≤B∧B<w'.heap.size∧w'.cell? ⟨B,0,none⟩=some (.slice P n c)∧Octs w' P n l∧n≤c∧(P=none→c=0) ∧
  (∀ a,P=some a→w.heap.size≤a.block∧a.block<w'.heap.size)
def ClonePost (l:List UInt8) (n:Nat) (w:World) (e:Ending) (w':World):Prop:=
 Below w.heap.size w w'∧∃ P c,e=.returned (.slice P n c)∧Octs w' P n l∧n≤c∧(P=none→c=0)∧(∀ a,P=some a→w.heap.size≤a.block∧a.block<w'.heap.size)
theorem clone22 (A:Option Addr) (n c:Nat) (l:List UInt8) (w:World) (hO:Octs w A n l) (hn:n≤100000):Calls Tryz.prog 105 #[.slice A n c] w (ClonePost l n w):=by
 have hl:=hO.len
 cases A with
 | none=>
  have h0:n=0:=by
   rcases Nat.eq_zero_or_pos n with h | h
   · exact h
   · obtain⟨b,off,e,-⟩:=hO.2 h
     cases e
  subst h0
  obtain rfl:l = []:=List.eq_nil_of_length_eq_zero hl
  refine (Tryz.bytes_Clone_nil 0 c w).mono ?_
  rintro e w' ⟨rfl,rfl⟩
  exact⟨Below.refl _ _,none,0,rfl,Vals.nil _ _,Nat.le_refl _,fun _=>rfl,fun a e=>by cases e⟩
 | some ad=>
  have hcell:∀ i,i<n→w.cell? (ad.add i)=some (.int .u8 ((ints l).getD i 0)):=fun i hi=>by
   obtain⟨b,off,e,-,-⟩:=hO.2 (by omega)
   cases e
   have:=octs_cells hO i hi
   rw [show (⟨b,off,none⟩:Addr).add i=⟨b,off+i,none⟩ by simp [Addr.add]]
   exact this
  refine (Tryz.bytes_Clone_at ad n c (ints l) w (by rw [ints_length,hl]) (by omega) hcell).mono ?_
  rintro e w' ⟨v,rfl,hown,-,hb⟩
  have hlt:∀ g,v.ownBlock=some g→w.heap.size≤g∧g<w'.heap.size:=fun g hg=>by
   rcases hown.2 with ⟨rfl,_⟩ | ⟨g',cap,cur,rfl,h1,h2,_⟩
   · cases hg
   · cases hg
     exact⟨h1,(Array.getElem?_eq_some_iff.1 h2).1⟩
  obtain⟨P,c',rfl,hc,hV,hnil⟩:=own_vals hown
  exact⟨hb,P,c',rfl,hV,hc,hnil,fun a e=>hlt a.block (by rw [e];rfl)⟩
set_option maxHeartbeats 1000000 in
theorem lines9 (A:Option Addr) (n c:Nat) (l:List UInt8) (w:World) (hO:Octs w A n l) (hn:n≤100000):Calls Tryz.prog 86 #[.slice A n c] w (LinesPost l n w):=by
 have c22:=clone22 A n c l w hO hn
 clear hO
 go_enter Tryz.func86,Tryz.ntmps86
 go_wp2_with (go_at_call 105;(with_reducible refine c22.mono ?_);rintro e w1 ⟨hb1,P,c1,rfl,hO1,hc1,hP1,hA1⟩;have H1:=Lib.hid hO1;have H2:=Lib.hid hP1;have H3:=Lib.hid hA1;clear hO1 hP1 hA1)
 go_ret
 have b2:Below w1.heap.size w1 (w1.alloc (.cells #[.slice P n c1] 22)):=(Below.refl _ w1).alloc (Nat.le_refl _) _
 exact⟨hb1.trans (b2.mono hb1.size),w1.heap.size,P,c1,rfl,hb1.size,by simp,by simp,H1.out.below b2,hc1,H2.out,fun a e=>⟨(H3.out a e).1,by have:=(H3.out a e).2;simp;omega⟩⟩
def BX (Jx:List LnV→World→Prop) (c:Code) (pre:List (Int×List UInt8)) (W:World):Prop:=c=.ret∧∃ xs:List LnV,xs.map view=pre.filterMap lineOf∧Jx xs W
theorem bx_abide {Jx:List LnV→World→Prop} {B C:Nat} (hB:B≤C) (h:Abide 0 0 B Jx) (c:Code):Abide 0 0 C (BX Jx c):=by
 intro s W W' row hs hg hr
 obtain⟨e,xs,h1,h3⟩:=hs
 exact⟨e,xs,h1,h.mono (fun _ _ h=>absurd h (by omega)) hB xs W W' row h3 hg hr⟩
theorem leave23 {R:Ending→World→Prop} {Wf:World} {D m:Nat} {tmps:Array Value} (hk:Wf.heap[D]? = some (.deferred (some []))) (h:R (.returned (.tuple #[])) (Wf.putObj D (.deferred none))):
 LeavesInM Fence.wide m Tryz.prog Tryz.f106 tmps R [{ target:=.collected D,args:=#[] }] .returning Wf:=by
 refine⟨by simp,.inl ⟨_,_,rfl,run_takeDeferred hk,?_⟩⟩
 refine⟨.tuple #[],?_,h⟩
 simp [results,go_sem]
theorem round_any {m m' lq:Nat} {P:Program} {l:Nat} {f:FuncId} {tmps:Array Value} {assign body:Code} {w:World} {R:Ending→World→Prop} (h:RoundIn Fence.wide m P l f tmps assign body w R):RoundIn (Fence.wide.inRound lq) m' P l f tmps assign body w R:=⟨h.1,fun c cs _=>h.2 c cs (room_wide _)⟩
theorem below_drew {B:Nat} {a w:World} (h:Below B a w):Below B a w.drew:=⟨h.os,h.tape,h.output,h.size,h.block⟩
theorem below_of_drew {w w':World} (h:Below w.drew.heap.size w.drew w'):Below w.heap.size w w':=⟨h.os,h.tape,h.output,h.size,h.block⟩
def YieldsTo (m l lq:Nat) (x:LnV) (R:Bool→World→Prop) (W:World):Prop:=
 ∃ fn tmps assign body,(Instr.yield l #[.agg #[.int .i64 x.1,.slice x.2.1 x.2.2.length x.2.2.length]]).run Tryz.prog W=.ok (.round l fn tmps assign body) W∧RoundIn (Fence.wide.inRound lq) m Tryz.prog l fn tmps assign body W fun e W'=>∃ f,e=.returned (.bool f)∧R f W'
end Go.Proofs.YtmellioacefjjaaGreatDoor
namespace Go.Proofs.YtmellioacefjjaaGreatDoor
open Go.RowKit Go.Shelf
theorem frozen_new (w:World) (C:Array Value) (e:TypeId) (j:Nat):(w.alloc (.cells C e)).frozen? ⟨w.heap.size,j,none⟩=false:=by
 have h:=World.alloc_heap_new w (.cells C e)
 simp only [World.frozen?]
 rw [h]
 simp
theorem numbered_mem:∀ (n:Int) (L:List (List UInt8)) (x:Int×List UInt8),x∈numbered n L→∃ p∈L,x.2=bodyOf p
 | _,[],_,h=>by simp [numbered] at h
 | n,p::L,x,h=>by
  simp only [numbered,List.mem_cons] at h
  rcases h with rfl | h
  · exact⟨p,by simp,rfl⟩
  · obtain⟨q,hq,e⟩:=numbered_mem _ L x h
    exact⟨q,by simp [hq],e⟩
end Go.Proofs.YtmellioacefjjaaGreatDoor
namespace Go.Proofs.YtmellioacefjjaaGreatDoor
open Go.RowKit Go.Shelf
attribute [local go_sem] Oper.semAt_some
theorem info3:(Tryz.prog.info? 3).map (fun i=>(i.zero,i.size,i.bytes))=some (some (.int .i64 0),1,8):=by kernel_rfl
def i64s (cs:List Nat):List Value:=nums .i64 (cs.map fun c:Nat=>(c:Int))
theorem i64s_snoc (cs:List Nat) (c:Nat):i64s cs ++ [.int .i64 (c:Int)]=i64s (cs ++ [c]):=by simp [i64s,nums]
def RBox (w:World) (W:World):Prop:=
 (W.cell? ⟨w.heap.size,0,none⟩=some (.slice none 0 0)∧W.frozen? ⟨w.heap.size,0,none⟩=false)∧(W.cell? ⟨w.heap.size+1,0,none⟩=some (.int .i64 0)∧W.frozen? ⟨w.heap.size+1,0,none⟩=false)
def SqI (w:World) (base:Nat) (xs:List (List UInt8)) (W:World):Prop:=
 (∃ cs v,(xs.mapM point=some cs∧cs.length≤xs.length)∧(W.cell? ⟨w.heap.size+2,0,none⟩=some v∧W.frozen? ⟨w.heap.size+2,0,none⟩=false)∧W.ownsRow base 3 1 v cs.length (i64s cs))∧(RBox w W∧Below w.heap.size w W)
def SqX (w:World) (c:Code) (xs:List (List UInt8)) (W:World):Prop:=
 (c=.ret∧xs.mapM point=none)∧(W.cell? ⟨w.heap.size,0,none⟩=some (.slice none 0 0)∧W.cell? ⟨w.heap.size+1,0,none⟩=some (.int .i64 13))∧Below w.heap.size w W
theorem own_abide {β:Type} {n₀ n₁ B base:Nat} {v:Value} {n:Nat} {xs:List Value} {e:TypeId} (hb:n₁ ≤ base):Abide n₀ n₁ B (fun (_:β) W=>W.ownsRow base e 1 v n xs):=by
 intro _ W W' row hs hg hr
 refine⟨hs.1,?_⟩
 rcases hs.2 with hn | ⟨g,cap,cur,rfl,hbg,hgg,rest⟩
 · exact .inl hn
 · refine .inr ⟨g,cap,cur,rfl,hbg,?_,rest⟩
   rw [hg.block g (Array.getElem?_eq_some_iff.1 hgg).1 (fun e=>?_)]
   · exact hgg
   · rcases hr g e.symm with h | ⟨_,o,ho,hc⟩
     · omega
     · rw [hgg] at ho;cases ho;cases hc
theorem cell_abide' {β:Type} {n₀ n₁ B:Nat} (b:Nat) (v:Value) (hb:b<n₀ ∨ n₁ ≤ b):Abide n₀ n₁ B (fun (_:β) W=>W.cell? ⟨b,0,none⟩=some v∧W.frozen? ⟨b,0,none⟩=false):=
 abide_cell (fun _=>⟨b,0,none⟩) (fun _=>v) (fun _=>by show ¬(n₀ ≤ b∧b<n₁);omega)
theorem cell_abide'' {β:Type} {n₀ n₁ B:Nat} (b:Nat) (v:Value) (hb:b<n₀ ∨ n₁ ≤ b):Abide n₀ n₁ B (fun (_:β) W=>W.cell? ⟨b,0,none⟩=some v):=by
 intro _ W W' row hs hg hr
 obtain⟨o,ho,hc⟩:=cells_of_cell hs
 refine (World.cell?_of_block (hg.block _ (Array.getElem?_eq_some_iff.1 ho).1 (fun e=>?_))).trans hs
 rcases hr _ e.symm with h | ⟨_,o',ho',hc'⟩
 · have h:n₀ ≤ b∧b<n₁:=h
   omega
 · rw [ho] at ho';cases ho';rw [hc] at hc';cases hc'
theorem rbox_abide {β:Type} (w:World) (n₀ n₁ B:Nat) (h:w.heap.size+1<n₀):Abide n₀ n₁ B (fun (_:β) W=>RBox w W):=Abide.and (cell_abide' _ _ (.inl (by omega))) (cell_abide' _ _ (.inl h))
theorem sqi_abide (w:World) (n₀ n₁ B base:Nat) (h:w.heap.size+2<n₀) (h1:n₁ ≤ base) (hB:w.heap.size≤B):Abide n₀ n₁ B (SqI w base):=by
 intro xs W W' row hs hg hr
 obtain⟨⟨cs,v,h2,h3,h4⟩,h5,h6⟩:=hs
 exact⟨⟨cs,v,h2,cell_abide' (β:=Unit) _ _ (.inl h) () W W' row h3 hg hr,own_abide (β:=Unit) h1 () W W' row h4 hg hr⟩,rbox_abide (β:=Unit) w n₀ n₁ B (by omega) () W W' row h5 hg hr,abide_below (β:=Unit) w (.inl (by omega)) hB (Nat.le_refl _) () W W' row h6 hg hr⟩
theorem sqx_abide (w:World) (n₀ n₁ B:Nat) (h:w.heap.size+2<n₀) (hB:w.heap.size≤B) (c:Code):Abide n₀ n₁ B (SqX w c):=by
 intro xs W W' row hs hg hr
 obtain⟨h1,⟨h2,h3⟩,h4⟩:=hs
 exact⟨h1,⟨cell_abide'' (β:=Unit) _ _ (.inl (by omega)) () W W' row h2 hg hr,cell_abide'' (β:=Unit) _ _ (.inl (by omega)) () W W' row h3 hg hr⟩,abide_below (β:=Unit) w (.inl (by omega)) hB (Nat.le_refl _) () W W' row h4 hg hr⟩
def SeqPost (l:List UInt8) (w:World) (e:Ending) (w':World):Prop:=
 Below w.heap.size w w'∧((∃ cs A ca,seqOf l=some cs∧e=.returned (.tuple #[.slice A cs.length ca,.int .i64 0])∧Vals w' A cs.length (i64s cs)∧(∀ a,A=some a→w.heap.size≤a.block))∨(seqOf l=none∧e=.returned (.tuple #[.slice none 0 0,.int .i64 13])))
theorem leave15 {R:Ending→World→Prop} {w Wf:World} {D m:Nat} {tmps:Array Value} {v:Value} {e:Int} (ht:tmps[2]?.getD undef=.pointer (some ⟨w.heap.size,0,none⟩)) (ht':tmps[3]?.getD undef=.pointer (some ⟨w.heap.size+1,0,none⟩)) (hk:Wf.heap[D]? = some (.deferred (some [])))
 (h1:Wf.cell? ⟨w.heap.size,0,none⟩=some v) (h2:Wf.cell? ⟨w.heap.size+1,0,none⟩=some (.int .i64 e)) (h:R (.returned (.tuple #[v,.int .i64 e])) (Wf.putObj D (.deferred none))):
 LeavesInM Fence.wide m Tryz.prog Tryz.f127 tmps R [{ target:=.collected D,args:=#[] }] .returning Wf:=by
 refine⟨by simp,.inl ⟨_,_,rfl,run_takeDeferred hk,?_⟩⟩
 have k1:=cell_kept h1 (grownBy_putObj' _ D (.deferred none)) (fun r e=>by cases e;exact⟨_,hk,rfl⟩)
 have k2:=cell_kept h2 (grownBy_putObj' _ D (.deferred none)) (fun r e=>by cases e;exact⟨_,hk,rfl⟩)
 refine⟨.tuple #[v,.int .i64 e],?_,h⟩
 simp [results,Tryz.results127,go_sem,k1,k2,ht,ht']
theorem leave15_0 {R:Ending→World→Prop} {w Wf:World} {m:Nat} {tmps:Array Value} {v:Value} {e:Int} (ht:tmps[2]?.getD undef=.pointer (some ⟨w.heap.size,0,none⟩)) (ht':tmps[3]?.getD undef=.pointer (some ⟨w.heap.size+1,0,none⟩))
 (h1:Wf.cell? ⟨w.heap.size,0,none⟩=some v) (h2:Wf.cell? ⟨w.heap.size+1,0,none⟩=some (.int .i64 e)) (h:R (.returned (.tuple #[v,.int .i64 e])) Wf):
 LeavesInM Fence.wide m Tryz.prog Tryz.f127 tmps R [] .returning Wf:=by
 refine⟨.tuple #[v,.int .i64 e],?_,h⟩
 simp [results,Tryz.results127,go_sem,h1,h2,ht,ht']
end Go.Proofs.YtmellioacefjjaaGreatDoor
