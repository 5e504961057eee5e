/- A part. -/
import Derived.Test.YtbkgbhlmeeodgaaGreatDoorQc05
namespace Go.Proofs.YtbkgbhlmeeodgaaGreatDoor
open Go.RowKit
theorem trim25 (l:List UInt8) (w:World) (hl:l.length≤1000000):Calls Tryz.prog 136 #[.string (bs l),.string ⟨#[32,9]⟩] w fun e w'=>e=.returned (.string (bs (trim l)))∧Below w.heap.size w w':=by
 have c:=Tryz.strings_Trim (bs l) ⟨#[32,9]⟩ w (by rw [bs_size];omega) (by decide) (ascii_of_all (by decide))
 refine c.mono fun e w' ⟨h1,h2⟩=>⟨h1.trans ?_,h2⟩
 rw [bs_data,←trimS_eq]
 rfl
theorem splitB_cut (c:UInt8):∀ (n:Nat) (b:List UInt8),b.length≤n→Lib.splitB (bs [c]) 0 (Lib.countB (bs b) (bs [c])) (bs b)=(cutAll c b).map bs
 | n,b,hn=>by
  have hsz:(bs [c]).size=1:=by rw [bs_size];rfl
  by_cases h:c∈b
  · obtain⟨a,t,rfl,ha⟩:=split_at c b h
    have hidx:Lib.indexB (bs (a++c::t)) (bs [c])=a.length:=by
     show Lib.index _ _=_
     rw [bs_data,bs_data,index_one c a t ha]
    have hext:(bs (a++c::t)).extract (a.length+(bs [c]).size) (bs (a++c::t)).size=bs t:=by
     rw [bs_ext,hsz,bs_size]
     congr 1
     rw [List.drop_append]
     simp
     rw [List.drop_of_length_le (by omega),List.nil_append,List.take_of_length_le (by omega)]
    rw [Lib.countB_hit _ _ a.length (by rw [hsz];exact Nat.le_refl _) hidx,hext,Nat.add_comm,Lib.splitB_hit _ _ _ _ a.length hidx,hext,cutAll_some c a t ha,List.map_cons]
    cases n with
    | zero=>simp at hn
    | succ n=>
     rw [splitB_cut c n t (by simp at hn;omega)]
     congr 1
     rw [bs_ext]
     simp
  · have hidx:Lib.indexB (bs b) (bs [c]) = -1:=by
     show Lib.index _ _=_
     rw [bs_data,bs_data,index_no c b h]
    rw [Lib.splitB_miss _ _ _ _ hidx,cutAll_none c b h]
    rfl
theorem countB_cut (c:UInt8) (b:List UInt8):Lib.countB (bs b) (bs [c])+1=(cutAll c b).length:=by
 have h:=Lib.splitB_all (bs [c]) (by rw [bs_size];exact Nat.le_refl _) 0 _ (bs b) rfl
 rw [splitB_cut c _ b (Nat.le_refl _),List.length_map] at h
 exact h.symm
theorem split44 (b:List UInt8) (w:World) (hb:b.length≤1000000) (hm:ML w):Calls Tryz.prog 173 #[.string (bs b),.string ⟨#[59]⟩] w fun e w'=>
 e=.returned (.slice (some ⟨w.heap.size,0,none⟩) (cutAll 59 b).length (cutAll 59 b).length)∧w'=w.alloc (.cells (strs (cutAll 59 b)).toArray 9):=by
 obtain⟨m,hm⟩:=hm
 have c:=Tryz.strings_Split (bs b) (bs [59]) m w (by rw [bs_size];omega) hm (by rw [bs_size];exact Nat.le_refl _)
 rw [countB_cut 59 b,splitB_cut 59 _ b (Nat.le_refl _),List.map_map] at c
 exact c
def SplRel (P:List (List UInt8)) (w:World) (i:Value) (wr:World):Prop:=
 Below w.heap.size w wr∧w.heap.size<wr.heap.size∧∃ k:Nat,i=.int .i64 k∧k≤P.length∧∀ j,j<P.length→wr.cell? ⟨w.heap.size,j,none⟩=some (.string (bs (if j<k then trim (P.getD j []) else P.getD j [])))∧wr.frozen? ⟨w.heap.size,j,none⟩=false
theorem spl_start (P:List (List UInt8)) (w:World):SplRel P w (.int .i64 0) (w.alloc (.cells (strs P).toArray 9)):=by
 refine⟨(Below.refl _ _).alloc (Nat.le_refl _) _,by simp,0,rfl,Nat.zero_le _,fun j hj=>⟨?_,?_⟩⟩
 · have:=lit_cells w (strs P) 9 j _ (strs_get hj)
   rw [add_at,Nat.zero_add] at this
   simpa using this
 · have h:=World.alloc_heap_new w (.cells (strs P).toArray 9)
   simp only [World.frozen?]
   rw [h]
   simp
theorem spl_step {P:List (List UInt8)} {w wr w1:World} {k:Nat} (hk:k<P.length) (hb:Below w.heap.size w wr) (hlt:w.heap.size<wr.heap.size)
 (hc:∀ j,j<P.length→wr.cell? ⟨w.heap.size,j,none⟩=some (.string (bs (if j<k then trim (P.getD j []) else P.getD j [])))∧wr.frozen? ⟨w.heap.size,j,none⟩=false)
 (h1:Below wr.heap.size wr w1):SplRel P w (.int .i64 ((k:Int)+1)) (w1.setCell ⟨w.heap.size,k,none⟩ (.string (bs (trim (P.getD k []))))):=by
 have hb1:=hb.trans (h1.mono hb.size)
 have hcell:∀ j,w1.cell? ⟨w.heap.size,j,none⟩=wr.cell? ⟨w.heap.size,j,none⟩:=fun j=>h1.cell (p:=⟨w.heap.size,j,none⟩) hlt
 have hfz:∀ j,w1.frozen? ⟨w.heap.size,j,none⟩=wr.frozen? ⟨w.heap.size,j,none⟩:=fun j=>by
  unfold World.frozen?
  rw [h1.block _ hlt]
 refine⟨hb1.setCell (p:=⟨w.heap.size,k,none⟩) (Nat.le_refl _) _,?_,k+1,by go_num,hk,fun j hj=>⟨?_,?_⟩⟩
 · rw [World.size_setCell];exact Nat.lt_of_lt_of_le hlt h1.size
 · by_cases e:j=k
   · subst e
     rw [World.cell?_setCell_same' _ _ _ (by rw [hcell,(hc j hj).1];rfl),if_pos (by omega)]
   · rw [World.cell?_setCell_other _ _ _ _ (by simp),hcell,(hc j hj).1]
     by_cases h:j<k
     · rw [if_pos h,if_pos (by omega)]
     · rw [if_neg h,if_neg (by omega)]
 · rw [World.frozen?_setCell,hfz];exact (hc j hj).2
def FieldsPost (b:List UInt8) (w:World) (e:Ending) (w':World):Prop:=
 Below w.heap.size w w'∧∃ A,e=.returned (.slice A (fieldsOf b).length (fieldsOf b).length)∧Vals w' A (fieldsOf b).length (strs (fieldsOf b))
set_option maxRecDepth 100000 in
set_option maxHeartbeats 1000000 in
theorem split26 (b:List UInt8) (w:World) (hb:b.length≤100000) (hm:ML w):Calls Tryz.prog 137 #[.string (bs b)] w (FieldsPost b w):=by
 have c44:=split44 b w (by omega) hm
 have hPl:=cutAll_length 59 b
 have hPp:=fun k (h:k<(cutAll 59 b).length)=>cutAll_mem_length 59 b _ (getD_mem (d:=[]) h)
 have hfin:Hid ((cutAll 59 b).map trim=fieldsOf b):=Lib.hid rfl
 obtain⟨P,hP⟩:∃ P,cutAll 59 b=P:=⟨_,rfl⟩
 rw [hP] at c44 hPl hPp hfin
 obtain⟨n,hn⟩:∃ n,P.length=n:=⟨_,rfl⟩
 rw [hn] at c44 hPl
 have HN:=Lib.hid hn
 have HPP:=Lib.hid hPp
 have hst:=Lib.hid (spl_start P w)
 clear hP hn hPp hm
 obtain⟨W,hW⟩:∃ W,w.alloc (.cells (strs P).toArray 9)=W:=⟨_,rfl⟩
 rw [hW] at c44 hst
 clear hW
 go_enter Tryz.func137,Tryz.ntmps137
 go_wp2_with (go_at_call 173;(with_reducible refine c44.mono ?_);rintro e w' ⟨rfl,rfl⟩)
 go_loopw [10] (fun i wr=>SplRel P w i wr) (fun i _=>n-(intOf i).toNat)
 case atStart=>exact hst.out
 case round=>
  obtain⟨hbel,hlt,k,rfl,hkP,hc⟩:=hrel
  by_cases hk:k<n
  · have hk':k<P.length:=by rw [HN.out];exact hk
    have hck:=(hc k hk').1
    rw [if_neg (Nat.lt_irrefl k)] at hck
    have hfk:=(hc k hk').2
    have c25:=trim25 (P.getD k []) wr (by have:=HPP.out k hk';omega)
    have hstep:=fun w1 h1=>@spl_step P w wr w1 k hk' hbel hlt hc h1
    obtain⟨p,hp⟩:∃ p,P.getD k []=p:=⟨_,rfl⟩
    rw [hp] at hck c25 hstep
    have HST:=Lib.hid hstep
    clear hc hstep hp hk' hkP
    have hfr:∀ w1,Below wr.heap.size wr w1→w1.frozen? ⟨w.heap.size,k,none⟩=false∧w1.cell? ⟨w.heap.size,k,none⟩=some (.string (bs p)):=fun w1 h1=>by
     refine⟨?_,(h1.cell (p:=⟨w.heap.size,k,none⟩) hlt).trans hck⟩
     have:=hfk
     unfold World.frozen? at this ⊢
     rw [h1.block _ hlt]
     exact this
    have HFR:=Lib.hid hfr
    clear hfr
    go_wp2_with (go_at_call 136;(with_reducible refine c25.mono ?_);rintro e w1 ⟨rfl,hb1⟩;obtain⟨hf1,hc1⟩:=HFR.out w1 hb1)
    go_roundw
    case rel=>exact HST.out w1 hb1
    case measure=>simp [intOf];omega
  · have hke:k=n:=by have:=HN.out;omega
    subst hke
    have hres:Hid (Vals wr (some ⟨w.heap.size,0,none⟩) (fieldsOf b).length (strs (fieldsOf b))):=by
     refine⟨strs_length _,fun _=>⟨_,_,rfl,hlt,fun j v hj=>?_⟩⟩
     rw [←hfin.out] at hj
     have hj':j<P.length:=by
      have:=(List.getElem?_eq_some_iff.1 hj).1
      rwa [strs_length,List.length_map] at this
     rw [strs_get (by rw [List.length_map];exact hj')] at hj
     cases hj
     rw [Nat.zero_add,(hc j hj').1,if_pos (by rw [←HN.out];exact hj')]
     simp [List.getD_eq_getElem?_getD,List.getElem?_eq_getElem hj']
    have hle:Hid ((fieldsOf b).length=k):=by rw [←hfin.out,List.length_map,HN.out];exact Lib.hid rfl
    clear hc hkP
    go_wp2
    go_ret
    have H:=hres.out
    exact⟨hbel,some ⟨w.heap.size,0,none⟩,by rw [hle.out];rfl,H⟩
end Go.Proofs.YtbkgbhlmeeodgaaGreatDoor
namespace Go.Proofs.YtbkgbhlmeeodgaaGreatDoor
open Go.RowKit Go.Shelf
attribute [local go_sem] Oper.semAt_some
def lenOf:Value→Nat
 | .slice _ n _=>n
 | _=>0
theorem lenOf_slice (A:Option Addr) (n c:Nat):lenOf (.slice A n c)=n:=rfl
set_option maxHeartbeats 1000000 in
theorem bodies24 (A:Option Addr) (n c:Nat) (w:World):Calls Tryz.prog 135 #[.slice A n c] w fun e w'=>e=.returned (.func (.func 163) #[] #[.pointer (some ⟨w.heap.size,0,none⟩)])∧w'=w.alloc (.cells #[.slice A n c] 22):=by
 go_enter Tryz.func135,Tryz.ntmps135
 go_wp2
 go_ret
 exact⟨rfl,rfl⟩
theorem rest_none {l:List UInt8} {n:Nat} (h:l.length=n) (h0:0<n) (hn:(10:UInt8)∉l):pieces l = [l]:=pieces_none hn (by rintro rfl;simp at h;omega)
theorem line_cut {P:Option Addr} {n c:Nat} {rest:List UInt8} {w:World} (hO:Octs w P n rest) (h0:0<n) (hc:n≤c):
 ∃ (k:Nat) (Q:Option Addr) (n2 c2:Nat) (f:Bool) (t:List UInt8),Lib.cutV P n c 1 (Lib.index (Lib.bytesOf (ints rest)) (Lib.bytesOf (ints [10])))=.tuple #[.slice P k c,.slice Q n2 c2,.bool f]∧k≤n∧n2<n∧n2≤c2∧(Q=none→c2=0) ∧
  (∀ a,Q=some a→∃ a',P=some a'∧a.block=a'.block)∧Octs w Q n2 t∧pieces rest=rest.take k::pieces t:=by
 have hl:=hO.len
 rw [ints_bytes,ints_bytes]
 obtain⟨b,off,rfl,-,-⟩:=hO.2 h0
 by_cases h:(10:UInt8)∈rest
 · obtain⟨a,t,rfl,ha⟩:=split_at 10 rest h
   rw [index_one 10 a t ha]
   have hlen:a.length+1≤n:=by simp at hl;omega
   refine⟨_,_,_,_,_,t,cutV_hit _ n c a.length,by omega,by omega,by omega,?_,?_,?_,?_⟩
   · intro h
     split at h
     · cases h
     · simp at h
   · intro x hx
     split at hx
     · exact⟨x,hx,rfl⟩
     · simp at hx
       subst hx
       exact⟨_,rfl,by simp [Addr.add]⟩
   · have:=octs_from hO (a.length+1) hlen hc
     rw [List.drop_append,List.drop_of_length_le (by omega)] at this
     simpa using this
   · rw [pieces_some ha]
     simp
 · rw [index_no 10 rest h]
   exact⟨_,_,_,_,_,[],cutV_miss _ n c,Nat.le_refl _,h0,Nat.le_refl _,fun _=>rfl,fun a e=>(by cases e),Vals.nil _ _,by rw [rest_none hl h0 h,pieces_nil,List.take_of_length_le (by omega)]⟩
end Go.Proofs.YtbkgbhlmeeodgaaGreatDoor
