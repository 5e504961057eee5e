/- A part. -/
import Derived.Test.YtmellioacefjjaaGreatDoorQA03
import Derived.Test.YtmellioacefjjaaGreatDoorQA04
namespace Go.Proofs.YtmellioacefjjaaGreatDoor.Uc
open Go.RowKit
def sideOf (s:Rw) (c:Int):Int:=if s.b<c then -1 else if c<s.a then 1 else 0
set_option maxRecDepth 100000 in
set_option maxHeartbeats 1000000 in
theorem side44 (s:Rw) (c:Int) (w:World):Calls Tryz.prog 64 #[rwV s,.int .i64 c] w fun e w'=>e=.returned (.int .i64 (sideOf s c))∧Below w.heap.size w w':=by
 obtain⟨xa,xb,xg,xc,xd,xp,xm,xk⟩:=s
 unfold rwV
 have HW:∀ T U,Below w.heap.size w (w.alloc (.cells #[.int .i64 xa,.int .i64 xb,.string T,.int .i64 xc,.string U,.slice xp xm xk] 33)):=fun T U=>(Below.refl _ _).alloc (Nat.le_refl _) _
 have HW:=Lib.hid HW
 obtain⟨T,hT⟩:∃ T,bs xg=T:=⟨_,rfl⟩
 obtain⟨U,hU⟩:∃ U,bs xd=U:=⟨_,rfl⟩
 simp only [hT,hU]
 clear hT hU
 by_cases h1:xb<c
 · have HR:Hid (sideOf ⟨xa,xb,xg,xc,xd,xp,xm,xk⟩ c = -1):=Lib.hid (by unfold sideOf;rw [if_pos h1])
   go_enter Tryz.func64,Tryz.ntmps64
   go_wp2
   go_ret
   exact⟨by rw [HR.out];rfl,HW.out _ _⟩
 · by_cases h2:c<xa
   · have HR:Hid (sideOf ⟨xa,xb,xg,xc,xd,xp,xm,xk⟩ c=1):=Lib.hid (by unfold sideOf;rw [if_neg h1,if_pos h2])
     go_enter Tryz.func64,Tryz.ntmps64
     go_wp2
     go_ret
     exact⟨by rw [HR.out];rfl,HW.out _ _⟩
   · have HR:Hid (sideOf ⟨xa,xb,xg,xc,xd,xp,xm,xk⟩ c=0):=Lib.hid (by unfold sideOf;rw [if_neg h1,if_neg h2])
     go_enter Tryz.func64,Tryz.ntmps64
     go_wp2
     go_ret
     exact⟨by rw [HR.out];rfl,HW.out _ _⟩
def Rises (ls:List Rw):Prop:=ls.Pairwise (fun s t=>s.b<t.a)∧∀ s∈ls,s.a≤s.b
def placeOf (ls:List Rw) (c:Int):Nat:=(ls.takeWhile fun t=>decide (t.b<c)).length
def foundAt (ls:List Rw) (c:Int):Bool:=match ls[placeOf ls c]? with | some t=>decide (sideOf t c=0) | none=>false
theorem side_neg {s : Rw} {c : Int} : sideOf s c < 0 ↔ s.b < c := by
  unfold sideOf
  split
  · simp [*]
  · split <;> simp [*]
theorem side_zero {s:Rw} {c:Int}:sideOf s c=0↔s.a≤c∧c≤s.b:=by
 unfold sideOf
 split
 · omega
 · split <;> omega
theorem place_at {ls:List Rw} {c:Int} {k:Nat} (hk:k≤ls.length) (h1:∀ j s,j<k→ls[j]? = some s→s.b<c) (h2:∀ j s,k≤j→ls[j]? = some s→c≤s.b):placeOf ls c=k:=by
 unfold placeOf
 induction ls generalizing k with
 | nil=>simp at hk;simp [hk]
 | cons t ls ih=>
  cases k with
  | zero=>
   have:=h2 0 t (Nat.le_refl _) rfl
   rw [List.takeWhile_cons_of_neg (by simp;omega)]
   rfl
  | succ k=>
   have:=h1 0 t (by omega) rfl
   rw [List.takeWhile_cons_of_pos (by simp [this]),List.length_cons,ih (k:=k) (by simpa using hk) (fun j s hj hs=>h1 (j+1) s (by omega) (by simpa using hs)) (fun j s hj hs=>h2 (j+1) s (by omega) (by simpa using hs))]
theorem rises_b {ls:List Rw} (hr:Rises ls) {i j:Nat} {s t:Rw} (hij:i≤j) (hs:ls[i]? = some s) (ht:ls[j]? = some t):s.b≤t.b:=by
 rcases Nat.lt_or_eq_of_le hij with h | h
 · have hi:=(List.getElem?_eq_some_iff.1 hs)
   have hj:=(List.getElem?_eq_some_iff.1 ht)
   have:=List.pairwise_iff_getElem.1 hr.1 i j hi.1 hj.1 h
   rw [hi.2,hj.2] at this
   have:=hr.2 t (List.mem_of_getElem? ht)
   omega
 · subst h
   rw [hs] at ht
   injection ht with ht
   rw [ht]
   exact Int.le_refl _
theorem at_found {ls:List Rw} {c:Int} {s:Rw} (hs:ls[placeOf ls c]? = some s) (h:sideOf s c=0):atOf ls c=s:=by
 refine at_take hs (fun t ht=>?_) (side_zero.1 h)
 unfold placeOf at ht
 have e:ls.take (ls.takeWhile fun t=>decide (t.b<c)).length=ls.takeWhile fun t=>decide (t.b<c):=by
  have:=List.takeWhile_prefix (l:=ls) (fun t=>decide (t.b<c))
  exact (List.prefix_iff_eq_take.1 this).symm
 rw [e] at ht
 have:=List.all_takeWhile (l:=ls) (p:=fun t=>decide (t.b<c))
 rw [List.all_eq_true] at this
 have:=of_decide_eq_true (this t ht)
 omega
theorem at_lost:∀ {ls:List Rw} {c:Int},Rises ls→foundAt ls c=false→atOf ls c=rw0
 | [],_,_,_=>rfl
 | t::ls,c,hr,h=>by
  have hr':Rises ls:=⟨(List.pairwise_cons.1 hr.1).2,fun s hs=>hr.2 s (List.mem_cons_of_mem _ hs)⟩
  by_cases hb:t.b<c
  · have hp:placeOf (t::ls) c=placeOf ls c+1:=by unfold placeOf;rw [List.takeWhile_cons_of_pos (by simp [hb])];rfl
    have hf:foundAt ls c=false:=by
     unfold foundAt at h ⊢
     rw [hp,List.getElem?_cons_succ] at h
     exact h
    have:=at_lost hr' hf
    unfold atOf at this ⊢
    rw [List.find?_cons_of_neg (by simp;omega)]
    exact this
  · have hp:placeOf (t::ls) c=0:=by unfold placeOf;rw [List.takeWhile_cons_of_neg (by simp;omega)];rfl
    have hf:¬sideOf t c=0:=by
     unfold foundAt at h
     rw [hp] at h
     exact of_decide_eq_false h
    have h1:¬(t.a≤c∧c≤t.b):=fun h=>hf (side_zero.2 h)
    have h2:=hr.2 t (List.mem_cons_self ..)
    refine at_gap fun u hu hc=>?_
    rcases List.mem_cons.1 hu with rfl | hu
    · exact h1 hc
    · have:=(List.pairwise_cons.1 hr.1).1 u hu
      omega
theorem found_some {ls:List Rw} {c:Int} (h:foundAt ls c=true):∃ s,ls[placeOf ls c]? = some s∧sideOf s c=0:=by
 unfold foundAt at h
 split at h
 · rename_i t ht
   exact⟨t,ht,of_decide_eq_true h⟩
 · cases h
def BinRel (ls:List Rw) (c:Int) (W:World) (s9 s10:Value) (wr:World):Prop:=
 Below W.heap.size W wr∧∃ lo hi:Nat,s9=.int .i64 lo∧s10=.int .i64 hi∧lo≤hi∧hi≤ls.length∧(∀ j s,j<lo→ls[j]? = some s→s.b<c)∧(∀ j s,hi≤j→ls[j]? = some s→c≤s.b)
def BinPost (ls:List Rw) (c:Int) (w:World) (e:Ending) (w':World):Prop:=
 e=.returned (.tuple #[.int .i64 (placeOf ls c),.bool (foundAt ls c)])∧Below w.heap.size w w'
set_option maxRecDepth 100000 in
set_option maxHeartbeats 4000000 in
theorem bin43 (A:Option Addr) (n ca:Nat) (ls:List Rw) (x:Int) (w:World) (hV:RAt w A n ls) (hn:n≤100000) (hr:Rises ls):
 Calls Tryz.prog 63 #[.slice A n ca,.int .i64 x,.func (.func 64) #[] #[]] w (BinPost ls x w):=by
 have HV:=Lib.hid hV
 have HL:=Lib.hid hV.1
 have HR:=Lib.hid hr
 clear hV hr
 go_enter Tryz.func63,Tryz.ntmps63
 go_wp2
 go_loopw [9,10] (fun s9 s10 wr=>BinRel ls x w s9 s10 wr) (fun s9 s10 _=>(intOf s10).toNat-(intOf s9).toNat)
 case atStart=>exact⟨Below.refl _ _,0,n,rfl,rfl,Nat.zero_le _,by rw [HL.out];exact Nat.le_refl _,fun j s hj=>absurd hj (by omega),fun j s hj hs=>by have:=(List.getElem?_eq_some_iff.1 hs).1;rw [HL.out] at this;omega⟩
 case round=>
  obtain⟨hbel,lo,hi,rfl,rfl,hlh,hin,i1,i2⟩:=hrel
  have I1:=Lib.hid i1
  have I2:=Lib.hid i2
  rw [HL.out] at hin
  clear i1 i2
  by_cases hlt:lo<hi
  · obtain⟨b,off,rfl,hblt,hc⟩:=(HV.out.below hbel).2 (by omega)
    obtain⟨m,hm⟩:∃ m,(lo+hi)/2=m:=⟨_,rfl⟩
    have hmI:((lo:Int)+(hi:Int))/2=(m:Int):=by omega
    have hml:lo≤m:=by omega
    have hmh:m<hi:=by omega
    have hmn:m<n:=by omega
    clear hm
    obtain⟨s,hs⟩:=getRw (ls:=ls) (k:=m) (by rw [HL.out];omega)
    obtain⟨h1,h2,h3,h4,h5,h6⟩:=hc _ s hs
    have HS:=Lib.hid hs
    have c44:=fun W'=>side44 s x W'
    unfold rwV at c44
    obtain⟨T,hT⟩:∃ T,bs s.gc=T:=⟨_,rfl⟩
    obtain⟨U,hU⟩:∃ U,bs s.bd=U:=⟨_,rfl⟩
    rw [hT] at h3 c44
    rw [hU] at h5 c44
    obtain⟨X,hX⟩:∃ X,sideOf s x=X:=⟨_,rfl⟩
    rw [hX] at c44
    have HXX:=Lib.hid hX
    have HBE:=Lib.hid hbel
    have C44:=Lib.hid c44
    clear hc hs hT hU hX hbel c44
    by_cases hx:X<0
    · go_wp2_with (go_at_call 64;(with_reducible refine (C44.out _).mono ?_);rintro e w1 ⟨rfl,hb1⟩)
      go_roundw
      case measure=>simp [intOf];omega
      case rel=>
       refine⟨HBE.out.trans (hb1.mono HBE.out.size),m+1,hi,by go_num,rfl,by omega,by rw [HL.out];omega,fun j t hj ht=>?_,I2.out⟩
       have:=side_neg.1 (by rw [HXX.out];exact hx)
       have:=rises_b HR.out (by omega) ht HS.out
       omega
    · go_wp2_with (go_at_call 64;(with_reducible refine (C44.out _).mono ?_);rintro e w1 ⟨rfl,hb1⟩)
      go_roundw
      case measure=>simp [intOf];omega
      case rel=>
       refine⟨HBE.out.trans (hb1.mono HBE.out.size),lo,m,rfl,by go_num,by omega,by rw [HL.out];omega,I1.out,fun j t hj ht=>?_⟩
       have:=mt side_neg.2 (by rw [HXX.out];omega)
       have:=rises_b HR.out (by omega) HS.out ht
       omega
  · obtain rfl:hi=lo:=by omega
    have HP:=Lib.hid (place_at (c:=x) (by rw [HL.out];exact hin) I1.out I2.out)
    by_cases hn2:hi<n
    · obtain⟨b,off,rfl,hblt,hc⟩:=(HV.out.below hbel).2 (by omega)
      obtain⟨s,hs⟩:=getRw (ls:=ls) (k:=hi) (by rw [HL.out];omega)
      obtain⟨h1,h2,h3,h4,h5,h6⟩:=hc _ s hs
      have c44:=fun W'=>side44 s x W'
      unfold rwV at c44
      obtain⟨T,hT⟩:∃ T,bs s.gc=T:=⟨_,rfl⟩
      obtain⟨U,hU⟩:∃ U,bs s.bd=U:=⟨_,rfl⟩
      rw [hT] at h3 c44
      rw [hU] at h5 c44
      have HFo:Hid (foundAt ls x=decide (sideOf s x=0)):=Lib.hid (by unfold foundAt;rw [HP.out,hs])
      obtain⟨X,hX⟩:∃ X,sideOf s x=X:=⟨_,rfl⟩
      rw [hX] at c44 HFo
      have HBE:=Lib.hid hbel
      have C44:=Lib.hid c44
      clear hc hs hT hU hX hbel c44
      by_cases hx:X=0
      · subst hx
        go_wp2_with (go_at_call 64;(with_reducible refine (C44.out _).mono ?_);rintro e w1 ⟨rfl,hb1⟩)
        go_ret2
        exact⟨by rw [HP.out,HFo.out];rfl,HBE.out.trans (hb1.mono HBE.out.size)⟩
      · have hx0:(X==0)=false:=beq_false_of_ne hx
        have hxd:decide (X=0)=false:=by simp [hx]
        have HXD:=Lib.hid hxd
        clear hx hxd
        go_wp2_with (go_at_call 64;(with_reducible refine (C44.out _).mono ?_);rintro e w1 ⟨rfl,hb1⟩)
        go_ret2
        exact⟨by rw [HP.out,HFo.out,HXD.out];rfl,HBE.out.trans (hb1.mono HBE.out.size)⟩
    · have HFo:Hid (foundAt ls x=false):=Lib.hid (by unfold foundAt;rw [HP.out,List.getElem?_eq_none (by rw [HL.out];omega)])
      have HBE:=Lib.hid hbel
      clear hbel
      obtain rfl:hi=n:=by omega
      go_wp2
      go_ret2
      exact⟨by rw [HP.out,HFo.out];rfl,HBE.out⟩
def FitP (p:Pr):Prop:=0≤p.a∧p.a≤p.b∧p.b≤1114111∧p.dec.length≤2
def Good (ps:List Pr):Prop:=ps.Pairwise (fun s t=>s.b<t.a)∧∀ s∈ps,FitP s
theorem good_nil:Good []:=⟨List.Pairwise.nil,fun s h=>by cases h⟩
theorem last_none:∀ {ps:List Pr},lastB ps=none→ps = []
 | [],_=>rfl
 | [_],h=>by cases h
 | _::q::t,h=>by have:=last_none (ps:=q::t) h;cases this
theorem last_max:∀ {ps:List Pr} {b:Int},Good ps→lastB ps=some b→∀ s∈ps,s.b≤b
 | [],_,_,h,_,hs=>by cases hs
 | [p],b,_,h,s,hs=>by
  rw [List.mem_singleton.1 hs]
  have e:some p.b=some b:=h
  injection e with e
  omega
 | p::q::t,b,hg,h,s,hs=>by
  have hg':Good (q::t):=⟨(List.pairwise_cons.1 hg.1).2,fun s hs=>hg.2 s (List.mem_cons_of_mem _ hs)⟩
  have ih:=last_max (ps:=q::t) (b:=b) hg' h
  rcases List.mem_cons.1 hs with rfl | hs
  · have h1:=(List.pairwise_cons.1 hg.1).1 q (List.mem_cons_self ..)
    have h2:=ih q (List.mem_cons_self ..)
    have h3:=(hg'.2 q (List.mem_cons_self ..)).2.1
    omega
  · exact ih s hs
theorem good_snoc {out:List Pr} {p:Pr} (hg:Good out) (ht:¬twice out p=true) (hf:FitP p):Good (out ++ [p]):=by
 refine⟨List.pairwise_append.2 ⟨hg.1,List.pairwise_singleton _ _,fun s hs t ht'=>?_⟩,fun s hs=>?_⟩
 · rw [List.mem_singleton.1 ht']
   unfold twice at ht
   cases hl:lastB out with
   | none=>rw [last_none hl] at hs;cases hs
   | some b=>
    rw [hl] at ht
    have:=last_max hg hl s hs
    simp at ht
    omega
 · rcases List.mem_append.1 hs with h | h
   · exact hg.2 s h
   · rw [List.mem_singleton.1 h];exact hf
theorem fit_row {f:List (List UInt8)} (h:rowErr f=0):FitP (rowVal f):=by
 obtain⟨-,⟨c,hc⟩,-,hd⟩:=row_ok h
 have:=point_range hc
 unfold FitP rowVal
 rw [hc]
 simp only [pI]
 exact⟨by omega,by omega,by omega,dec_two hd⟩
theorem join_lt {f g:List (List UInt8)} (h:¬joinB f g=false):(rowVal f).a<(rowVal g).a:=by
 have h:joinB f g=true:=by simpa using h
 unfold joinB at h
 simp only [Bool.and_eq_true,decide_eq_true_eq] at h
 exact h.2.2.2.2.2.2
theorem good_ref:∀ (l:List Ln) (out:List Pr),Good out→Good (refP out l).rows
 | [],out,hg=>by rw [refP];exact hg
 | x::t,out,hg=>by
  rw [refP.eq_def]
  simp only []
  by_cases h1:¬rowErr x.2=0
  · rw [if_pos h1];exact good_nil
  rw [if_neg h1]
  have hx:=fit_row (by simpa using h1)
  by_cases h2:twice out (rowVal x.2)=true
  · rw [if_pos h2];exact good_nil
  rw [if_neg h2]
  by_cases h3:namedB (fld x.2 1) nmF=true
  · rw [if_pos h3]
    cases t with
    | nil=>exact good_nil
    | cons y t'=>
     simp only []
     by_cases h4:¬rowErr y.2=0
     · rw [if_pos h4];exact good_nil
     rw [if_neg h4]
     have hy:=fit_row (by simpa using h4)
     by_cases h5:joinB x.2 y.2=false
     · rw [if_pos h5];exact good_nil
     rw [if_neg h5]
     have hj:=join_lt h5
     refine good_ref t' _ (good_snoc (p:={ rowVal x.2 with b:=(rowVal y.2).a }) hg h2 ?_)
     obtain⟨a1,a2,a3,a4⟩:=hx
     obtain⟨b1,b2,b3,b4⟩:=hy
     exact⟨a1,Int.le_of_lt hj,Int.le_trans b2 b3,a4⟩
  · rw [if_neg h3]
    exact good_ref t _ (good_snoc hg h2 hx)
def Is (w:World) (s:Rw) (p:Pr):Prop:=s.a=p.a∧s.b=p.b∧s.gc=p.gc∧s.ccc=p.ccc∧s.bd=p.bd∧s.dm=p.dec.length∧Vals w s.dp s.dm (nums .i64 (p.dec.map fun c:Nat=>(c:Int)))
theorem Is.below {w w':World} {s:Rw} {p:Pr} (h:Is w s p) (hb:Below w.heap.size w w'):Is w' s p:=⟨h.1,h.2.1,h.2.2.1,h.2.2.2.1,h.2.2.2.2.1,h.2.2.2.2.2.1,h.2.2.2.2.2.2.below hb⟩
theorem is0 (w:World):Is w rw0 pr0:=⟨rfl,rfl,rfl,rfl,rfl,rfl,Vals.nil _ _⟩
def Ist (w:World):List Rw→List Pr→Prop
 | [],[]=>True
 | s::ls,p::ps=>Is w s p∧Ist w ls ps
 | _,_=>False
theorem Ist.of {w w':World} (h:∀ s p,Is w s p→Is w' s p):∀ {ls:List Rw} {ps:List Pr},Ist w ls ps→Ist w' ls ps
 | [],[],_=>trivial
 | _::_,_::_,hc=>⟨h _ _ hc.1,Ist.of h hc.2⟩
 | [],_::_,hc=>hc.elim
 | _::_,[],hc=>hc.elim
theorem Ist.below {w w':World} {ls:List Rw} {ps:List Pr} (h:Ist w ls ps) (hb:Below w.heap.size w w'):Ist w' ls ps:=Ist.of (fun _ _ h=>h.below hb) h
theorem Ist.len {w:World}:∀ {ls:List Rw} {ps:List Pr},Ist w ls ps→ls.length=ps.length
 | [],[],_=>rfl
 | _::_,_::_,hc=>by simp [Ist.len hc.2]
 | [],_::_,hc=>hc.elim
 | _::_,[],hc=>hc.elim
theorem Ist.snoc {w:World} {s:Rw} {p:Pr} (hs:Is w s p):∀ {ls:List Rw} {ps:List Pr},Ist w ls ps→Ist w (ls ++ [s]) (ps ++ [p])
 | [],[],_=>⟨hs,trivial⟩
 | _::_,_::_,hc=>⟨hc.1,Ist.snoc hs hc.2⟩
 | [],_::_,hc=>hc.elim
 | _::_,[],hc=>hc.elim
theorem Ist.get {w:World}:∀ {ls:List Rw} {ps:List Pr} {j:Nat} {s:Rw},Ist w ls ps→ls[j]? = some s→∃ p,ps[j]? = some p∧Is w s p
 | _::_,p::_,0,s,hc,hj=>by
  simp at hj
  subst hj
  exact⟨p,rfl,hc.1⟩
 | _::_,_::_,j+1,s,hc,hj=>Ist.get (j:=j) hc.2 (by simpa using hj)
 | [],_,_,_,_,hj=>by simp at hj
 | _::_,[],_,_,hc,_=>hc.elim
def patOf (ps:List Pr) (c:Int):Pr:=(ps.find? fun p=>decide (p.a≤c∧c≤p.b)).getD pr0
theorem ist_at {w:World}:∀ {ls:List Rw} {ps:List Pr} (c:Int),Ist w ls ps→Is w (atOf ls c) (patOf ps c)
 | [],[],_,_=>is0 w
 | s::ls,p::ps,c,hc=>by
  have ih:=ist_at c hc.2
  unfold atOf patOf at ih ⊢
  have e:decide (s.a≤c∧c≤s.b)=decide (p.a≤c∧c≤p.b):=by rw [hc.1.1,hc.1.2.1]
  cases hd:decide (s.a≤c∧c≤s.b) with
  | true=>
   rw [List.find?_cons_of_pos (by simpa using hd),List.find?_cons_of_pos (by rw [←e];exact hd)]
   exact hc.1
  | false=>
   rw [List.find?_cons_of_neg (by simpa using hd),List.find?_cons_of_neg (by rw [←e,hd];simp)]
   exact ih
 | [],_::_,_,hc=>hc.elim
 | _::_,[],_,hc=>hc.elim
theorem ist_mem {w:World} {ls:List Rw} {ps:List Pr} (h:Ist w ls ps) {s:Rw} (hs:s∈ls):∃ p∈ps,Is w s p:=by
 obtain⟨j,hj⟩:=List.mem_iff_getElem?.1 hs
 obtain⟨p,hp,hi⟩:=h.get hj
 exact⟨p,List.mem_of_getElem? hp,hi⟩
theorem ist_rises {w:World}:∀ {ls:List Rw} {ps:List Pr},Ist w ls ps→Good ps→Rises ls
 | [],[],_,_=>⟨List.Pairwise.nil,fun s h=>by cases h⟩
 | s::ls,p::ps,hc,hg=>by
  have hg':Good ps:=⟨(List.pairwise_cons.1 hg.1).2,fun s hs=>hg.2 s (List.mem_cons_of_mem _ hs)⟩
  have ih:=ist_rises hc.2 hg'
  refine⟨List.pairwise_cons.2 ⟨fun t ht=>?_,ih.1⟩,fun t ht=>?_⟩
  · obtain⟨q,hq,hi⟩:=ist_mem hc.2 ht
    rw [hc.1.2.1,hi.1]
    exact (List.pairwise_cons.1 hg.1).1 q hq
  · rcases List.mem_cons.1 ht with rfl | ht
    · rw [hc.1.1,hc.1.2.1]
      exact (hg.2 p (List.mem_cons_self ..)).2.1
    · exact ih.2 t ht
 | [],_::_,hc,_=>hc.elim
 | _::_,[],hc,_=>hc.elim
end Go.Proofs.YtmellioacefjjaaGreatDoor.Uc
