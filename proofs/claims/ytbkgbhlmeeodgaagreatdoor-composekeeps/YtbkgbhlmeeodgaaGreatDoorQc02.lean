/- A part. -/
import Derived.Test.YtbkgbhlmeeodgaaGreatDoorQc01
import Derived.Laws.AppendOwnNone
namespace Go.Proofs.YtbkgbhlmeeodgaaGreatDoor.Uc
open Go.RowKit
def sideOf (s:Rw) (c:Int):Int:=if s.b<c then -1 else if c<s.a then 1 else 0
set_option maxRecDepth 100000 in
set_option maxHeartbeats 1000000 in
theorem side44 (s:Rw) (c:Int) (w:World):Calls Tryz.prog 86 #[rwV s,.int .i64 c] w fun e w'=>e=.returned (.int .i64 (sideOf s c))∧Below w.heap.size w w':=by
 obtain⟨xa,xb,xg,xc,xd,xp,xm,xk⟩:=s
 unfold rwV
 have HW:∀ T U,Below w.heap.size w (w.alloc (.cells #[.int .i64 xa,.int .i64 xb,.string T,.int .i64 xc,.string U,.slice xp xm xk] 65)):=fun T U=>(Below.refl _ _).alloc (Nat.le_refl _) _
 have HW:=Lib.hid HW
 obtain⟨T,hT⟩:∃ T,bs xg=T:=⟨_,rfl⟩
 obtain⟨U,hU⟩:∃ U,bs xd=U:=⟨_,rfl⟩
 simp only [hT,hU]
 clear hT hU
 by_cases h1:xb<c
 · have HR:Hid (sideOf ⟨xa,xb,xg,xc,xd,xp,xm,xk⟩ c = -1):=Lib.hid (by unfold sideOf;rw [if_pos h1])
   go_enter Tryz.func86,Tryz.ntmps86
   go_wp2
   go_ret
   exact⟨by rw [HR.out];rfl,HW.out _ _⟩
 · by_cases h2:c<xa
   · have HR:Hid (sideOf ⟨xa,xb,xg,xc,xd,xp,xm,xk⟩ c=1):=Lib.hid (by unfold sideOf;rw [if_neg h1,if_pos h2])
     go_enter Tryz.func86,Tryz.ntmps86
     go_wp2
     go_ret
     exact⟨by rw [HR.out];rfl,HW.out _ _⟩
   · have HR:Hid (sideOf ⟨xa,xb,xg,xc,xd,xp,xm,xk⟩ c=0):=Lib.hid (by unfold sideOf;rw [if_neg h1,if_neg h2])
     go_enter Tryz.func86,Tryz.ntmps86
     go_wp2
     go_ret
     exact⟨by rw [HR.out];rfl,HW.out _ _⟩
def Rises (ls:List Rw):Prop:=ls.Pairwise (fun s t=>s.b<t.a)∧∀ s∈ls,s.a≤s.b
def placeOf (ls:List Rw) (c:Int):Nat:=(ls.takeWhile fun t=>decide (t.b<c)).length
def foundAt (ls:List Rw) (c:Int):Bool:=match ls[placeOf ls c]? with | some t=>decide (sideOf t c=0) | none=>false
theorem side_neg {s : Rw} {c : Int} : sideOf s c < 0 ↔ s.b < c := by
  unfold sideOf
  split
  · simp [*]
  · split <;> simp [*]
theorem side_zero {s:Rw} {c:Int}:sideOf s c=0↔s.a≤c∧c≤s.b:=by
 unfold sideOf
 split
 · omega
 · split <;> omega
theorem place_at {ls:List Rw} {c:Int} {k:Nat} (hk:k≤ls.length) (h1:∀ j s,j<k→ls[j]? = some s→s.b<c) (h2:∀ j s,k≤j→ls[j]? = some s→c≤s.b):placeOf ls c=k:=by
 unfold placeOf
 induction ls generalizing k with
 | nil=>simp at hk;simp [hk]
 | cons t ls ih=>
  cases k with
  | zero=>
   have:=h2 0 t (Nat.le_refl _) rfl
   rw [List.takeWhile_cons_of_neg (by simp;omega)]
   rfl
  | succ k=>
   have:=h1 0 t (by omega) rfl
   rw [List.takeWhile_cons_of_pos (by simp [this]),List.length_cons,ih (k:=k) (by simpa using hk) (fun j s hj hs=>h1 (j+1) s (by omega) (by simpa using hs)) (fun j s hj hs=>h2 (j+1) s (by omega) (by simpa using hs))]
theorem rises_b {ls:List Rw} (hr:Rises ls) {i j:Nat} {s t:Rw} (hij:i≤j) (hs:ls[i]? = some s) (ht:ls[j]? = some t):s.b≤t.b:=by
 rcases Nat.lt_or_eq_of_le hij with h | h
 · have hi:=(List.getElem?_eq_some_iff.1 hs)
   have hj:=(List.getElem?_eq_some_iff.1 ht)
   have:=List.pairwise_iff_getElem.1 hr.1 i j hi.1 hj.1 h
   rw [hi.2,hj.2] at this
   have:=hr.2 t (List.mem_of_getElem? ht)
   omega
 · subst h
   rw [hs] at ht
   injection ht with ht
   rw [ht]
   exact Int.le_refl _
theorem at_found {ls:List Rw} {c:Int} {s:Rw} (hs:ls[placeOf ls c]? = some s) (h:sideOf s c=0):atOf ls c=s:=by
 refine at_take hs (fun t ht=>?_) (side_zero.1 h)
 unfold placeOf at ht
 have e:ls.take (ls.takeWhile fun t=>decide (t.b<c)).length=ls.takeWhile fun t=>decide (t.b<c):=by
  have:=List.takeWhile_prefix (l:=ls) (fun t=>decide (t.b<c))
  exact (List.prefix_iff_eq_take.1 this).symm
 rw [e] at ht
 have:=List.all_takeWhile (l:=ls) (p:=fun t=>decide (t.b<c))
 rw [List.all_eq_true] at this
 have:=of_decide_eq_true (this t ht)
 omega
theorem at_lost:∀ {ls:List Rw} {c:Int},Rises ls→foundAt ls c=false→atOf ls c=rw0
 | [],_,_,_=>rfl
 | t::ls,c,hr,h=>by
  have hr':Rises ls:=⟨(List.pairwise_cons.1 hr.1).2,fun s hs=>hr.2 s (List.mem_cons_of_mem _ hs)⟩
  by_cases hb:t.b<c
  · have hp:placeOf (t::ls) c=placeOf ls c+1:=by unfold placeOf;rw [List.takeWhile_cons_of_pos (by simp [hb])];rfl
    have hf:foundAt ls c=false:=by
     unfold foundAt at h ⊢
     rw [hp,List.getElem?_cons_succ] at h
     exact h
    have:=at_lost hr' hf
    unfold atOf at this ⊢
    rw [List.find?_cons_of_neg (by simp;omega)]
    exact this
  · have hp:placeOf (t::ls) c=0:=by unfold placeOf;rw [List.takeWhile_cons_of_neg (by simp;omega)];rfl
    have hf:¬sideOf t c=0:=by
     unfold foundAt at h
     rw [hp] at h
     exact of_decide_eq_false h
    have h1:¬(t.a≤c∧c≤t.b):=fun h=>hf (side_zero.2 h)
    have h2:=hr.2 t (List.mem_cons_self ..)
    refine at_gap fun u hu hc=>?_
    rcases List.mem_cons.1 hu with rfl | hu
    · exact h1 hc
    · have:=(List.pairwise_cons.1 hr.1).1 u hu
      omega
theorem found_some {ls:List Rw} {c:Int} (h:foundAt ls c=true):∃ s,ls[placeOf ls c]? = some s∧sideOf s c=0:=by
 unfold foundAt at h
 split at h
 · rename_i t ht
   exact⟨t,ht,of_decide_eq_true h⟩
 · cases h
def BinRel (ls:List Rw) (c:Int) (W:World) (s9 s10:Value) (wr:World):Prop:=
 Below W.heap.size W wr∧∃ lo hi:Nat,s9=.int .i64 lo∧s10=.int .i64 hi∧lo≤hi∧hi≤ls.length∧(∀ j s,j<lo→ls[j]? = some s→s.b<c)∧(∀ j s,hi≤j→ls[j]? = some s→c≤s.b)
def BinPost (ls:List Rw) (c:Int) (w:World) (e:Ending) (w':World):Prop:=
 e=.returned (.tuple #[.int .i64 (placeOf ls c),.bool (foundAt ls c)])∧Below w.heap.size w w'
set_option maxRecDepth 100000 in
set_option maxHeartbeats 4000000 in
theorem bin43 (A:Option Addr) (n ca:Nat) (ls:List Rw) (x:Int) (w:World) (hV:RAt w A n ls) (hn:n≤100000) (hr:Rises ls):
 Calls Tryz.prog 85 #[.slice A n ca,.int .i64 x,.func (.func 86) #[] #[]] w (BinPost ls x w):=by
 have HV:=Lib.hid hV
 have HL:=Lib.hid hV.1
 have HR:=Lib.hid hr
 clear hV hr
 go_enter Tryz.func85,Tryz.ntmps85
 go_wp2
 go_loopw [9,10] (fun s9 s10 wr=>BinRel ls x w s9 s10 wr) (fun s9 s10 _=>(intOf s10).toNat-(intOf s9).toNat)
 case atStart=>exact⟨Below.refl _ _,0,n,rfl,rfl,Nat.zero_le _,by rw [HL.out];exact Nat.le_refl _,fun j s hj=>absurd hj (by omega),fun j s hj hs=>by have:=(List.getElem?_eq_some_iff.1 hs).1;rw [HL.out] at this;omega⟩
 case round=>
  obtain⟨hbel,lo,hi,rfl,rfl,hlh,hin,i1,i2⟩:=hrel
  have I1:=Lib.hid i1
  have I2:=Lib.hid i2
  rw [HL.out] at hin
  clear i1 i2
  by_cases hlt:lo<hi
  · obtain⟨b,off,rfl,hblt,hc⟩:=(HV.out.below hbel).2 (by omega)
    obtain⟨m,hm⟩:∃ m,(lo+hi)/2=m:=⟨_,rfl⟩
    have hmI:((lo:Int)+(hi:Int))/2=(m:Int):=by omega
    have hml:lo≤m:=by omega
    have hmh:m<hi:=by omega
    have hmn:m<n:=by omega
    clear hm
    obtain⟨s,hs⟩:=getRw (ls:=ls) (k:=m) (by rw [HL.out];omega)
    obtain⟨h1,h2,h3,h4,h5,h6⟩:=hc _ s hs
    have HS:=Lib.hid hs
    have c44:=fun W'=>side44 s x W'
    unfold rwV at c44
    obtain⟨T,hT⟩:∃ T,bs s.gc=T:=⟨_,rfl⟩
    obtain⟨U,hU⟩:∃ U,bs s.bd=U:=⟨_,rfl⟩
    rw [hT] at h3 c44
    rw [hU] at h5 c44
    obtain⟨X,hX⟩:∃ X,sideOf s x=X:=⟨_,rfl⟩
    rw [hX] at c44
    have HXX:=Lib.hid hX
    have HBE:=Lib.hid hbel
    have C44:=Lib.hid c44
    clear hc hs hT hU hX hbel c44
    by_cases hx:X<0
    · go_wp2_with (go_at_call 86;(with_reducible refine (C44.out _).mono ?_);rintro e w1 ⟨rfl,hb1⟩)
      go_roundw
      case measure=>simp [intOf];omega
      case rel=>
       refine⟨HBE.out.trans (hb1.mono HBE.out.size),m+1,hi,by go_num,rfl,by omega,by rw [HL.out];omega,fun j t hj ht=>?_,I2.out⟩
       have:=side_neg.1 (by rw [HXX.out];exact hx)
       have:=rises_b HR.out (by omega) ht HS.out
       omega
    · go_wp2_with (go_at_call 86;(with_reducible refine (C44.out _).mono ?_);rintro e w1 ⟨rfl,hb1⟩)
      go_roundw
      case measure=>simp [intOf];omega
      case rel=>
       refine⟨HBE.out.trans (hb1.mono HBE.out.size),lo,m,rfl,by go_num,by omega,by rw [HL.out];omega,I1.out,fun j t hj ht=>?_⟩
       have:=mt side_neg.2 (by rw [HXX.out];omega)
       have:=rises_b HR.out (by omega) HS.out ht
       omega
  · obtain rfl:hi=lo:=by omega
    have HP:=Lib.hid (place_at (c:=x) (by rw [HL.out];exact hin) I1.out I2.out)
    by_cases hn2:hi<n
    · obtain⟨b,off,rfl,hblt,hc⟩:=(HV.out.below hbel).2 (by omega)
      obtain⟨s,hs⟩:=getRw (ls:=ls) (k:=hi) (by rw [HL.out];omega)
      obtain⟨h1,h2,h3,h4,h5,h6⟩:=hc _ s hs
      have c44:=fun W'=>side44 s x W'
      unfold rwV at c44
      obtain⟨T,hT⟩:∃ T,bs s.gc=T:=⟨_,rfl⟩
      obtain⟨U,hU⟩:∃ U,bs s.bd=U:=⟨_,rfl⟩
      rw [hT] at h3 c44
      rw [hU] at h5 c44
      have HFo:Hid (foundAt ls x=decide (sideOf s x=0)):=Lib.hid (by unfold foundAt;rw [HP.out,hs])
      obtain⟨X,hX⟩:∃ X,sideOf s x=X:=⟨_,rfl⟩
      rw [hX] at c44 HFo
      have HBE:=Lib.hid hbel
      have C44:=Lib.hid c44
      clear hc hs hT hU hX hbel c44
      by_cases hx:X=0
      · subst hx
        go_wp2_with (go_at_call 86;(with_reducible refine (C44.out _).mono ?_);rintro e w1 ⟨rfl,hb1⟩)
        go_ret2
        exact⟨by rw [HP.out,HFo.out];rfl,HBE.out.trans (hb1.mono HBE.out.size)⟩
      · have hx0:(X==0)=false:=beq_false_of_ne hx
        have hxd:decide (X=0)=false:=by simp [hx]
        have HXD:=Lib.hid hxd
        clear hx hxd
        go_wp2_with (go_at_call 86;(with_reducible refine (C44.out _).mono ?_);rintro e w1 ⟨rfl,hb1⟩)
        go_ret2
        exact⟨by rw [HP.out,HFo.out,HXD.out];rfl,HBE.out.trans (hb1.mono HBE.out.size)⟩
    · have HFo:Hid (foundAt ls x=false):=Lib.hid (by unfold foundAt;rw [HP.out,List.getElem?_eq_none (by rw [HL.out];omega)])
      have HBE:=Lib.hid hbel
      clear hbel
      obtain rfl:hi=n:=by omega
      go_wp2
      go_ret2
      exact⟨by rw [HP.out,HFo.out];rfl,HBE.out⟩
def FitP (p:Pr):Prop:=0≤p.a∧p.a≤p.b∧p.b≤1114111∧p.dec.length≤2
def Good (ps:List Pr):Prop:=ps.Pairwise (fun s t=>s.b<t.a)∧∀ s∈ps,FitP s
theorem good_nil:Good []:=⟨List.Pairwise.nil,fun s h=>by cases h⟩
theorem last_none:∀ {ps:List Pr},lastB ps=none→ps = []
 | [],_=>rfl
 | [_],h=>by cases h
 | _::q::t,h=>by have:=last_none (ps:=q::t) h;cases this
theorem last_max:∀ {ps:List Pr} {b:Int},Good ps→lastB ps=some b→∀ s∈ps,s.b≤b
 | [],_,_,h,_,hs=>by cases hs
 | [p],b,_,h,s,hs=>by
  rw [List.mem_singleton.1 hs]
  have e:some p.b=some b:=h
  injection e with e
  omega
 | p::q::t,b,hg,h,s,hs=>by
  have hg':Good (q::t):=⟨(List.pairwise_cons.1 hg.1).2,fun s hs=>hg.2 s (List.mem_cons_of_mem _ hs)⟩
  have ih:=last_max (ps:=q::t) (b:=b) hg' h
  rcases List.mem_cons.1 hs with rfl | hs
  · have h1:=(List.pairwise_cons.1 hg.1).1 q (List.mem_cons_self ..)
    have h2:=ih q (List.mem_cons_self ..)
    have h3:=(hg'.2 q (List.mem_cons_self ..)).2.1
    omega
  · exact ih s hs
theorem good_snoc {out:List Pr} {p:Pr} (hg:Good out) (ht:¬twice out p=true) (hf:FitP p):Good (out ++ [p]):=by
 refine⟨List.pairwise_append.2 ⟨hg.1,List.pairwise_singleton _ _,fun s hs t ht'=>?_⟩,fun s hs=>?_⟩
 · rw [List.mem_singleton.1 ht']
   unfold twice at ht
   cases hl:lastB out with
   | none=>rw [last_none hl] at hs;cases hs
   | some b=>
    rw [hl] at ht
    have:=last_max hg hl s hs
    simp at ht
    omega
 · rcases List.mem_append.1 hs with h | h
   · exact hg.2 s h
   · rw [List.mem_singleton.1 h];exact hf
theorem fit_row {f:List (List UInt8)} (h:rowErr f=0):FitP (rowVal f):=by
 obtain⟨-,⟨c,hc⟩,-,hd⟩:=row_ok h
 have:=point_range hc
 unfold FitP rowVal
 rw [hc]
 simp only [pI]
 exact⟨by omega,by omega,by omega,dec_two hd⟩
theorem join_lt {f g:List (List UInt8)} (h:¬joinB f g=false):(rowVal f).a<(rowVal g).a:=by
 have h:joinB f g=true:=by simpa using h
 unfold joinB at h
 simp only [Bool.and_eq_true,decide_eq_true_eq] at h
 exact h.2.2.2.2.2.2
theorem good_ref:∀ (l:List Ln) (out:List Pr),Good out→Good (refP out l).rows
 | [],out,hg=>by rw [refP];exact hg
 | x::t,out,hg=>by
  rw [refP.eq_def]
  simp only []
  by_cases h1:¬rowErr x.2=0
  · rw [if_pos h1];exact good_nil
  rw [if_neg h1]
  have hx:=fit_row (by simpa using h1)
  by_cases h2:twice out (rowVal x.2)=true
  · rw [if_pos h2];exact good_nil
  rw [if_neg h2]
  by_cases h3:namedB (fld x.2 1) nmF=true
  · rw [if_pos h3]
    cases t with
    | nil=>exact good_nil
    | cons y t'=>
     simp only []
     by_cases h4:¬rowErr y.2=0
     · rw [if_pos h4];exact good_nil
     rw [if_neg h4]
     have hy:=fit_row (by simpa using h4)
     by_cases h5:joinB x.2 y.2=false
     · rw [if_pos h5];exact good_nil
     rw [if_neg h5]
     have hj:=join_lt h5
     refine good_ref t' _ (good_snoc (p:={ rowVal x.2 with b:=(rowVal y.2).a }) hg h2 ?_)
     obtain⟨a1,a2,a3,a4⟩:=hx
     obtain⟨b1,b2,b3,b4⟩:=hy
     exact⟨a1,Int.le_of_lt hj,Int.le_trans b2 b3,a4⟩
  · rw [if_neg h3]
    exact good_ref t _ (good_snoc hg h2 hx)
theorem good_parse (l:List Ln):Good (parseOf l).rows:=good_ref l [] good_nil
def Is (w:World) (s:Rw) (p:Pr):Prop:=s.a=p.a∧s.b=p.b∧s.gc=p.gc∧s.ccc=p.ccc∧s.bd=p.bd∧s.dm=p.dec.length∧Vals w s.dp s.dm (nums .i64 (p.dec.map fun c:Nat=>(c:Int)))
theorem Is.below {w w':World} {s:Rw} {p:Pr} (h:Is w s p) (hb:Below w.heap.size w w'):Is w' s p:=⟨h.1,h.2.1,h.2.2.1,h.2.2.2.1,h.2.2.2.2.1,h.2.2.2.2.2.1,h.2.2.2.2.2.2.below hb⟩
theorem is0 (w:World):Is w rw0 pr0:=⟨rfl,rfl,rfl,rfl,rfl,rfl,Vals.nil _ _⟩
def Ist (w:World):List Rw→List Pr→Prop
 | [],[]=>True
 | s::ls,p::ps=>Is w s p∧Ist w ls ps
 | _,_=>False
theorem Ist.of {w w':World} (h:∀ s p,Is w s p→Is w' s p):∀ {ls:List Rw} {ps:List Pr},Ist w ls ps→Ist w' ls ps
 | [],[],_=>trivial
 | _::_,_::_,hc=>⟨h _ _ hc.1,Ist.of h hc.2⟩
 | [],_::_,hc=>hc.elim
 | _::_,[],hc=>hc.elim
theorem Ist.below {w w':World} {ls:List Rw} {ps:List Pr} (h:Ist w ls ps) (hb:Below w.heap.size w w'):Ist w' ls ps:=Ist.of (fun _ _ h=>h.below hb) h
theorem Ist.len {w:World}:∀ {ls:List Rw} {ps:List Pr},Ist w ls ps→ls.length=ps.length
 | [],[],_=>rfl
 | _::_,_::_,hc=>by simp [Ist.len hc.2]
 | [],_::_,hc=>hc.elim
 | _::_,[],hc=>hc.elim
theorem Ist.snoc {w:World} {s:Rw} {p:Pr} (hs:Is w s p):∀ {ls:List Rw} {ps:List Pr},Ist w ls ps→Ist w (ls ++ [s]) (ps ++ [p])
 | [],[],_=>⟨hs,trivial⟩
 | _::_,_::_,hc=>⟨hc.1,Ist.snoc hs hc.2⟩
 | [],_::_,hc=>hc.elim
 | _::_,[],hc=>hc.elim
theorem Ist.get {w:World}:∀ {ls:List Rw} {ps:List Pr} {j:Nat} {s:Rw},Ist w ls ps→ls[j]? = some s→∃ p,ps[j]? = some p∧Is w s p
 | _::_,p::_,0,s,hc,hj=>by
  simp at hj
  subst hj
  exact⟨p,rfl,hc.1⟩
 | _::_,_::_,j+1,s,hc,hj=>Ist.get (j:=j) hc.2 (by simpa using hj)
 | [],_,_,_,_,hj=>by simp at hj
 | _::_,[],_,_,hc,_=>hc.elim
def patOf (ps:List Pr) (c:Int):Pr:=(ps.find? fun p=>decide (p.a≤c∧c≤p.b)).getD pr0
theorem ist_at {w:World}:∀ {ls:List Rw} {ps:List Pr} (c:Int),Ist w ls ps→Is w (atOf ls c) (patOf ps c)
 | [],[],_,_=>is0 w
 | s::ls,p::ps,c,hc=>by
  have ih:=ist_at c hc.2
  unfold atOf patOf at ih ⊢
  have e:decide (s.a≤c∧c≤s.b)=decide (p.a≤c∧c≤p.b):=by rw [hc.1.1,hc.1.2.1]
  cases hd:decide (s.a≤c∧c≤s.b) with
  | true=>
   rw [List.find?_cons_of_pos (by simpa using hd),List.find?_cons_of_pos (by rw [←e];exact hd)]
   exact hc.1
  | false=>
   rw [List.find?_cons_of_neg (by simpa using hd),List.find?_cons_of_neg (by rw [←e,hd];simp)]
   exact ih
 | [],_::_,_,hc=>hc.elim
 | _::_,[],_,hc=>hc.elim
theorem ist_mem {w:World} {ls:List Rw} {ps:List Pr} (h:Ist w ls ps) {s:Rw} (hs:s∈ls):∃ p∈ps,Is w s p:=by
 obtain⟨j,hj⟩:=List.mem_iff_getElem?.1 hs
 obtain⟨p,hp,hi⟩:=h.get hj
 exact⟨p,List.mem_of_getElem? hp,hi⟩
theorem ist_rises {w:World}:∀ {ls:List Rw} {ps:List Pr},Ist w ls ps→Good ps→Rises ls
 | [],[],_,_=>⟨List.Pairwise.nil,fun s h=>by cases h⟩
 | s::ls,p::ps,hc,hg=>by
  have hg':Good ps:=⟨(List.pairwise_cons.1 hg.1).2,fun s hs=>hg.2 s (List.mem_cons_of_mem _ hs)⟩
  have ih:=ist_rises hc.2 hg'
  refine⟨List.pairwise_cons.2 ⟨fun t ht=>?_,ih.1⟩,fun t ht=>?_⟩
  · obtain⟨q,hq,hi⟩:=ist_mem hc.2 ht
    rw [hc.1.2.1,hi.1]
    exact (List.pairwise_cons.1 hg.1).1 q hq
  · rcases List.mem_cons.1 ht with rfl | ht
    · rw [hc.1.1,hc.1.2.1]
      exact (hg.2 p (List.mem_cons_self ..)).2.1
    · exact ih.2 t ht
 | [],_::_,hc,_=>hc.elim
 | _::_,[],hc,_=>hc.elim
end Go.Proofs.YtbkgbhlmeeodgaaGreatDoor.Uc
namespace Go.Proofs.YtbkgbhlmeeodgaaGreatDoor
open Go.RowKit
attribute [local go_sem] Oper.semAt_some
def dcf (ps:List Uc.Pr) (c:Int):List Int:=(Uc.patOf ps c).dec.map fun n:Nat=>(n:Int)
theorem infoI:(Tryz.prog.info? 3).map (fun i=>(i.zero,i.size,i.bytes))=some (some (.int .i64 0),1,8):=by kernel_rfl
theorem nums_one' {zs:List Int}:∀ u∈nums .i64 zs,u.oneCell'=true:=by
 intro u hu
 unfold nums at hu
 obtain⟨z,-,rfl⟩:=List.mem_map.1 hu
 rfl
theorem nums_len (zs:List Int):(nums .i64 zs).length=zs.length:=List.length_map _
theorem vals_cells {w:World} {ad:Addr} {m:Nat} {vs:List Value} (h:Vals w (some ad) m vs):∀ j u,vs[j]? = some u→w.cell? (ad.add j)=some u:=by
 intro j u hj
 have hm:0<m:=by have:=(List.getElem?_eq_some_iff.1 hj).1;have:=h.1;omega
 obtain⟨b,off,e,-,hc⟩:=h.2 hm
 cases e
 have:=hc j u hj
 have e2:(⟨b,off,none⟩:Addr).add j=⟨b,off+j,none⟩:=by unfold Addr.add;split <;> simp_all
 rw [e2]
 exact this
theorem run_append_nil {P:Program} {w:World} (base:Nat) (t ty e:TypeId) (i:TypeInfo) (size c:Nat) (ht:P.underlying t=some (.slice e)) (hi:P.info? e=some i) (v:Value) (n:Nat) (xs:List Value) (hown:w.ownsRow base e size v n xs):
 (Builtin.append_ #[t,t] ty #[v,.slice none 0 c]).run P w=.ok v w:=by
 rcases hown.2 with ⟨rfl,rfl⟩ | ⟨g,cap,cur,rfl,_,_,hnc,_⟩
 · simp [Builtin.append_,run_underlying ht,sizeOf,typeInfo,hi,Builtin.lenOf,Builtin.firstCells]
 · simp [Builtin.append_,run_underlying ht,sizeOf,typeInfo,hi,Builtin.lenOf,Builtin.firstCells,hnc,storeCells]
end Go.Proofs.YtbkgbhlmeeodgaaGreatDoor
namespace Go.Proofs.YtbkgbhlmeeodgaaGreatDoor.Pq
open Go.RowKit
structure Sp where
 a:Int
 b:Int
 v:List UInt8
deriving DecidableEq
def meets (s t:Sp):Bool:=decide (s.a≤t.b)&&decide (t.a≤s.b)
def check (l:List Sp) (s:Sp):Int:=if s.a<0∨1114111<s.b∨s.b<s.a then 14 else if s.v = [] then 16 else if l.any (meets · s) then 15 else 0
def ins (s:Sp) (l:List Sp):List Sp:=l.takeWhile (fun t=>decide (t.a≤s.a))++s::l.dropWhile (fun t=>decide (t.a≤s.a))
def sorted (l:List Sp):List Sp:=l.foldl (fun acc s=>ins s acc) []
def addAll:List Sp→List Sp→Except Int (List Sp)
 | acc,[]=>.ok acc
 | acc,s::l=>if check acc s=0 then addAll (ins s acc) l else .error (check acc s)
def came:List Sp→List Sp→Except Int (List Sp)
 | acc,[]=>.ok acc
 | acc,s::l=>if check acc s=0 then came (acc ++ [s]) l else .error (check acc s)
def Fit (s:Sp):Prop:=0≤s.a∧s.b≤1114111∧s.a≤s.b∧s.v ≠ []
def Rises (l:List Sp):Prop:=l.Pairwise fun s t=>s.b<t.a
def Good (l:List Sp):Prop:=Rises l∧∀ s∈l,Fit s
theorem meets_comm (s t:Sp):meets s t=meets t s:=by unfold meets;rw [Bool.and_comm]
theorem ins_mem {s t:Sp} {l:List Sp}:t∈ins s l↔t=s∨t∈l:=by
 unfold ins
 have e:=List.takeWhile_append_dropWhile (p:=fun t:Sp=>decide (t.a≤s.a)) (l:=l)
 constructor
 · intro h
   rcases List.mem_append.1 h with h | h
   · exact .inr (by rw [←e];exact List.mem_append_left _ h)
   · rcases List.mem_cons.1 h with h | h
     · exact .inl h
     · exact .inr (by rw [←e];exact List.mem_append_right _ h)
 · rintro (rfl | h)
   · simp
   · rw [←e] at h
     rcases List.mem_append.1 h with h | h
     · exact List.mem_append_left _ h
     · exact List.mem_append_right _ (List.mem_cons_of_mem _ h)
theorem ins_length (s:Sp) (l:List Sp):(ins s l).length=l.length+1:=by
 unfold ins
 have e:=congrArg List.length (List.takeWhile_append_dropWhile (p:=fun t:Sp=>decide (t.a≤s.a)) (l:=l))
 rw [List.length_append] at e
 rw [List.length_append,List.length_cons]
 omega
theorem sorted_snoc (l:List Sp) (s:Sp):sorted (l ++ [s])=ins s (sorted l):=by unfold sorted;rw [List.foldl_append];rfl
theorem sorted_mem:∀ (l:List Sp) (t:Sp),t∈sorted l↔t∈l:=by
 intro l
 generalize hn:l.length=n
 induction n generalizing l with
 | zero=>intro t;rw [List.eq_nil_of_length_eq_zero hn];rfl
 | succ n ih=>
  intro t
  rcases List.eq_nil_or_concat l with rfl | ⟨m,s,rfl⟩
  · simp at hn
  · rw [List.concat_eq_append] at hn ⊢
    rw [List.length_append] at hn
    rw [sorted_snoc,ins_mem,ih m (by simpa using hn) t]
    simp [or_comm]
theorem sorted_length:∀ (l:List Sp),(sorted l).length=l.length:=by
 intro l
 generalize hn:l.length=n
 induction n generalizing l with
 | zero=>rw [List.eq_nil_of_length_eq_zero hn];rfl
 | succ n ih=>
  rcases List.eq_nil_or_concat l with rfl | ⟨m,s,rfl⟩
  · simp at hn
  · rw [List.concat_eq_append] at hn ⊢
    rw [List.length_append] at hn
    rw [sorted_snoc,ins_length,ih m (by simpa using hn)]
theorem check_same {l m:List Sp} (h:∀ t,t∈l↔t∈m) (s:Sp):check l s=check m s:=by
 unfold check
 have e:l.any (meets · s)=m.any (meets · s):=by
  rw [Bool.eq_iff_iff,List.any_eq_true,List.any_eq_true]
  exact⟨fun ⟨x,hx,h2⟩=>⟨x,(h x).1 hx,h2⟩,fun ⟨x,hx,h2⟩=>⟨x,(h x).2 hx,h2⟩⟩
 rw [e]
theorem check_ok {l:List Sp} {s:Sp}:check l s=0↔Fit s∧∀ t∈l,meets t s=false:=by
 unfold check Fit
 constructor
 · intro h
   split at h
   · cases h
   · rename_i h1
     split at h
     · cases h
     · rename_i h2
       split at h
       · cases h
       · rename_i h3
         refine⟨⟨by omega,by omega,by omega,h2⟩,fun t ht=>?_⟩
         rw [List.any_eq_true] at h3
         cases hm:meets t s with
         | false=>rfl
         | true=>exact absurd ⟨t,ht,hm⟩ h3
 · rintro⟨⟨h1,h2,h3,h4⟩,h5⟩
   rw [if_neg (by omega),if_neg h4,if_neg]
   rw [List.any_eq_true]
   rintro⟨t,ht,hm⟩
   rw [h5 t ht] at hm
   cases hm
theorem addAll_came:∀ (l acc:List Sp),addAll (sorted acc) l=(came acc l).map sorted
 | [],acc=>rfl
 | s::l,acc=>by
  rw [addAll,came,check_same (sorted_mem acc) s]
  split
  · rw [←sorted_snoc,addAll_came l (acc ++ [s])]
  · rfl
theorem takeW_rises {s:Sp} {l:List Sp} (hr:Rises l) (hf:∀ t∈l,t.a≤t.b):∀ t∈l.dropWhile (fun t=>decide (t.a≤s.a)),s.a<t.a:=by
 induction l with
 | nil=>intro t ht;cases ht
 | cons x l ih=>
  intro t ht
  rw [List.dropWhile_cons] at ht
  split at ht
  · exact ih (List.pairwise_cons.1 hr).2 (fun t ht=>hf t (List.mem_cons_of_mem _ ht)) t ht
  · rename_i hx
    simp at hx
    rcases List.mem_cons.1 ht with rfl | ht
    · exact hx
    · have h1:=(List.pairwise_cons.1 hr).1 t ht
      have h2:=hf x (by simp)
      omega
theorem takeW_all {s:Sp}:∀ {l:List Sp},∀ t∈l.takeWhile (fun t=>decide (t.a≤s.a)),t.a≤s.a
 | [],t,ht=>by cases ht
 | x::l,t,ht=>by
  rw [List.takeWhile_cons] at ht
  split at ht
  · rename_i hx
    rcases List.mem_cons.1 ht with rfl | ht
    · simpa using hx
    · exact takeW_all t ht
  · cases ht
theorem ins_good {s:Sp} {l:List Sp} (hg:Good l) (hc:check l s=0):Good (ins s l):=by
 obtain⟨hfit,hno⟩:=check_ok.1 hc
 have hf:∀ t∈l,t.a≤t.b:=fun t ht=>(hg.2 t ht).2.2.1
 refine⟨?_,fun t ht=>?_⟩
 · unfold Rises ins
   have e:=List.takeWhile_append_dropWhile (p:=fun t:Sp=>decide (t.a≤s.a)) (l:=l)
   have hr:=hg.1
   unfold Rises at hr
   rw [←e,List.pairwise_append] at hr
   have hsub1:∀ t∈l.takeWhile (fun t=>decide (t.a≤s.a)),t∈l:=fun t ht=>by rw [←e];exact List.mem_append_left _ ht
   have hsub2:∀ t∈l.dropWhile (fun t=>decide (t.a≤s.a)),t∈l:=fun t ht=>by rw [←e];exact List.mem_append_right _ ht
   have hlow:∀ t∈l.takeWhile (fun t=>decide (t.a≤s.a)),t.b<s.a:=fun t ht=>by
    have h1:=takeW_all t ht
    have h2:=hno t (hsub1 t ht)
    have h3:=hf t (hsub1 t ht)
    have h4:=hfit.2.2.1
    unfold meets at h2
    simp at h2
    exact h2 (by omega)
   have hhigh:∀ t∈l.dropWhile (fun t=>decide (t.a≤s.a)),s.b<t.a:=fun t ht=>by
    have h1:=takeW_rises hg.1 hf t ht
    have h2:=hno t (hsub2 t ht)
    have h3:=hf t (hsub2 t ht)
    unfold meets at h2
    simp at h2
    apply Classical.byContradiction
    intro h
    have:=h2 (by omega)
    omega
   rw [List.pairwise_append]
   refine⟨hr.1,List.pairwise_cons.2 ⟨hhigh,hr.2.1⟩,fun t ht u hu=>?_⟩
   rcases List.mem_cons.1 hu with rfl | hu
   · exact hlow t ht
   · exact hr.2.2 t ht u hu
 · rcases ins_mem.1 ht with rfl | ht
   · exact hfit
   · exact hg.2 t ht
theorem addAll_good:∀ (l acc:List Sp) (r:List Sp),Good acc→addAll acc l=.ok r→Good r∧(∀ t,t∈r↔t∈acc∨t∈l)∧r.length=acc.length+l.length
 | [],acc,r,hg,h=>by
  rw [addAll] at h
  cases h
  exact⟨hg,by simp,by simp⟩
 | s::l,acc,r,hg,h=>by
  rw [addAll] at h
  split at h
  · rename_i hc
    obtain⟨h1,h2,h3⟩:=addAll_good l (ins s acc) r (ins_good hg hc) h
    refine⟨h1,fun t=>?_,?_⟩
    · rw [h2 t,ins_mem,List.mem_cons]
      constructor
      · rintro ((h | h) | h)
        · exact .inr (.inl h)
        · exact .inl h
        · exact .inr (.inr h)
      · rintro (h | h | h)
        · exact .inl (.inr h)
        · exact .inl (.inl h)
        · exact .inr h
    · rw [h3,ins_length,List.length_cons]
      omega
  · cases h
theorem good_nil:Good []:=⟨List.Pairwise.nil,fun s h=>by cases h⟩
theorem addAll_ok:∀ (l acc:List Sp),(∃ r,addAll acc l=.ok r)↔(∀ s∈l,Fit s)∧(∀ s∈l,∀ t∈acc,meets t s=false)∧l.Pairwise (fun s t=>meets s t=false)
 | [],acc=>by simp [addAll]
 | s::l,acc=>by
  rw [addAll]
  have ih:=addAll_ok l (ins s acc)
  constructor
  · rintro⟨r,h⟩
    split at h
    · rename_i hc
      obtain⟨hf,hn⟩:=check_ok.1 hc
      obtain⟨h1,h2,h3⟩:=ih.1 ⟨r,h⟩
      refine⟨fun t ht=>?_,fun t ht u hu=>?_,List.pairwise_cons.2 ⟨fun t ht=>h2 t ht s (ins_mem.2 (.inl rfl)),h3⟩⟩
      · rcases List.mem_cons.1 ht with rfl | ht
        · exact hf
        · exact h1 t ht
      · rcases List.mem_cons.1 ht with rfl | ht
        · exact hn u hu
        · exact h2 t ht u (ins_mem.2 (.inr hu))
    · cases h
  · rintro⟨h1,h2,h3⟩
    have hc:check acc s=0:=check_ok.2 ⟨h1 s (by simp),h2 s (by simp)⟩
    rw [if_pos hc]
    refine ih.2 ⟨fun t ht=>h1 t (by simp [ht]),fun t ht u hu=>?_,(List.pairwise_cons.1 h3).2⟩
    rcases ins_mem.1 hu with rfl | hu
    · exact (List.pairwise_cons.1 h3).1 t ht
    · exact h2 t (by simp [ht]) u hu
theorem good_eq:∀ (l m:List Sp),Good l→Good m→(∀ t,t∈l↔t∈m)→l=m
 | [],[],_,_,_=>rfl
 | [],x::m,_,_,h=>absurd ((h x).2 (by simp)) (by simp)
 | x::l,[],_,_,h=>absurd ((h x).1 (by simp)) (by simp)
 | x::l,y::m,hl,hm,h=>by
  have pl:=List.pairwise_cons.1 hl.1
  have pm:=List.pairwise_cons.1 hm.1
  have fx:=(hl.2 x (by simp)).2.2.1
  have fy:=(hm.2 y (by simp)).2.2.1
  have exy:x=y:=by
   rcases List.mem_cons.1 ((h x).1 (by simp)) with e | hx
   · exact e
   · rcases List.mem_cons.1 ((h y).2 (by simp)) with e | hy
     · exact e.symm
     · have h1:=pl.1 y hy
       have h2:=pm.1 x hx
       omega
  subst exy
  have nx1:x∉l:=fun hx=>by have:=pl.1 x hx;omega
  have nx2:x∉m:=fun hx=>by have:=pm.1 x hx;omega
  rw [good_eq l m ⟨pl.2,fun t ht=>hl.2 t (by simp [ht])⟩ ⟨pm.2,fun t ht=>hm.2 t (by simp [ht])⟩ (fun t=>?_)]
  have ht:=h t
  rw [List.mem_cons,List.mem_cons] at ht
  constructor
  · intro h1
    rcases ht.1 (.inr h1) with e | h2
    · subst e;exact absurd h1 nx1
    · exact h2
  · intro h1
    rcases ht.2 (.inr h1) with e | h2
    · subst e;exact absurd h1 nx2
    · exact h2
theorem addAll_perm {l m r:List Sp} (hp:l.Perm m) (h:addAll [] l=.ok r):addAll [] m=.ok r:=by
 obtain⟨h1,h2,h3⟩:=(addAll_ok l []).1 ⟨r,h⟩
 obtain⟨r2,hr2⟩:=(addAll_ok m []).2 ⟨fun s hs=>h1 s (hp.mem_iff.2 hs),fun s _ t ht=>(by cases ht),hp.pairwise h3 (fun {a b} hab=>by rw [meets_comm];exact hab)⟩
 obtain⟨g1,g2,_⟩:=addAll_good l [] r good_nil h
 obtain⟨k1,k2,_⟩:=addAll_good m [] r2 good_nil hr2
 rw [hr2,good_eq r r2 g1 k1 (fun t=>by rw [g2 t,k2 t,hp.mem_iff])]
def valueOf (l:List Sp) (c:Int):List UInt8:=match l.find? (fun s=>decide (s.a≤c)&&decide (c≤s.b)) with | some s=>s.v | none=>[]
theorem value_cons (s:Sp) (l:List Sp) (c:Int):valueOf (s::l) c=if s.a≤c∧c≤s.b then s.v else valueOf l c:=by
 unfold valueOf
 rw [List.find?_cons]
 by_cases h:s.a≤c∧c≤s.b
 · simp [h]
 · rw [if_neg h]
   have e:(decide (s.a≤c)&&decide (c≤s.b))=false:=by
    rw [Bool.eq_false_iff]
    simp
    omega
   rw [e]
theorem value_gap:∀ {l:List Sp} {c:Int},(∀ s∈l,¬(s.a≤c∧c≤s.b))→valueOf l c = []
 | [],_,_=>rfl
 | s::l,c,h=>by
  rw [value_cons,if_neg (h s (by simp))]
  exact value_gap fun t ht=>h t (by simp [ht])
theorem value_at:∀ {l:List Sp} {c:Int} {s:Sp},Rises l→s∈l→s.a≤c→c≤s.b→valueOf l c=s.v
 | [],_,_,_,h,_,_=>by cases h
 | x::l,c,s,hr,h,h1,h2=>by
  rw [value_cons]
  rcases List.mem_cons.1 h with rfl | h
  · rw [if_pos ⟨h1,h2⟩]
  · have:=(List.pairwise_cons.1 hr).1 s h
    rw [if_neg (by omega)]
    exact value_at (List.pairwise_cons.1 hr).2 h h1 h2
def spv (s:Sp):List Value:=[.int .i64 s.a,.int .i64 s.b,.string (bs s.v)]
def spvs (ls:List Sp):List Value:=ls.flatMap spv
theorem spvs_cons (s:Sp) (ls:List Sp):spvs (s::ls)=.int .i64 s.a :: .int .i64 s.b :: .string (bs s.v)::spvs ls:=rfl
theorem spvs_snoc (ls:List Sp) (s:Sp):spvs ls ++ [.int .i64 s.a,.int .i64 s.b,.string (bs s.v)]=spvs (ls ++ [s]):=by unfold spvs;rw [List.flatMap_append];rfl
theorem spvs_length:∀ ls:List Sp,(spvs ls).length=ls.length*3
 | []=>rfl
 | s::ls=>by rw [spvs_cons];simp [spvs_length ls];omega
theorem spvs_get:∀ {ls:List Sp} {j:Nat} {s:Sp},ls[j]? = some s→(spvs ls)[j*3]? = some (.int .i64 s.a)∧(spvs ls)[j*3+1]? = some (.int .i64 s.b)∧(spvs ls)[j*3+2]? = some (.string (bs s.v))
 | [],_,_,h=>by simp at h
 | x::ls,0,s,h=>by simp at h;subst h;exact⟨rfl,rfl,rfl⟩
 | x::ls,j+1,s,h=>by
  have:=spvs_get (ls:=ls) (j:=j) (s:=s) (by simpa using h)
  rw [spvs_cons,show (j+1)*3=j*3+3 by omega]
  exact this
def SAt (w:World) (A:Option Addr) (n:Nat) (ls:List Sp):Prop:=
 ls.length=n∧(0<n→∃ b off,A=some ⟨b,off,none⟩∧b<w.heap.size∧∀ j s,ls[j]? = some s →
  w.cell? ⟨b,off+j*3,none⟩=some (.int .i64 s.a)∧w.cell? ⟨b,off+j*3+1,none⟩=some (.int .i64 s.b)∧w.cell? ⟨b,off+j*3+2,none⟩=some (.string (bs s.v)))
theorem SAt.below {w w':World} {A:Option Addr} {n:Nat} {ls:List Sp} (h:SAt w A n ls) (hb:Below w.heap.size w w'):SAt w' A n ls:=by
 refine⟨h.1,fun hn=>?_⟩
 obtain⟨b,off,rfl,hlt,hc⟩:=h.2 hn
 refine⟨b,off,rfl,Nat.lt_of_lt_of_le hlt hb.size,fun j s hj=>?_⟩
 obtain⟨h1,h2,h3⟩:=hc j s hj
 exact⟨(hb.cell (p:=⟨b,_,none⟩) hlt).trans h1,(hb.cell (p:=⟨b,_,none⟩) hlt).trans h2,(hb.cell (p:=⟨b,_,none⟩) hlt).trans h3⟩
theorem SAt.nil (w:World) (A:Option Addr):SAt w A 0 []:=⟨rfl,fun h=>absurd h (by omega)⟩
theorem own_sat {w:World} {base:Nat} {e:TypeId} {v:Value} {ls:List Sp} (ho:w.ownsRow base e 3 v ls.length (spvs ls)):∃ A c,v=.slice A ls.length c∧ls.length≤c∧SAt w A ls.length ls∧(A=none→c=0):=by
 rcases ho.2 with ⟨rfl,h0⟩ | ⟨g,cap,cur,rfl,_,hg,hcap,_⟩
 · exact⟨none,0,by rw [h0],by omega,⟨rfl,fun h=>absurd h (by omega)⟩,fun _=>rfl⟩
 · refine⟨_,cap,rfl,hcap,⟨rfl,fun _=>⟨g,0,rfl,(Array.getElem?_eq_some_iff.1 hg).1,fun j s hj=>?_⟩⟩,fun h=>by cases h⟩
   obtain⟨h1,h2,h3⟩:=spvs_get hj
   have k1:=ho.cells (g:=g) rfl _ _ h1
   have k2:=ho.cells (g:=g) rfl _ _ h2
   have k3:=ho.cells (g:=g) rfl _ _ h3
   rw [add_at] at k1 k2 k3
   exact⟨k1,k2,k3⟩
theorem getSp {ls:List Sp} {k:Nat} (h:k<ls.length):∃ s,ls[k]? = some s:=⟨ls[k],List.getElem?_eq_getElem h⟩
theorem bs_toList (l:List UInt8):(bs l).toList=l:=by rw [Lib.toList_data,bs_data]
theorem bs_some {l:List UInt8} (h:¬l = []):(bs l).toList.isEmpty=false:=by rw [bs_toList];simp [h]
theorem take_more {l:List Sp} {P:Sp→Prop} {k:Nat} {s:Sp} (hk:l[k]? = some s) (h:∀ t∈l.take k,P t) (hs:P s):∀ t∈l.take (k+1),P t:=by
 have hlt:=(List.getElem?_eq_some_iff.1 hk).1
 have e:l[k]=s:=(List.getElem?_eq_some_iff.1 hk).2
 intro t ht
 rw [List.take_succ_eq_append_getElem hlt,e] at ht
 rcases List.mem_append.1 ht with ht | ht
 · exact h t ht
 · rw [List.mem_singleton.1 ht];exact hs
def spV (s:Sp):Value:=.agg #[.int .i64 s.a,.int .i64 s.b,.string (bs s.v)]
theorem check_range {l:List Sp} {s:Sp} (h:s.a<0∨1114111<s.b∨s.b<s.a):check l s=14:=by unfold check;rw [if_pos h]
theorem check_empty {l:List Sp} {s:Sp} (h:¬(s.a<0∨1114111<s.b∨s.b<s.a)) (hv:s.v = []):check l s=16:=by unfold check;rw [if_neg h,if_pos hv]
theorem check_fine {l:List Sp} {s:Sp} (h:¬(s.a<0∨1114111<s.b∨s.b<s.a)) (hv:¬s.v = []) (hm:l.any (meets · s)=false):check l s=0:=by unfold check;rw [if_neg h,if_neg hv,if_neg (by simp [hm])]
def ChkPost (l:List Sp) (s:Sp) (w:World) (e:Ending) (w':World):Prop:=e=.returned (.int .i64 (check l s))∧Below w.heap.size w w'
end Go.Proofs.YtbkgbhlmeeodgaaGreatDoor.Pq
