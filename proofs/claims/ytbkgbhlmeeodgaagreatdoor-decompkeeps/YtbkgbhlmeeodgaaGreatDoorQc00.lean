/- A part. -/
import Derived.WalkKit
import Derived.Lib.Hide
import Derived.Deep.Draws
import Derived.Lib.SlTrimSet
import Derived.Lib.IndexMore
import Derived.RangeFuncNested
import Derived.RangeFuncBound
import Derived.RangeFuncCalls
import Derived.RangeFuncLeaves
namespace Go.Proofs.YtbkgbhlmeeodgaaGreatDoor
open Go.RowKit
def bs (l:List UInt8):ByteArray:=⟨l.toArray⟩
theorem bs_size (l:List UInt8):(bs l).size=l.length:=by simp [bs,ByteArray.size]
theorem bs_of (s:ByteArray):bs s.data.toList=s:=rfl
theorem bs_data (l:List UInt8):(bs l).data.toList=l:=by simp [bs]
theorem bs_nil:bs []=⟨#[]⟩:=rfl
theorem bs_inj {l m:List UInt8} (h:bs l=bs m):l=m:=by
 have:=congrArg (fun s:ByteArray=>s.data.toList) h
 simpa [bs_data] using this
theorem bs_get (l:List UInt8) (k:Nat) (h:k<(bs l).size):(bs l)[k]'h=l.getD k 0:=by
 have h':k<l.length:=by rwa [bs_size] at h
 simp [bs,List.getD_eq_getElem?_getD,List.getElem?_eq_getElem h']
 rfl
theorem bs_ext (l:List UInt8) (a b:Nat):(bs l).extract a b=bs ((l.drop a).take (b-a)):=by
 unfold bs
 rw [ByteArray.extract_mk]
def oct (l:List UInt8) (k:Nat):Int:=((l.getD k 0).toNat:Int)
theorem bs_oct (l:List UInt8) (k:Nat):∀ h,(((bs l)[k]'h).toNat:Int)=oct l k:=fun h=>by rw [bs_get];rfl
theorem oct_range (l:List UInt8) (k:Nat):0≤oct l k∧oct l k<256:=by
 have:=(l.getD k 0).toNat_lt
 unfold oct
 omega
theorem val_int {k:IntKind} {a b:Int} (h:a=b):Value.int k a=.int k b:=by rw [h]
theorem ret_int {k:IntKind} {a b:Int} (h:a=b):Ending.returned (.int k a)=.returned (.int k b):=by rw [h]
theorem below_drewN {B:Nat} {a w:World} (h:Below B a w) (q:Nat):Below B a (w.drewN q):=⟨h.os,h.tape,h.output,h.size,h.block⟩
def sp (c:UInt8):Bool:=c==32||c==9
def ltrim (l:List UInt8):List UInt8:=l.dropWhile sp
def rtrim (l:List UInt8):List UInt8:=(l.reverse.dropWhile sp).reverse
def trim (l:List UInt8):List UInt8:=rtrim (ltrim l)
theorem ltrim_rtrim:∀ l:List UInt8,ltrim (rtrim l)=rtrim (ltrim l)
 | []=>rfl
 | x::l=>by
  have ih:=ltrim_rtrim l
  unfold ltrim rtrim at *
  rw [List.reverse_cons,List.dropWhile_append]
  cases hp:sp x with
  | true=>
   rw [List.dropWhile_cons_of_pos (by simp [hp])]
   by_cases he:(l.reverse.dropWhile sp).isEmpty
   · rw [if_pos he]
     rw [List.isEmpty_iff] at he
     rw [List.dropWhile_cons_of_pos (by simp [hp])]
     rw [he] at ih
     rw [←ih]
     rfl
   · rw [if_neg he,List.reverse_append,List.reverse_singleton,List.singleton_append,List.dropWhile_cons_of_pos (by simp [hp]),ih,List.dropWhile_cons_of_pos (by simp [hp])]
  | false=>
   rw [List.dropWhile_cons_of_neg (by simp [hp]) (l:=l),List.reverse_cons,List.dropWhile_append]
   by_cases he:(l.reverse.dropWhile sp).isEmpty
   · rw [if_pos he]
     rw [List.dropWhile_cons_of_neg (by simp [hp])]
     simp [hp]
   · rw [if_neg he,List.reverse_append,List.reverse_singleton,List.singleton_append,List.dropWhile_cons_of_neg (by simp [hp])]
theorem sp_contains (c:UInt8):([32,9]:List UInt8).contains c=sp c:=by
 simp [sp,List.contains,List.elem,BEq.beq]
 by_cases h:c=32
 · simp [h]
 · by_cases h':c=9
   · simp [h']
   · simp [h,h']
theorem trimS_eq (l:List UInt8):Lib.trimS l [32,9]=trim l:=by
 unfold Lib.trimS Lib.trimLeftS Lib.trimRightS
 have e:(fun x=>([32,9]:List UInt8).contains x)=sp:=funext sp_contains
 rw [e]
 exact ltrim_rtrim l
theorem trim_length (l:List UInt8):(trim l).length≤l.length:=by
 unfold trim rtrim ltrim
 rw [List.length_reverse]
 have h1:=(List.dropWhile_sublist sp (l:=(l.dropWhile sp).reverse)).length_le
 have h2:=(List.dropWhile_sublist sp (l:=l)).length_le
 rw [List.length_reverse] at h1
 omega
def glue (p:List UInt8):List (List UInt8)→List (List UInt8)
 | []=>[p]
 | h::t=>(p++h)::t
def cutAll (c:UInt8):List UInt8→List (List UInt8)
 | []=>[[]]
 | x::l=>if x=c then []::cutAll c l else glue [x] (cutAll c l)
theorem cutAll_ne (c:UInt8):∀ l,cutAll c l ≠ []
 | []=>by simp [cutAll]
 | x::l=>by
  unfold cutAll
  split
  · simp
  · cases cutAll c l <;> simp [glue]
theorem cutAll_none (c:UInt8):∀ l:List UInt8,c∉l→cutAll c l = [l]
 | [],_=>rfl
 | x::l,h=>by
  simp at h
  rw [cutAll,if_neg (fun e=>h.1 e.symm),cutAll_none c l h.2]
  rfl
theorem cutAll_some (c:UInt8):∀ (a b:List UInt8),c∉a→cutAll c (a++c::b)=a::cutAll c b
 | [],b,_=>by simp [cutAll]
 | x::a,b,h=>by
  simp at h
  rw [List.cons_append,cutAll,if_neg (fun e=>h.1 e.symm),cutAll_some c a b h.2]
  rfl
theorem cutAll_length (c:UInt8):∀ l:List UInt8,(cutAll c l).length≤l.length+1
 | []=>by simp [cutAll]
 | x::l=>by
  have:=cutAll_length c l
  unfold cutAll
  split
  · simp;omega
  · cases h:cutAll c l with
    | nil=>simp [glue]
    | cons a t=>rw [h] at this;simp [glue] at this ⊢;omega
theorem split_at (c:UInt8):∀ l:List UInt8,c∈l→∃ a b,l=a++c::b∧c∉a
 | [],h=>by simp at h
 | x::l,h=>by
  by_cases e:x=c
  · exact⟨[],l,by simp [e],by simp⟩
  · obtain⟨a,b,e1,e2⟩:=split_at c l (by simp at h;rcases h with h | h;exact absurd h.symm e;exact h)
    exact⟨x::a,b,by simp [e1],by simp [e2,Ne.symm e]⟩
theorem index_one (c:UInt8):∀ a b:List UInt8,c∉a→Lib.index (a++c::b) [c]=a.length
 | [],b,_=>by simp [Lib.index,List.isPrefixOf]
 | x::a,b,h=>by
  simp at h
  have ih:=index_one c a b h.2
  rw [List.cons_append,Lib.index,if_neg (by simp [List.isPrefixOf,h.1])]
  rw [ih,if_neg (by simp)]
  simp
theorem index_no (c:UInt8):∀ l:List UInt8,c∉l→Lib.index l [c] = -1
 | [],_=>by simp [Lib.index]
 | x::l,h=>by
  simp at h
  have ih:=index_no c l h.2
  rw [Lib.index,if_neg (by simp [List.isPrefixOf,h.1]),ih]
  rfl
def noCR (l:List UInt8):List UInt8:=if l.getLast? = some 13 then l.dropLast else l
def bodyOf (l:List UInt8):List UInt8:=(cutAll 35 (noCR l)).headD []
def fieldsOf (l:List UInt8):List (List UInt8):=(cutAll 59 l).map trim
abbrev Ln:=Int×List (List UInt8)
def lineOf (x:Int×List UInt8):Option Ln:=if trim x.2 = [] then none else some (x.1,fieldsOf x.2)
def numbered:Int→List (List UInt8)→List (Int×List UInt8)
 | _,[]=>[]
 | n,l::t=>(n,bodyOf l)::numbered (n+1) t
def linesIn (l:List UInt8):List Ln:=(numbered 1 (cutAll 10 l)).filterMap lineOf
theorem numbered_append:∀ (n:Int) (a b:List (List UInt8)),numbered n (a++b)=numbered n a++numbered (n+a.length) b
 | n,[],b=>by simp [numbered]
 | n,x::a,b=>by
  rw [List.cons_append,numbered,numbered_append,numbered,List.cons_append,List.length_cons]
  congr 3
  push_cast
  omega
theorem numbered_length:∀ (n:Int) (a:List (List UInt8)),(numbered n a).length=a.length
 | _,[]=>rfl
 | n,x::a=>by simp [numbered,numbered_length]
theorem line_empty (n:Int):lineOf (n,bodyOf [])=none:=by
 have:trim (bodyOf []) = []:=by decide
 simp [lineOf,this]
def pieces (l:List UInt8):List (List UInt8):=if (cutAll 10 l).getLast? = some [] then (cutAll 10 l).dropLast else cutAll 10 l
theorem pieces_nil:pieces [] = []:=rfl
theorem pieces_some {a b:List UInt8} (h:(10:UInt8)∉a):pieces (a++10::b)=a::pieces b:=by
 unfold pieces
 rw [cutAll_some 10 a b h]
 cases e:cutAll 10 b with
 | nil=>exact absurd e (cutAll_ne 10 b)
 | cons x t=>
  rw [List.getLast?_cons_cons]
  split
  · rw [List.dropLast_cons_cons]
  · rfl
theorem pieces_none {l:List UInt8} (h:(10:UInt8)∉l) (hl:l ≠ []):pieces l = [l]:=by
 unfold pieces
 rw [cutAll_none 10 l h]
 simp [hl]
theorem pieces_length (l:List UInt8):(pieces l).length≤l.length+1:=by
 have:=cutAll_length 10 l
 unfold pieces
 split
 · rw [List.length_dropLast];omega
 · exact this
theorem lines_pieces (l:List UInt8):(numbered 1 (pieces l)).filterMap lineOf=linesIn l:=by
 unfold linesIn pieces
 split
 · rename_i h
   have e:cutAll 10 l=(cutAll 10 l).dropLast ++ [[]]:=by
    rw [List.getLast?_eq_some_iff] at h
    obtain⟨ys,h⟩:=h
    rw [h]
    simp
   rw [e,numbered_append,List.filterMap_append]
   simp [numbered,line_empty]
 · rfl
end Go.Proofs.YtbkgbhlmeeodgaaGreatDoor
namespace Go.Proofs.YtbkgbhlmeeodgaaGreatDoor
section
variable (dec:Int→List Int)
inductive Plus:Int→Int→Prop
 | one {c x:Int} (h:x∈dec c):Plus c x
 | more {c x y:Int} (h:x∈dec c) (t:Plus x y):Plus c y
def Ends:Nat→Int→Prop
 | 0,c=>dec c = []
 | n+1,c=>∀ d∈dec c,Ends n d
variable {dec}
theorem Plus.trans {a b c:Int} (h:Plus dec a b) (k:Plus dec b c):Plus dec a c:=by
 induction h with
 | one h=>exact .more h k
 | more h _ ih=>exact .more h (ih k)
theorem Plus.has {c x:Int} (h:Plus dec c x):dec c ≠ []:=by
 cases h with
 | one h=>exact List.ne_nil_of_mem h
 | more h _=>exact List.ne_nil_of_mem h
theorem ends_nil {c:Int} (h:dec c = []):∀ n,Ends dec n c
 | 0=>h
 | n+1=>fun d hd=>by rw [h] at hd;cases hd
theorem Ends.succ:∀ {n:Nat} {c:Int},Ends dec n c→Ends dec (n+1) c
 | 0,_,h=>ends_nil h 1
 | _+1,_,h=>fun d hd=>Ends.succ (h d hd)
theorem Ends.mono {n m:Nat} (hm:n≤m) {c:Int} (h:Ends dec n c):Ends dec m c:=by
 induction hm with
 | refl=>exact h
 | step _ ih=>exact ih.succ
theorem long_way:∀ (n:Nat) (c:Int),¬Ends dec n c→∃ l:List Int,(l.length=n+1∧l.head? = some c)∧(∀ x∈l,dec x ≠ [])∧l.Pairwise (Plus dec)
 | 0,c,h=>⟨[c],⟨rfl,rfl⟩,fun x hx=>(List.mem_singleton.1 hx)▸h,List.pairwise_singleton _ _⟩
 | n+1,c,h=>by
  have h':∃ d∈dec c,¬Ends dec n d:=Classical.byContradiction fun hn=>h fun d hd=>Classical.byContradiction fun hd'=>hn ⟨d,hd,hd'⟩
  obtain⟨d,hd,hd'⟩:=h'
  obtain⟨l,⟨h1,h2⟩,h3,h4⟩:=long_way n d hd'
  refine⟨c::l,⟨by simp [h1],rfl⟩,fun x hx=>?_,List.pairwise_cons.2 ⟨fun y hy=>?_,h4⟩⟩
  · rcases List.mem_cons.1 hx with rfl | hx
    · exact List.ne_nil_of_mem hd
    · exact h3 x hx
  · cases l with
    | nil=>cases hy
    | cons e t=>
     injection h2 with h2
     subst h2
     rcases List.mem_cons.1 hy with rfl | hy
     · exact .one hd
     · exact .more hd (List.rel_of_pairwise_cons h4 hy)
theorem all_end {K:List Int} (hK:∀ c,dec c ≠ []→c∈K) (hno:∀ c∈K,¬Plus dec c c) (c:Int):Ends dec K.length c:=by
 refine Classical.byContradiction fun h=>?_
 obtain⟨l,⟨h1,-⟩,h3,h4⟩:=long_way _ c h
 have hnd:l.Nodup:=by
  refine List.Pairwise.imp_of_mem (fun {a b} ha hb hab e=>?_) h4
  subst e
  exact hno a (hK a (h3 a ha)) hab
 have:=List.Nodup.length_le_of_subset hnd (fun x hx=>hK x (h3 x hx))
 omega
variable (dec)
def cnt:Nat→Int→Nat
 | 0,_=>1
 | n+1,c=>if dec c = [] then 1 else ((dec c).map (cnt n)).sum
def prt:Nat→Int→Nat
 | 0,_=>1
 | n+1,c=>match dec c with
  | []=>1
  | [d]=>prt n d
  | d::e::_=>if prt n d≤4 then prt n d+prt n e else prt n d
variable {dec}
theorem cnt_succ:∀ {n:Nat} {c:Int},Ends dec n c→cnt dec (n+1) c=cnt dec n c
 | 0,c,h=>by
  have h:dec c = []:=h
  simp [cnt,h]
 | n+1,c,h=>by
  show (if dec c = [] then 1 else ((dec c).map (cnt dec (n+1))).sum)=(if dec c = [] then 1 else ((dec c).map (cnt dec n)).sum)
  by_cases e:dec c = []
  · rw [if_pos e,if_pos e]
  · rw [if_neg e,if_neg e,List.map_congr_left (fun d hd=>cnt_succ (h d hd))]
theorem cnt_same {n m:Nat} (hm:n≤m) {c:Int} (h:Ends dec n c):cnt dec m c=cnt dec n c:=by
 induction hm with
 | refl=>rfl
 | step hs ih=>rw [cnt_succ (h.mono hs),ih]
theorem prt_pos:∀ (n:Nat) (c:Int),1≤prt dec n c
 | 0,_=>Nat.le_refl _
 | n+1,c=>by
  rw [prt]
  match dec c with
  | []=>exact Nat.le_refl _
  | [d]=>exact prt_pos n d
  | d::e::t=>
   simp only
   have:=prt_pos n d
   split <;> omega
theorem prt_cnt (h2:∀ c,(dec c).length≤2):∀ (n:Nat) (c:Int),(prt dec n c≤4↔cnt dec n c≤4)∧(prt dec n c≤4→prt dec n c=cnt dec n c)
 | 0,c=>by simp [prt,cnt]
 | n+1,c=>by
  have hl:=h2 c
  rw [prt,cnt]
  match hd:dec c with
  | []=>simp
  | [d]=>
   have:=prt_cnt h2 n d
   simpa using this
  | [d,e]=>
   obtain⟨i1,i2⟩:=prt_cnt h2 n d
   obtain⟨j1,j2⟩:=prt_cnt h2 n e
   have pe:=prt_pos (dec:=dec) n e
   simp only [List.map_cons,List.map_nil,List.sum_cons,List.sum_nil,Nat.add_zero]
   rw [if_neg (show ¬([d,e]=([]:List Int)) by simp)]
   by_cases hp:prt dec n d≤4
   · rw [if_pos hp]
     have e1:=i2 hp
     by_cases hq:prt dec n e≤4
     · have e2:=j2 hq
       rw [e1,e2]
       exact⟨Iff.rfl,fun _=>rfl⟩
     · have:¬cnt dec n e≤4:=fun h=>hq (j1.2 h)
       exact⟨⟨fun h=>by omega,fun h=>by omega⟩,fun h=>by omega⟩
   · rw [if_neg hp]
     have:¬cnt dec n d≤4:=fun h=>hp (i1.2 h)
     exact⟨⟨fun h=>by omega,fun h=>by omega⟩,fun h=>by omega⟩
  | d::e::f::t=>rw [hd] at hl;simp at hl
end
def addN (all:List Int) (d:Int):List Int:=if d∈all then all else all ++ [d]
def addL (all:List Int) (ds:List Int):List Int:=ds.foldl addN all
def rch (dec:Int→List Int):Nat→Nat→List Int→List Int
 | 0,_,all=>all
 | n+1,i,all=>match all[i]? with
  | none=>all
  | some c=>rch dec n (i+1) (addL all (dec c))
theorem addN_mem {all:List Int} {d x:Int}:x∈addN all d↔x∈all∨x=d:=by
 unfold addN
 split
 · rename_i h
   exact⟨.inl,fun h'=>h'.elim id (fun e=>e▸h)⟩
 · simp
theorem addL_mem:∀ {ds all:List Int} {x:Int},x∈addL all ds↔x∈all∨x∈ds
 | [],_,_=>by simp [addL]
 | d::ds,all,x=>by
  show x∈addL (addN all d) ds↔_
  rw [addL_mem,addN_mem,List.mem_cons,or_assoc]
theorem addN_pre (all:List Int) (d:Int):all <+: addN all d:=by
 unfold addN
 split
 · exact List.prefix_refl _
 · exact List.prefix_append _ _
theorem addL_pre:∀ (ds all:List Int),all <+: addL all ds
 | [],_=>List.prefix_refl _
 | d::ds,all=>(addN_pre all d).trans (addL_pre ds (addN all d))
def Gath (U fr all:List Int):Prop:=∃ ex,all=fr++ex∧ex.Nodup∧(∀ x∈ex,x∉fr)∧∀ x∈ex,x∈U
theorem gath_addN {U fr all:List Int} {d:Int} (h:Gath U fr all) (hd:d∈U):Gath U fr (addN all d):=by
 obtain⟨ex,rfl,h1,h2,h3⟩:=h
 unfold addN
 split
 · exact⟨ex,rfl,h1,h2,h3⟩
 · rename_i hn
   rw [List.mem_append,not_or] at hn
   refine⟨ex ++ [d],by rw [List.append_assoc],List.nodup_append.2 ⟨h1,by simp,fun a ha b hb e=>?_⟩,fun x hx=>?_,fun x hx=>?_⟩
   · rw [List.mem_singleton] at hb
     subst hb
     subst e
     exact hn.2 ha
   · rcases List.mem_append.1 hx with h | h
     · exact h2 x h
     · rw [List.mem_singleton.1 h];exact hn.1
   · rcases List.mem_append.1 hx with h | h
     · exact h3 x h
     · rw [List.mem_singleton.1 h];exact hd
theorem gath_addL:∀ {ds U fr all:List Int},Gath U fr all→(∀ d∈ds,d∈U)→Gath U fr (addL all ds)
 | [],_,_,_,h,_=>h
 | d::ds,_,_,all,h,hd=>gath_addL (ds:=ds) (all:=addN all d) (gath_addN h (hd d (List.mem_cons_self ..))) (fun x hx=>hd x (List.mem_cons_of_mem _ hx))
theorem gath_len {U fr all:List Int} (h:Gath U fr all):all.length≤fr.length+U.length:=by
 obtain⟨ex,rfl,h1,-,h3⟩:=h
 have:=List.Nodup.length_le_of_subset h1 h3
 simp
 omega
def RchI (dec:Int→List Int) (U fr:List Int) (i:Nat) (all:List Int):Prop:=
 Gath U fr all∧i≤all.length∧(∀ x∈all,x∈fr∨∃ y∈fr,Plus dec y x)∧∀ (j:Nat) (c:Int),j<i→all[j]? = some c→∀ d∈dec c,d∈all
theorem rch_step {dec:Int→List Int} {U fr:List Int} {i:Nat} {all:List Int} {c:Int} (h:RchI dec U fr i all) (hU:∀ c,∀ d∈dec c,d∈U) (hc:all[i]? = some c):RchI dec U fr (i+1) (addL all (dec c)):=by
 obtain⟨h1,h2,h3,h4⟩:=h
 have hi:=(List.getElem?_eq_some_iff.1 hc).1
 have hp:=addL_pre (dec c) all
 refine⟨gath_addL h1 (hU c),Nat.le_trans hi hp.length_le,fun x hx=>?_,fun j e hj he d hd=>?_⟩
 · rcases addL_mem.1 hx with h | h
   · exact h3 x h
   · rcases h3 c (List.mem_of_getElem? hc) with hf | ⟨y,hy,hyc⟩
     · exact .inr ⟨c,hf,.one h⟩
     · exact .inr ⟨y,hy,hyc.trans (.one h)⟩
 · have hj':j<all.length:=by omega
   have he':all[j]? = some e:=by
    obtain⟨t,ht⟩:=hp
    rw [←ht,List.getElem?_append_left hj'] at he
    exact he
   by_cases e1:j=i
   · subst e1
     rw [hc] at he'
     cases he'
     exact addL_mem.2 (.inr hd)
   · exact addL_mem.2 (.inl (h4 j e (by omega) he' d hd))
theorem rch_all {dec:Int→List Int} {U fr:List Int} (hU:∀ c,∀ d∈dec c,d∈U):∀ (n i:Nat) (all:List Int),RchI dec U fr i all→fr.length+U.length<n+i→∃ j,j=(rch dec n i all).length∧RchI dec U fr j (rch dec n i all)
 | 0,i,all,h,hn=>by
  have:=gath_len h.1
  have:=h.2.1
  omega
 | n+1,i,all,h,hn=>by
  rw [rch]
  match hc:all[i]? with
  | none=>
   have h2:=h.2.1
   have:=List.getElem?_eq_none_iff.1 hc
   have e:i=all.length:=by omega
   exact⟨i,e,h⟩
  | some c=>
   exact rch_all hU n (i+1) _ (rch_step h hU hc) (by omega)
theorem rch_iff {dec:Int→List Int} {U fr:List Int} (hU:∀ c,∀ d∈dec c,d∈U) {n:Nat} (hn:fr.length+U.length<n) (x:Int):x∈rch dec n 0 fr↔x∈fr∨∃ y∈fr,Plus dec y x:=by
 have h0:RchI dec U fr 0 fr:=⟨⟨[],by simp,List.nodup_nil,fun x h=>(by cases h),fun x h=>(by cases h)⟩,Nat.zero_le _,fun x h=>.inl h,fun j c hj=>absurd hj (Nat.not_lt_zero _)⟩
 obtain⟨j,hj,h1,-,h3,h4⟩:=rch_all hU n 0 fr h0 (by omega)
 refine⟨h3 x,fun hx=>?_⟩
 have hcl:∀ c∈rch dec n 0 fr,∀ d∈dec c,d∈rch dec n 0 fr:=fun c hc d hd=>by
  obtain⟨k,hk⟩:=List.mem_iff_getElem?.1 hc
  have:=(List.getElem?_eq_some_iff.1 hk).1
  exact h4 k c (by omega) hk d hd
 have hfr:∀ y∈fr,y∈rch dec n 0 fr:=fun y hy=>by
  obtain⟨ex,he,-⟩:=h1
  rw [he]
  exact List.mem_append_left _ hy
 rcases hx with hx | ⟨y,hy,hp⟩
 · exact hfr x hx
 · have hy':=hfr y hy
   clear hy
   induction hp with
   | one h=>exact hcl _ hy' _ h
   | more h _ ih=>exact ih (hcl _ hy' _ h)
theorem round_iff {dec:Int→List Int} {U:List Int} (hU:∀ c,∀ d∈dec c,d∈U) {n:Nat} {c:Int} (hn:(dec c).length+U.length<n):c∈rch dec n 0 (dec c)↔Plus dec c c:=by
 rw [rch_iff hU hn]
 constructor
 · rintro (h | ⟨y,hy,h⟩)
   · exact .one h
   · exact .more hy h
 · intro h
   cases h with
   | one h=>exact .inl h
   | more h t=>exact .inr ⟨_,h,t⟩
end Go.Proofs.YtbkgbhlmeeodgaaGreatDoor
namespace Go.Proofs.YtbkgbhlmeeodgaaGreatDoor
open Go.RowKit
def Kept (A:Nat→Prop) (W W':World):Prop:=W.heap.size≤W'.heap.size∧∀ k,A k→k<W.heap.size→W'.heap[k]? = W.heap[k]?
theorem Kept.refl (A:Nat→Prop) (W:World):Kept A W W:=⟨Nat.le_refl _,fun _ _ _=>rfl⟩
theorem Kept.trans {A:Nat→Prop} {W W1 W2:World} (h:Kept A W W1) (k:Kept A W1 W2):Kept A W W2:=
 ⟨Nat.le_trans h.1 k.1,fun i hA hi=>(k.2 i hA (Nat.lt_of_lt_of_le hi h.1)).trans (h.2 i hA hi)⟩
theorem Kept.mono {A A':Nat→Prop} {W W':World} (h:Kept A W W') (hA:∀ k,A' k→A k):Kept A' W W':=⟨h.1,fun i hi hl=>h.2 i (hA i hi) hl⟩
theorem Kept.of_below {A:Nat→Prop} {W W':World} (h:Below W.heap.size W W'):Kept A W W':=⟨h.size,fun k _ hk=>h.block k hk⟩
theorem Kept.alloc {A:Nat→Prop} (W:World) (o:Obj):Kept A W (W.alloc o):=.of_below ((Below.refl _ _).alloc (Nat.le_refl _) _)
theorem Kept.grown {A:Nat→Prop} {W W':World} {row:Option Nat} (h:W.grownBy W' row) (hr:∀ r,row=some r→¬A r):Kept A W W':=⟨h.size,fun k hA hk=>h.block k hk (fun e=>hr k e.symm hA)⟩
theorem Kept.setCell {A:Nat→Prop} (W:World) (b:Nat) (v:Value) (hb:¬A b):Kept A W (W.setCell ⟨b,0,none⟩ v):=
 .grown (grownBy_setCell' W b v) (fun r e=>by cases e;exact hb)
theorem Kept.putObj {A:Nat→Prop} (W:World) (l:Nat) (o:Obj) (hb:¬A l):Kept A W (W.putObj l o):=
 .grown (grownBy_putObj' W l o) (fun r e=>by cases e;exact hb)
theorem Kept.cell {A:Nat→Prop} {W W':World} {a:Addr} {v:Value} (h:Kept A W W') (hA:A a.block) (hc:W.cell? a=some v):W'.cell? a=some v:=by
 obtain⟨o,ho,_⟩:=cells_of_cell hc
 exact (World.cell?_of_block (h.2 _ hA (Array.getElem?_eq_some_iff.1 ho).1)).trans hc
def Abide {β:Type} (n₀ n₁ B:Nat) (J:β → World→Prop):Prop:=
 ∀ s W W' row,J s W→W.grownBy W' row→(∀ r,row=some r→(n₀ ≤ r∧r<n₁)∨(B≤r∧∃ o:Obj,W.heap[r]? = some o∧o.isCells=false))→J s W'
theorem Abide.mono {β:Type} {n₀ n₁ m₀ m₁ B C:Nat} {J:β → World→Prop} (h:Abide n₀ n₁ B J) (hm:∀ r,m₀ ≤ r→r<m₁ → n₀ ≤ r∧r<n₁) (hB:B≤C):Abide m₀ m₁ C J:=
 fun s W W' row hs hg hr=>h s W W' row hs hg (fun r e=>(hr r e).elim (fun h=>.inl (hm r h.1 h.2)) (fun h=>.inr ⟨Nat.le_trans hB h.1,h.2⟩))
theorem Abide.and {β:Type} {n₀ n₁ B:Nat} {J K:β → World→Prop} (h:Abide n₀ n₁ B J) (k:Abide n₀ n₁ B K):Abide n₀ n₁ B (fun s W=>J s W∧K s W):=
 fun s W W' row hs hg hr=>⟨h s W W' row hs.1 hg hr,k s W W' row hs.2 hg hr⟩
theorem Abide.pure {β:Type} (n₀ n₁ B:Nat) (p:β → Prop):Abide n₀ n₁ B (fun s (_:World)=>p s):=fun _ _ _ _ hs _ _=>hs
theorem Abide.below {β:Type} {n₀ n₁ B:Nat} {J:β → World→Prop} (h:Abide n₀ n₁ B J) {s:β} {W W':World} (hs:J s W) (hb:Below W.heap.size W W'):J s W':=
 h s W W' none hs ⟨hb.os,hb.tape,hb.output,hb.size,fun k hk _=>hb.block k hk⟩ (fun r e=>by cases e)
theorem Abide.put {β:Type} {n₀ n₁ B:Nat} {J:β → World→Prop} (h:Abide n₀ n₁ B J) {s:β} {W:World} {l:Nat} {o o':Obj} (hs:J s W) (hB:B≤l) (hl:W.heap[l]? = some o) (ho:o.isCells=false):J s (W.putObj l o'):=
 h s W _ (some l) hs (grownBy_putObj' W l o') (fun r e=>by cases e;exact .inr ⟨hB,o,hl,ho⟩)
theorem abide_cell {β:Type} {n₀ n₁ B:Nat} (a:β → Addr) (v:β → Value) (ha:∀ s,¬(n₀ ≤ (a s).block∧(a s).block<n₁)):Abide n₀ n₁ B (fun s W=>W.cell? (a s)=some (v s)∧W.frozen? (a s)=false):=by
 intro s W W' row hs hg hr
 obtain⟨o,ho,hc⟩:=cells_of_cell hs.1
 have hblk:W'.heap[(a s).block]? = W.heap[(a s).block]?:=hg.block _ (Array.getElem?_eq_some_iff.1 ho).1 (fun e=>by
  rcases hr _ e.symm with h | ⟨_,o',ho',hc'⟩
  · exact ha s h
  · rw [ho] at ho';cases ho';rw [hc] at hc';cases hc')
 refine⟨(World.cell?_of_block hblk).trans hs.1,?_⟩
 have:=hs.2
 unfold World.frozen? at this ⊢
 rw [hblk]
 exact this
theorem abide_below {β:Type} {n₀ n₁ B n:Nat} (w₀:World) (h0:n≤n₀ ∨ n₁ ≤ n₀) (hB:n≤B) (hn:n≤w₀.heap.size):Abide n₀ n₁ B (fun (_:β) W=>Below n w₀ W):=by
 intro _ W W' row hs hg hr
 refine hs.grown hg (Nat.le_trans hn hs.size) (fun r e=>?_)
 rcases hr r e with h | ⟨h,_⟩ <;> omega
def SeqOwn {α:Type} (F:Fence) (n:Nat) (P:Program) (g:Nat) (lb:Array Value) (encs:α → Array Value) (Rd:α → World→Prop) (A:Nat→Prop) (n₀ n₁:Nat) (S Sp:List α → Prop) (N:Nat) (w:World):Prop:=
 ∀ (l:Nat) (J Jx:List α → World→Prop) (W:World),Below w.heap.size w W→W.heap.size=w.heap.size+2→Abide n₀ n₁ W.heap.size J→Abide n₀ n₁ W.heap.size Jx →
  (∀ pre x W1,J pre W1→Rd x W1→pre.length<N→YieldAt F (n-1) P l (encs x) W1 fun e W'=>
   ((e=.returned (.bool true)∧J (pre ++ [x]) W')∨(e=.returned (.bool false)∧Jx (pre ++ [x]) W'))∧Kept (fun k=>A k∧k≠w.heap.size∧k≠w.heap.size+1) W1 W') →
  J [] W →
  CallsIn F n P g (#[.func (.yield l) #[] #[]]++lb) W fun e W'=>(∃ v,e=.returned v)∧((∃ xs,S xs∧J xs W')∨(∃ pre,Sp pre∧Jx pre W'))
def roundEnd {α:Type} (A:Nat→Prop) (I:List α → World→Prop) (Ix:Code→List α → World→Prop) (xs:List α) (W:World):Exit→Act→World→Prop
 | .normal,_,W'=>Kept A W W'∧I xs W'
 | .ret,_,W'=>Kept A W W'∧Ix .ret xs W'
 | .exit id,_,W'=>Kept A W W'∧Ix (.exit id) xs W'
 | .goto t,_,W'=>Kept A W W'∧Ix (.goto t) xs W'
 | .panic _,_,_=>False
 | .outgrown,_,_=>False
def Book (lo:Nat) (r:Loop) (W:World):Prop:=W.heap[lo+1]? = some (.loop r)∧W.heap[lo]? = some (.deferred (some []))
theorem Book.put {lo:Nat} {r:Loop} {W:World} (h:Book lo r W) (r':Loop):Book lo r' (W.putObj (lo+1) (.loop r')):=
 ⟨World.putObj_heap_same (Array.getElem?_eq_some_iff.1 h.1).1,(World.putObj_heap_other (by omega)).trans h.2⟩
theorem Book.kept {lo:Nat} {r:Loop} {A:Nat→Prop} {W W':World} (h:Book lo r W) (hk:Kept A W W') (h0:A lo) (h1:A (lo+1)):Book lo r W':=
 ⟨(hk.2 _ h1 (Array.getElem?_eq_some_iff.1 h.1).1).trans h.1,(hk.2 _ h0 (Array.getElem?_eq_some_iff.1 h.2).1).trans h.2⟩
theorem Book.abide {β:Type} {lo n₀ n₁ B:Nat} (hn:n₁ ≤ lo) (hB:lo+2≤B) (r:Loop):Abide n₀ n₁ B (fun (_:β) W=>Book lo r W):=by
 intro _ W W' row hs hg hr
 have key:∀ k,lo≤k→k<lo+2→k<W.heap.size→W'.heap[k]? = W.heap[k]?:=fun k h1 h2 h3=>hg.block k h3 (fun e=>by
  rcases hr k e.symm with h | ⟨h,_⟩ <;> omega)
 exact⟨(key _ (by omega) (by omega) (Array.getElem?_eq_some_iff.1 hs.1).1).trans hs.1,(key _ (by omega) (by omega) (Array.getElem?_eq_some_iff.1 hs.2).1).trans hs.2⟩
theorem range_own {F:Fence} {n:Nat} {P:Program} {α:Type} {g:Operand} {ps:Array Tmp} {assign body:Code} {Q:Exit→Act→World→Prop} {a:Act} {w:World}
 (hro:F.round=none) (hn:1≤n) {gf:Nat} {lb:Array Value} (hg:a.eval g=.func (.func gf) #[] lb) (hFg:F.fn gf) (eg:∀ args w,(callFunc gf args).run P w=.ok (.enter gf args) w)
 {encs:α → Array Value} {Rd:α → World→Prop} {A:Nat→Prop} {n₀ n₁:Nat} {S Sp:List α → Prop} {N:Nat} (hseq:SeqOwn F (n-1) P gf lb encs Rd A n₀ n₁ S Sp N w)
 (hn₁:n₁ ≤ w.heap.size) (hA0:A w.heap.size) (hA1:A (w.heap.size+1)) (hps:∀ x,(encs x).size=ps.size) (hRd:∀ x,Abide n₀ n₁ w.heap.size (fun (_:Unit) W=>Rd x W))
 (I:List α → World→Prop) (Ix:Code→List α → World→Prop) (hI:Abide n₀ n₁ w.heap.size I) (hIx:∀ c,Abide n₀ n₁ w.heap.size (Ix c)) (h0:I [] w) (Ax:α → Act→World→Prop) (hAx:∀ x a',Abide n₀ n₁ w.heap.size (fun (_:Unit) W=>Ax x a' W))
 (hassign:∀ (l:Nat) (pre:List α) (x:α) (W:World) (K:Act→World→Prop),I pre W→Rd x W→(∀ a' W',Kept A W W'→I pre W'→Rd x W'→Ax x a' W'→K a' W') →
  assign.wpIn (F.inRound l) (n-1-1) P (Exit.then K (fun _ _ _=>False)) { tmps:=(ps.zip (encs x)).foldl (fun t (p,v)=>t.setIfInBounds p v) a.tmps,defers:=[] } W)
 (hbody:∀ (l:Nat) (pre:List α) (x:α) (a':Act) (W:World),I pre W→Rd x W→Ax x a' W→pre.length<N→body.wpIn (F.inRound l) (n-1-1) P (roundEnd A I Ix (pre ++ [x]) W) a' W)
 (hdone:∀ (D:Nat) (xs:List α) (W:World),w.heap.size≤D→S xs→I xs W→W.heap[D]? = some (.deferred (some []))→Q .normal { a with defers:={ target:=.collected D,args:=#[] } :: a.defers } W)
 (hstop:∀ (D:Nat) (c:Code) (pre:List α) (W:World),w.heap.size≤D→Sp pre→Ix c pre W→W.heap[D]? = some (.deferred (some []))→c.wpIn F n P Q { a with defers:={ target:=.collected D,args:=#[] } :: a.defers } W):
 (Code.rangeFunc g ps assign body).wpIn F n P Q a w:=by
 refine wpIn_rangeFunc fun fn hfn=>?_
 rw [hro]
 generalize hlo:w.heap.size=lo at *
 have mk:∀ st pe,∃ r:Loop,r = { state:=st,pending:=pe,fn:=fn,tmps:=a.tmps,params:=ps,assign:=assign,body:=body,defers:=lo }:=fun _ _=>⟨_,rfl⟩
 obtain⟨r0,e0⟩:=mk .ready none
 have hbk:Book lo r0 ((w.alloc (.deferred (some []))).alloc (.loop r0)):=by
  have h1:=World.alloc_heap_new (w.alloc (.deferred (some []))) (.loop r0)
  rw [World.size_alloc,hlo] at h1
  have h2:=World.alloc_heap_new w (.deferred (some []))
  rw [hlo] at h2
  exact⟨h1,(Below.heap_alloc _ _ _ (by rw [World.size_alloc,hlo];omega)).trans h2⟩
 have hbw:Below w.heap.size w ((w.alloc (.deferred (some []))).alloc (.loop r0)):=((Below.refl _ w).alloc (Nat.le_refl _) _).alloc (by simp) _
 have hI1:I [] ((w.alloc (.deferred (some []))).alloc (.loop r0)):=hI.below h0 hbw
 have hsz:((w.alloc (.deferred (some []))).alloc (.loop r0)).heap.size=lo+2:=by rw [World.size_alloc,World.size_alloc,hlo]
 have hent:(Instr.enterLoop fn a.tmps ps assign body none).run P w=.ok (lo+1,[{ target:=.collected lo,args:=#[] }]) ((w.alloc (.deferred (some []))).alloc (.loop r0)):=by
  rw [e0,←hlo];exact run_enterLoop_outer _ _ _ _ _
 generalize (w.alloc (.deferred (some []))).alloc (.loop r0)=W1 at hbk hbw hI1 hsz hent
 refine⟨lo+1,_,W1,{ target:=.fn (.func gf) lb,args:=#[.func (.yield (lo+1)) #[] #[]] },W1,gf,#[.func (.yield (lo+1)) #[] #[]]++lb,W1,hent,?_,?_,?_,fun _=>hn,?_⟩
 · simp only [resolve,hg]
   simp [go_sem]
 · intro f' hf'
   simp [Target.leads] at hf'
   subst hf'
   exact hFg
 · simp [invoke,go_sem,eg]
 have hmn:∀ r,n₀ ≤ r→r<n₁ → n₀ ≤ r∧r<n₁:=fun _ h h'=>⟨h,h'⟩
 have hle:lo≤W1.heap.size:=by omega
 have hs1:=hseq (lo+1) (fun pre W=>I pre W∧Book lo r0 W) (fun pre W=>∃ c,Ix c pre W∧Book lo { r0 with state:=.done,pending:=some c } W) W1 hbw (by rw [hsz,hlo])
  ((hI.mono hmn hle).and (Book.abide hn₁ (by omega) r0))
  (fun s X Y row hs hg hr=>by
   obtain⟨c,h1,h2⟩:=hs
   exact⟨c,(hIx c).mono hmn hle s X Y row h1 hg hr,Book.abide (β:=Unit) hn₁ (by omega) _ () X Y row h2 hg hr⟩) ?_ ⟨hI1,hbk⟩
 · refine hs1.mono ?_
   rintro e W2 ⟨⟨v,rfl⟩,(⟨xs,hS,hi,hb⟩ | ⟨pre,hSp,c,hi,hb⟩)⟩
   · have he:=run_endLoop (P:=P) hb.1 (by rw [e0];simp)
     refine⟨none,_,by rw [he,e0],hdone lo xs _ (Nat.le_refl _) hS (hI.put hi (by omega) hb.1 rfl) (hb.put _).2⟩
   · have he:=run_endLoop (P:=P) hb.1 (by simp)
     exact⟨some c,_,he,hstop lo c pre _ (Nat.le_refl _) hSp ((hIx c).put hi (by omega) hb.1 rfl) (hb.put _).2⟩
 · rintro pre x W ⟨hi,hb⟩ hrd hlen
   have hy:=run_yield (P:=P) (args:=encs x) hb.1 (by rw [e0];exact hps x)
   refine⟨fn,_,assign,body,by rw [hy,e0],roundIn_of_wpIn hfn ?_⟩
   refine hassign _ pre x W _ hi hrd ?_
   intro a' Wa hka hia hrda hax
   have hba:=hb.kept hka hA0 hA1
   refine⟨_,run_beginRound hba.1 (by rw [e0]),?_⟩
   have hbb:=hba.put { r0 with state:=.busy }
   have kp:Kept (fun k=>A k∧k≠w.heap.size∧k≠w.heap.size+1) Wa (Wa.putObj (lo+1) (.loop { r0 with state:=.busy })):=Kept.putObj _ _ _ (by rw [hlo];omega)
   have kw:Kept (fun k=>A k∧k≠w.heap.size∧k≠w.heap.size+1) W Wa:=hka.mono (fun _ h=>h.1)
   have kb:=kw.trans kp
   refine wpIn_mono (hbody (lo+1) pre x a' _ (hI.put hia (by omega) hba.1 rfl) ((hRd x).put (s:=()) hrda (by omega) hba.1 rfl) ((hAx x a').put (s:=()) hax (by omega) hba.1 rfl) hlen) ?_
   generalize (Wa.putObj (lo+1) (.loop { r0 with state:=.busy }))=Wb at hbb kb
   have fin:∀ (jump:Option Code) (W3:World),Kept A Wb W3 →
    (Instr.endRound (lo+1) jump).run P W3=.ok (.bool jump.isNone) (W3.putObj (lo+1) (.loop { r0 with state:=if jump.isNone then .ready else .done,pending:=jump })) ∧
    Book lo { r0 with state:=.busy } W3∧Book lo { r0 with state:=if jump.isNone then .ready else .done,pending:=jump } (W3.putObj (lo+1) (.loop { r0 with state:=if jump.isNone then .ready else .done,pending:=jump })) ∧
    Kept (fun k=>A k∧k≠w.heap.size∧k≠w.heap.size+1) W (W3.putObj (lo+1) (.loop { r0 with state:=if jump.isNone then .ready else .done,pending:=jump })):=by
    intro jump W3 hk3
    have hb3:=hbb.kept hk3 hA0 hA1
    exact⟨run_endRound (P:=P) (r:={ r0 with state:=.busy }) jump hb3.1,hb3,hb3.put _,(kb.trans (hk3.mono (fun _ h=>h.1))).trans (Kept.putObj _ _ _ (by rw [hlo];omega))⟩
   rintro e a3 W3 hp
   cases e with
   | normal=>
    obtain⟨hk3,hi3⟩:=hp
    obtain⟨hr,hl3,hl4,hk4⟩:=fin none W3 hk3
    refine⟨_,_,hr,.inl ⟨rfl,hI.put hi3 (by omega) hl3.1 rfl,?_⟩,hk4⟩
    have e1:({ r0 with state:=if (none:Option Code).isNone then .ready else .done,pending:=none }:Loop)=r0:=by rw [e0];rfl
    rw [e1] at hl4 ⊢
    exact hl4
   | ret=>
    obtain⟨hk3,hi3⟩:=hp
    obtain⟨hr,hl3,hl4,hk4⟩:=fin (some .ret) W3 hk3
    exact⟨_,_,hr,.inr ⟨rfl,.ret,(hIx _).put hi3 (by omega) hl3.1 rfl,hl4⟩,hk4⟩
   | exit id=>
    obtain⟨hk3,hi3⟩:=hp
    obtain⟨hr,hl3,hl4,hk4⟩:=fin (some (.exit id)) W3 hk3
    exact⟨_,_,hr,.inr ⟨rfl,.exit id,(hIx _).put hi3 (by omega) hl3.1 rfl,hl4⟩,hk4⟩
   | goto t=>
    obtain⟨hk3,hi3⟩:=hp
    obtain⟨hr,hl3,hl4,hk4⟩:=fin (some (.goto t)) W3 hk3
    exact⟨_,_,hr,.inr ⟨rfl,.goto t,(hIx _).put hi3 (by omega) hl3.1 rfl,hl4⟩,hk4⟩
   | panic ch=>exact hp.elim
   | outgrown=>exact hp.elim
theorem range_own1 {F:Fence} {n:Nat} {P:Program} {α:Type} {g:Operand} {ps:Array Tmp} {assign body:Code} {Q:Exit→Act→World→Prop} {a:Act} {w:World}
 (hro:F.round=none) (hn:1≤n) {gf:Nat} {lb:Array Value} (hg:a.eval g=.func (.func gf) #[] lb) (hFg:F.fn gf) (eg:∀ args w,(callFunc gf args).run P w=.ok (.enter gf args) w)
 {encs:α → Array Value} {Rd:α → World→Prop} {A:Nat→Prop} {n₀ n₁:Nat} {S Sp:List α → Prop} {N:Nat} (hseq:SeqOwn F (n-1) P gf lb encs Rd A n₀ n₁ S Sp N w)
 (hn₁:n₁ ≤ w.heap.size) (hA0:A w.heap.size) (hA1:A (w.heap.size+1)) (hps:∀ x,(encs x).size=ps.size) (hRd:∀ x,Abide n₀ n₁ w.heap.size (fun (_:Unit) W=>Rd x W))
 (I:List α → World→Prop) (Ix:Code→List α → World→Prop) (hI:Abide n₀ n₁ w.heap.size I) (hIx:∀ c,Abide n₀ n₁ w.heap.size (Ix c)) (h0:I [] w) (a₁:α → Act)
 (hassign:∀ (l:Nat) (x:α) (W:World) (K:Act→World→Prop),K (a₁ x) W →
  assign.wpIn (F.inRound l) (n-1-1) P (Exit.then K (fun _ _ _=>False)) { tmps:=(ps.zip (encs x)).foldl (fun t (p,v)=>t.setIfInBounds p v) a.tmps,defers:=[] } W)
 (hbody:∀ (l:Nat) (pre:List α) (x:α) (W:World),I pre W→Rd x W→pre.length<N→body.wpIn (F.inRound l) (n-1-1) P (roundEnd A I Ix (pre ++ [x]) W) (a₁ x) W)
 (hdone:∀ (D:Nat) (xs:List α) (W:World),w.heap.size≤D→S xs→I xs W→W.heap[D]? = some (.deferred (some []))→Q .normal { a with defers:={ target:=.collected D,args:=#[] } :: a.defers } W)
 (hstop:∀ (D:Nat) (c:Code) (pre:List α) (W:World),w.heap.size≤D→Sp pre→Ix c pre W→W.heap[D]? = some (.deferred (some []))→c.wpIn F n P Q { a with defers:={ target:=.collected D,args:=#[] } :: a.defers } W):
 (Code.rangeFunc g ps assign body).wpIn F n P Q a w:=
 range_own hro hn hg hFg eg hseq hn₁ hA0 hA1 hps hRd I Ix hI hIx h0 (fun x a' _=>a'=a₁ x) (fun x a'=>Abide.pure _ _ _ _) (fun l pre x W K hi hr h=>hassign l x W K (h _ _ (Kept.refl _ _) hi hr rfl))
  (fun l pre x a' W hi hr e hl=>by rw [e];exact hbody l pre x W hi hr hl) hdone hstop
end Go.Proofs.YtbkgbhlmeeodgaaGreatDoor
