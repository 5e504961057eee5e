/- A part. -/
import Derived.Test.YtmellioacefjjaaGreatDoorQB01
import Derived.Handy
namespace Go.Proofs.YtmellioacefjjaaGreatDoor
section
variable (dec:Int→List Int)
inductive Plus:Int→Int→Prop
 | one {c x:Int} (h:x∈dec c):Plus c x
 | more {c x y:Int} (h:x∈dec c) (t:Plus x y):Plus c y
def Ends:Nat→Int→Prop
 | 0,c=>dec c = []
 | n+1,c=>∀ d∈dec c,Ends n d
variable {dec}
theorem Plus.trans {a b c:Int} (h:Plus dec a b) (k:Plus dec b c):Plus dec a c:=by
 induction h with
 | one h=>exact .more h k
 | more h _ ih=>exact .more h (ih k)
theorem Plus.has {c x:Int} (h:Plus dec c x):dec c ≠ []:=by
 cases h with
 | one h=>exact List.ne_nil_of_mem h
 | more h _=>exact List.ne_nil_of_mem h
theorem ends_nil {c:Int} (h:dec c = []):∀ n,Ends dec n c
 | 0=>h
 | n+1=>fun d hd=>by rw [h] at hd;cases hd
theorem Ends.succ:∀ {n:Nat} {c:Int},Ends dec n c→Ends dec (n+1) c
 | 0,_,h=>ends_nil h 1
 | _+1,_,h=>fun d hd=>Ends.succ (h d hd)
theorem Ends.mono {n m:Nat} (hm:n≤m) {c:Int} (h:Ends dec n c):Ends dec m c:=by
 induction hm with
 | refl=>exact h
 | step _ ih=>exact ih.succ
theorem long_way:∀ (n:Nat) (c:Int),¬Ends dec n c→∃ l:List Int,(l.length=n+1∧l.head? = some c)∧(∀ x∈l,dec x ≠ [])∧l.Pairwise (Plus dec)
 | 0,c,h=>⟨[c],⟨rfl,rfl⟩,fun x hx=>(List.mem_singleton.1 hx)▸h,List.pairwise_singleton _ _⟩
 | n+1,c,h=>by
  have h':∃ d∈dec c,¬Ends dec n d:=Classical.byContradiction fun hn=>h fun d hd=>Classical.byContradiction fun hd'=>hn ⟨d,hd,hd'⟩
  obtain⟨d,hd,hd'⟩:=h'
  obtain⟨l,⟨h1,h2⟩,h3,h4⟩:=long_way n d hd'
  refine⟨c::l,⟨by simp [h1],rfl⟩,fun x hx=>?_,List.pairwise_cons.2 ⟨fun y hy=>?_,h4⟩⟩
  · rcases List.mem_cons.1 hx with rfl | hx
    · exact List.ne_nil_of_mem hd
    · exact h3 x hx
  · cases l with
    | nil=>cases hy
    | cons e t=>
     injection h2 with h2
     subst h2
     rcases List.mem_cons.1 hy with rfl | hy
     · exact .one hd
     · exact .more hd (List.rel_of_pairwise_cons h4 hy)
theorem all_end {K:List Int} (hK:∀ c,dec c ≠ []→c∈K) (hno:∀ c∈K,¬Plus dec c c) (c:Int):Ends dec K.length c:=by
 refine Classical.byContradiction fun h=>?_
 obtain⟨l,⟨h1,-⟩,h3,h4⟩:=long_way _ c h
 have hnd:l.Nodup:=by
  refine List.Pairwise.imp_of_mem (fun {a b} ha hb hab e=>?_) h4
  subst e
  exact hno a (hK a (h3 a ha)) hab
 have:=List.Nodup.length_le_of_subset hnd (fun x hx=>hK x (h3 x hx))
 omega
variable (dec)
def cnt:Nat→Int→Nat
 | 0,_=>1
 | n+1,c=>if dec c = [] then 1 else ((dec c).map (cnt n)).sum
def prt:Nat→Int→Nat
 | 0,_=>1
 | n+1,c=>match dec c with
  | []=>1
  | [d]=>prt n d
  | d::e::_=>if prt n d≤4 then prt n d+prt n e else prt n d
variable {dec}
theorem cnt_succ:∀ {n:Nat} {c:Int},Ends dec n c→cnt dec (n+1) c=cnt dec n c
 | 0,c,h=>by
  have h:dec c = []:=h
  simp [cnt,h]
 | n+1,c,h=>by
  show (if dec c = [] then 1 else ((dec c).map (cnt dec (n+1))).sum)=(if dec c = [] then 1 else ((dec c).map (cnt dec n)).sum)
  by_cases e:dec c = []
  · rw [if_pos e,if_pos e]
  · rw [if_neg e,if_neg e,List.map_congr_left (fun d hd=>cnt_succ (h d hd))]
theorem cnt_same {n m:Nat} (hm:n≤m) {c:Int} (h:Ends dec n c):cnt dec m c=cnt dec n c:=by
 induction hm with
 | refl=>rfl
 | step hs ih=>rw [cnt_succ (h.mono hs),ih]
theorem prt_pos:∀ (n:Nat) (c:Int),1≤prt dec n c
 | 0,_=>Nat.le_refl _
 | n+1,c=>by
  rw [prt]
  match dec c with
  | []=>exact Nat.le_refl _
  | [d]=>exact prt_pos n d
  | d::e::t=>
   simp only
   have:=prt_pos n d
   split <;> omega
theorem prt_le:∀ (n:Nat) (c:Int),prt dec n c≤4*n+1
 | 0,_=>Nat.le_refl _
 | n+1,c=>by
  rw [prt]
  match dec c with
  | []=>simp only;omega
  | [d]=>have:=prt_le n d;simp only;omega
  | d::e::t=>
   simp only
   have:=prt_le n d
   have:=prt_le n e
   split <;> omega
theorem prt_cnt (h2:∀ c,(dec c).length≤2):∀ (n:Nat) (c:Int),(prt dec n c≤4↔cnt dec n c≤4)∧(prt dec n c≤4→prt dec n c=cnt dec n c)
 | 0,c=>by simp [prt,cnt]
 | n+1,c=>by
  have hl:=h2 c
  rw [prt,cnt]
  match hd:dec c with
  | []=>simp
  | [d]=>
   have:=prt_cnt h2 n d
   simpa using this
  | [d,e]=>
   obtain⟨i1,i2⟩:=prt_cnt h2 n d
   obtain⟨j1,j2⟩:=prt_cnt h2 n e
   have pe:=prt_pos (dec:=dec) n e
   simp only [List.map_cons,List.map_nil,List.sum_cons,List.sum_nil,Nat.add_zero]
   rw [if_neg (show ¬([d,e]=([]:List Int)) by simp)]
   by_cases hp:prt dec n d≤4
   · rw [if_pos hp]
     have e1:=i2 hp
     by_cases hq:prt dec n e≤4
     · have e2:=j2 hq
       rw [e1,e2]
       exact⟨Iff.rfl,fun _=>rfl⟩
     · have:¬cnt dec n e≤4:=fun h=>hq (j1.2 h)
       exact⟨⟨fun h=>by omega,fun h=>by omega⟩,fun h=>by omega⟩
   · rw [if_neg hp]
     have:¬cnt dec n d≤4:=fun h=>hp (i1.2 h)
     exact⟨⟨fun h=>by omega,fun h=>by omega⟩,fun h=>by omega⟩
  | d::e::f::t=>rw [hd] at hl;simp at hl
end
def addN (all:List Int) (d:Int):List Int:=if d∈all then all else all ++ [d]
def addL (all:List Int) (ds:List Int):List Int:=ds.foldl addN all
def rch (dec:Int→List Int):Nat→Nat→List Int→List Int
 | 0,_,all=>all
 | n+1,i,all=>match all[i]? with
  | none=>all
  | some c=>rch dec n (i+1) (addL all (dec c))
theorem addN_mem {all:List Int} {d x:Int}:x∈addN all d↔x∈all∨x=d:=by
 unfold addN
 split
 · rename_i h
   exact⟨.inl,fun h'=>h'.elim id (fun e=>e▸h)⟩
 · simp
theorem addL_mem:∀ {ds all:List Int} {x:Int},x∈addL all ds↔x∈all∨x∈ds
 | [],_,_=>by simp [addL]
 | d::ds,all,x=>by
  show x∈addL (addN all d) ds↔_
  rw [addL_mem,addN_mem,List.mem_cons,or_assoc]
theorem addN_pre (all:List Int) (d:Int):all <+: addN all d:=by
 unfold addN
 split
 · exact List.prefix_refl _
 · exact List.prefix_append _ _
theorem addL_pre:∀ (ds all:List Int),all <+: addL all ds
 | [],_=>List.prefix_refl _
 | d::ds,all=>(addN_pre all d).trans (addL_pre ds (addN all d))
def Gath (U fr all:List Int):Prop:=∃ ex,all=fr++ex∧ex.Nodup∧(∀ x∈ex,x∉fr)∧∀ x∈ex,x∈U
theorem gath_addN {U fr all:List Int} {d:Int} (h:Gath U fr all) (hd:d∈U):Gath U fr (addN all d):=by
 obtain⟨ex,rfl,h1,h2,h3⟩:=h
 unfold addN
 split
 · exact⟨ex,rfl,h1,h2,h3⟩
 · rename_i hn
   rw [List.mem_append,not_or] at hn
   refine⟨ex ++ [d],by rw [List.append_assoc],List.nodup_append.2 ⟨h1,by simp,fun a ha b hb e=>?_⟩,fun x hx=>?_,fun x hx=>?_⟩
   · rw [List.mem_singleton] at hb
     subst hb
     subst e
     exact hn.2 ha
   · rcases List.mem_append.1 hx with h | h
     · exact h2 x h
     · rw [List.mem_singleton.1 h];exact hn.1
   · rcases List.mem_append.1 hx with h | h
     · exact h3 x h
     · rw [List.mem_singleton.1 h];exact hd
theorem gath_addL:∀ {ds U fr all:List Int},Gath U fr all→(∀ d∈ds,d∈U)→Gath U fr (addL all ds)
 | [],_,_,_,h,_=>h
 | d::ds,_,_,all,h,hd=>gath_addL (ds:=ds) (all:=addN all d) (gath_addN h (hd d (List.mem_cons_self ..))) (fun x hx=>hd x (List.mem_cons_of_mem _ hx))
theorem gath_len {U fr all:List Int} (h:Gath U fr all):all.length≤fr.length+U.length:=by
 obtain⟨ex,rfl,h1,-,h3⟩:=h
 have:=List.Nodup.length_le_of_subset h1 h3
 simp
 omega
def RchI (dec:Int→List Int) (U fr:List Int) (i:Nat) (all:List Int):Prop:=
 Gath U fr all∧i≤all.length∧(∀ x∈all,x∈fr∨∃ y∈fr,Plus dec y x)∧∀ (j:Nat) (c:Int),j<i→all[j]? = some c→∀ d∈dec c,d∈all
theorem rch_step {dec:Int→List Int} {U fr:List Int} {i:Nat} {all:List Int} {c:Int} (h:RchI dec U fr i all) (hU:∀ c,∀ d∈dec c,d∈U) (hc:all[i]? = some c):RchI dec U fr (i+1) (addL all (dec c)):=by
 obtain⟨h1,h2,h3,h4⟩:=h
 have hi:=(List.getElem?_eq_some_iff.1 hc).1
 have hp:=addL_pre (dec c) all
 refine⟨gath_addL h1 (hU c),Nat.le_trans hi hp.length_le,fun x hx=>?_,fun j e hj he d hd=>?_⟩
 · rcases addL_mem.1 hx with h | h
   · exact h3 x h
   · rcases h3 c (List.mem_of_getElem? hc) with hf | ⟨y,hy,hyc⟩
     · exact .inr ⟨c,hf,.one h⟩
     · exact .inr ⟨y,hy,hyc.trans (.one h)⟩
 · have hj':j<all.length:=by omega
   have he':all[j]? = some e:=by
    obtain⟨t,ht⟩:=hp
    rw [←ht,List.getElem?_append_left hj'] at he
    exact he
   by_cases e1:j=i
   · subst e1
     rw [hc] at he'
     cases he'
     exact addL_mem.2 (.inr hd)
   · exact addL_mem.2 (.inl (h4 j e (by omega) he' d hd))
theorem rch_all {dec:Int→List Int} {U fr:List Int} (hU:∀ c,∀ d∈dec c,d∈U):∀ (n i:Nat) (all:List Int),RchI dec U fr i all→fr.length+U.length<n+i→∃ j,j=(rch dec n i all).length∧RchI dec U fr j (rch dec n i all)
 | 0,i,all,h,hn=>by
  have:=gath_len h.1
  have:=h.2.1
  omega
 | n+1,i,all,h,hn=>by
  rw [rch]
  match hc:all[i]? with
  | none=>
   have h2:=h.2.1
   have:=List.getElem?_eq_none_iff.1 hc
   have e:i=all.length:=by omega
   exact⟨i,e,h⟩
  | some c=>
   exact rch_all hU n (i+1) _ (rch_step h hU hc) (by omega)
theorem rch_iff {dec:Int→List Int} {U fr:List Int} (hU:∀ c,∀ d∈dec c,d∈U) {n:Nat} (hn:fr.length+U.length<n) (x:Int):x∈rch dec n 0 fr↔x∈fr∨∃ y∈fr,Plus dec y x:=by
 have h0:RchI dec U fr 0 fr:=⟨⟨[],by simp,List.nodup_nil,fun x h=>(by cases h),fun x h=>(by cases h)⟩,Nat.zero_le _,fun x h=>.inl h,fun j c hj=>absurd hj (Nat.not_lt_zero _)⟩
 obtain⟨j,hj,h1,-,h3,h4⟩:=rch_all hU n 0 fr h0 (by omega)
 refine⟨h3 x,fun hx=>?_⟩
 have hcl:∀ c∈rch dec n 0 fr,∀ d∈dec c,d∈rch dec n 0 fr:=fun c hc d hd=>by
  obtain⟨k,hk⟩:=List.mem_iff_getElem?.1 hc
  have:=(List.getElem?_eq_some_iff.1 hk).1
  exact h4 k c (by omega) hk d hd
 have hfr:∀ y∈fr,y∈rch dec n 0 fr:=fun y hy=>by
  obtain⟨ex,he,-⟩:=h1
  rw [he]
  exact List.mem_append_left _ hy
 rcases hx with hx | ⟨y,hy,hp⟩
 · exact hfr x hx
 · have hy':=hfr y hy
   clear hy
   induction hp with
   | one h=>exact hcl _ hy' _ h
   | more h _ ih=>exact ih (hcl _ hy' _ h)
theorem round_iff {dec:Int→List Int} {U:List Int} (hU:∀ c,∀ d∈dec c,d∈U) {n:Nat} {c:Int} (hn:(dec c).length+U.length<n):c∈rch dec n 0 (dec c)↔Plus dec c c:=by
 rw [rch_iff hU hn]
 constructor
 · rintro (h | ⟨y,hy,h⟩)
   · exact .one h
   · exact .more hy h
 · intro h
   cases h with
   | one h=>exact .inl h
   | more h t=>exact .inr ⟨_,h,t⟩
end Go.Proofs.YtmellioacefjjaaGreatDoor
namespace Go.Proofs.YtmellioacefjjaaGreatDoor.Uc
open Go.RowKit
structure Rw where
 a:Int
 b:Int
 gc:List UInt8
 ccc:Int
 bd:List UInt8
 dp:Option Addr
 dm:Nat
 dc:Nat
def rwv (s:Rw):List Value:=[.int .i64 s.a,.int .i64 s.b,.string (bs s.gc),.int .i64 s.ccc,.string (bs s.bd),.slice s.dp s.dm s.dc]
def rwV (s:Rw):Value:=.agg #[.int .i64 s.a,.int .i64 s.b,.string (bs s.gc),.int .i64 s.ccc,.string (bs s.bd),.slice s.dp s.dm s.dc]
def rw0:Rw:=⟨0,0,[],0,[],none,0,0⟩
def rwvs (ls:List Rw):List Value:=ls.flatMap rwv
theorem rwvs_cons (s:Rw) (ls:List Rw):rwvs (s::ls)=.int .i64 s.a :: .int .i64 s.b :: .string (bs s.gc) :: .int .i64 s.ccc :: .string (bs s.bd) :: .slice s.dp s.dm s.dc::rwvs ls:=rfl
theorem rwvs_snoc (ls:List Rw) (s:Rw):rwvs ls ++ [.int .i64 s.a,.int .i64 s.b,.string (bs s.gc),.int .i64 s.ccc,.string (bs s.bd),.slice s.dp s.dm s.dc]=rwvs (ls ++ [s]):=by unfold rwvs;rw [List.flatMap_append];rfl
theorem rwvs_length:∀ ls:List Rw,(rwvs ls).length=ls.length*6
 | []=>rfl
 | s::ls=>by rw [rwvs_cons];simp [rwvs_length ls];omega
def Six (f:Nat→Option Value) (s:Rw):Prop:=
 f 0=some (.int .i64 s.a)∧f 1=some (.int .i64 s.b)∧f 2=some (.string (bs s.gc))∧f 3=some (.int .i64 s.ccc)∧f 4=some (.string (bs s.bd))∧f 5=some (.slice s.dp s.dm s.dc)
theorem rwvs_get:∀ {ls:List Rw} {j:Nat} {s:Rw},ls[j]? = some s→Six (fun i=>(rwvs ls)[j*6+i]?) s
 | [],_,_,h=>by simp at h
 | x::ls,0,s,h=>by simp at h;subst h;exact⟨rfl,rfl,rfl,rfl,rfl,rfl⟩
 | x::ls,j+1,s,h=>by
  have:=rwvs_get (ls:=ls) (j:=j) (s:=s) (by simpa using h)
  have e:(fun i=>(rwvs (x::ls))[(j+1)*6+i]?)=fun i=>(rwvs ls)[j*6+i]?:=by
   funext i
   rw [rwvs_cons,show (j+1)*6+i=j*6+i+6 by omega]
   rfl
  rw [e]
  exact this
def RAt (w:World) (A:Option Addr) (n:Nat) (ls:List Rw):Prop:=
 ls.length=n∧(0<n→∃ b off,A=some ⟨b,off,none⟩∧b<w.heap.size∧∀ j s,ls[j]? = some s →
  w.cell? ⟨b,off+j*6,none⟩=some (.int .i64 s.a)∧w.cell? ⟨b,off+j*6+1,none⟩=some (.int .i64 s.b)∧w.cell? ⟨b,off+j*6+2,none⟩=some (.string (bs s.gc)) ∧
  w.cell? ⟨b,off+j*6+3,none⟩=some (.int .i64 s.ccc)∧w.cell? ⟨b,off+j*6+4,none⟩=some (.string (bs s.bd))∧w.cell? ⟨b,off+j*6+5,none⟩=some (.slice s.dp s.dm s.dc))
theorem RAt.below {w w':World} {A:Option Addr} {n:Nat} {ls:List Rw} (h:RAt w A n ls) (hb:Below w.heap.size w w'):RAt w' A n ls:=by
 refine⟨h.1,fun hn=>?_⟩
 obtain⟨b,off,rfl,hlt,hc⟩:=h.2 hn
 refine⟨b,off,rfl,Nat.lt_of_lt_of_le hlt hb.size,fun j s hj=>?_⟩
 obtain⟨h1,h2,h3,h4,h5,h6⟩:=hc j s hj
 exact⟨(hb.cell (p:=⟨b,_,none⟩) hlt).trans h1,(hb.cell (p:=⟨b,_,none⟩) hlt).trans h2,(hb.cell (p:=⟨b,_,none⟩) hlt).trans h3,(hb.cell (p:=⟨b,_,none⟩) hlt).trans h4,(hb.cell (p:=⟨b,_,none⟩) hlt).trans h5,(hb.cell (p:=⟨b,_,none⟩) hlt).trans h6⟩
theorem RAt.nil (w:World) (A:Option Addr):RAt w A 0 []:=⟨rfl,fun h=>absurd h (by omega)⟩
theorem own_rat {w:World} {base:Nat} {e:TypeId} {v:Value} {ls:List Rw} (ho:w.ownsRow base e 6 v ls.length (rwvs ls)):∃ A c,v=.slice A ls.length c∧ls.length≤c∧RAt w A ls.length ls∧(A=none→c=0):=by
 rcases ho.2 with ⟨rfl,h0⟩ | ⟨g,cap,cur,rfl,_,hg,hcap,_⟩
 · exact⟨none,0,by rw [h0],by omega,⟨rfl,fun h=>absurd h (by omega)⟩,fun _=>rfl⟩
 · refine⟨_,cap,rfl,hcap,⟨rfl,fun _=>⟨g,0,rfl,(Array.getElem?_eq_some_iff.1 hg).1,fun j s hj=>?_⟩⟩,fun h=>by cases h⟩
   obtain⟨h1,h2,h3,h4,h5,h6⟩:=rwvs_get hj
   have k1:=ho.cells (g:=g) rfl _ _ h1
   have k2:=ho.cells (g:=g) rfl _ _ h2
   have k3:=ho.cells (g:=g) rfl _ _ h3
   have k4:=ho.cells (g:=g) rfl _ _ h4
   have k5:=ho.cells (g:=g) rfl _ _ h5
   have k6:=ho.cells (g:=g) rfl _ _ h6
   rw [add_at] at k1 k2 k3 k4 k5 k6
   exact⟨k1,k2,k3,k4,k5,k6⟩
theorem getRw {ls:List Rw} {k:Nat} (h:k<ls.length):∃ s,ls[k]? = some s:=⟨ls[k],List.getElem?_eq_getElem h⟩
def atOf (ls:List Rw) (c:Int):Rw:=(ls.find? fun s=>decide (s.a≤c∧c≤s.b)).getD rw0
theorem at_take {l:List Rw} {c:Int} {k:Nat} {s:Rw} (hk:l[k]? = some s) (h:∀ t∈l.take k,¬(t.a≤c∧c≤t.b)) (hs:s.a≤c∧c≤s.b):atOf l c=s:=by
 have hlt:=(List.getElem?_eq_some_iff.1 hk).1
 have e:l[k]=s:=(List.getElem?_eq_some_iff.1 hk).2
 unfold atOf
 rw [←List.take_append_drop k l,List.drop_eq_getElem_cons hlt,e,List.find?_append,List.find?_eq_none.2 (fun t ht=>by simpa using h t ht)]
 rw [Option.none_or,List.find?_cons_of_pos (by simpa using hs)]
 rfl
theorem at_gap {l:List Rw} {c:Int} (h:∀ t∈l,¬(t.a≤c∧c≤t.b)):atOf l c=rw0:=by
 unfold atOf
 rw [List.find?_eq_none.2 (fun t ht=>by simpa using h t ht)]
 rfl
theorem take_rw {l:List Rw} {P:Rw→Prop} {k:Nat} {s:Rw} (hk:l[k]? = some s) (h:∀ t∈l.take k,P t) (hs:P s):∀ t∈l.take (k+1),P t:=by
 have hlt:=(List.getElem?_eq_some_iff.1 hk).1
 have e:l[k]=s:=(List.getElem?_eq_some_iff.1 hk).2
 intro t ht
 rw [List.take_succ_eq_append_getElem hlt,e] at ht
 rcases List.mem_append.1 ht with ht | ht
 · exact h t ht
 · rw [List.mem_singleton.1 ht];exact hs
end Go.Proofs.YtmellioacefjjaaGreatDoor.Uc
namespace Go.Proofs.YtmellioacefjjaaGreatDoor
open Go.RowKit
attribute [local go_sem] Oper.semAt_some
def korB (c:Int):Bool:=decide ((4352≤c∧c≤4370)∨(4449≤c∧c≤4469)∨(4520≤c∧c≤4546)∨(44032≤c∧c≤55203))
theorem kor_ways (c:Int):(c<4352∧korB c=false)∨((4352≤c∧c≤4370)∧korB c=true)∨((4370<c∧c<4449)∧korB c=false)∨((4449≤c∧c≤4469)∧korB c=true)∨((4469<c∧c<4520)∧korB c=false)∨((4520≤c∧c≤4546)∧korB c=true)∨((4546<c∧c<44032)∧korB c=false)∨((44032≤c∧c≤55203)∧korB c=true)∨(55203<c∧korB c=false):=by
 have hk:∀ b:Bool,(b=decide ((4352≤c∧c≤4370)∨(4449≤c∧c≤4469)∨(4520≤c∧c≤4546)∨(44032≤c∧c≤55203)))→korB c=b:=fun b h=>h▸rfl
 by_cases h1:c<4352
 · exact .inl ⟨h1,hk false (decide_eq_false (by omega)).symm⟩
 by_cases h2:c≤4370
 · exact .inr (.inl ⟨⟨by omega,h2⟩,hk true (decide_eq_true (by omega)).symm⟩)
 by_cases h3:c<4449
 · exact .inr (.inr (.inl ⟨⟨by omega,h3⟩,hk false (decide_eq_false (by omega)).symm⟩))
 by_cases h4:c≤4469
 · exact .inr (.inr (.inr (.inl ⟨⟨by omega,h4⟩,hk true (decide_eq_true (by omega)).symm⟩)))
 by_cases h5:c<4520
 · exact .inr (.inr (.inr (.inr (.inl ⟨⟨by omega,h5⟩,hk false (decide_eq_false (by omega)).symm⟩))))
 by_cases h6:c≤4546
 · exact .inr (.inr (.inr (.inr (.inr (.inl ⟨⟨by omega,h6⟩,hk true (decide_eq_true (by omega)).symm⟩)))))
 by_cases h7:c<44032
 · exact .inr (.inr (.inr (.inr (.inr (.inr (.inl ⟨⟨by omega,h7⟩,hk false (decide_eq_false (by omega)).symm⟩))))))
 by_cases h8:c≤55203
 · exact .inr (.inr (.inr (.inr (.inr (.inr (.inr (.inl ⟨⟨by omega,h8⟩,hk true (decide_eq_true (by omega)).symm⟩)))))))
 · exact .inr (.inr (.inr (.inr (.inr (.inr (.inr (.inr ⟨by omega,hk false (decide_eq_false (by omega)).symm⟩)))))))
theorem ret_b {a b:Bool} (h:a=b):Ending.returned (Value.bool a)=Ending.returned (Value.bool b):=by rw [h]
set_option maxHeartbeats 2000000 in
theorem korean31 (c:Int) (w:World):Calls Tryz.prog 31 #[.int .i64 c] w fun e w'=>e=.returned (.bool (korB c))∧w=w':=by
 rcases kor_ways c with ⟨h,e⟩ | ⟨⟨h,h'⟩,e⟩ | ⟨⟨h,h'⟩,e⟩ | ⟨⟨h,h'⟩,e⟩ | ⟨⟨h,h'⟩,e⟩ | ⟨⟨h,h'⟩,e⟩ | ⟨⟨h,h'⟩,e⟩ | ⟨⟨h,h'⟩,e⟩ | ⟨h,e⟩
 all_goals
  rw [e]
  clear e
  go_enter Tryz.func31,Tryz.ntmps31
  go_wp2
  go_ret
  first | exact⟨rfl,rfl⟩ | exact⟨ret_b (by simp;omega),rfl⟩
set_option maxHeartbeats 1000000 in
theorem has57 (A:Option Addr) (n ca:Nat) (zs:List Int) (x:Int) (w:World) (hV:Vals w A n (nums .i64 zs)) (hn:n≤1000000):
 Calls Tryz.prog 60 #[.slice A n ca,.int .i64 x] w fun e w'=>e=.returned (.bool (decide (x∈zs)))∧w=w':=by
 have hl:zs.length=n:=by have:=hV.1;unfold nums at this;rwa [List.length_map] at this
 have HV:=Lib.hid hV
 have HL:=Lib.hid hl
 clear hV hl
 go_enter Tryz.func60,Tryz.ntmps60
 go_wp2
 go_loopw [5] (fun i wr=>∃ k:Nat,i=.int .i64 k∧k≤n∧w=wr∧∀ t∈zs.take k,¬t=x) (fun i _=>n-(intOf i).toNat)
 case atStart=>exact⟨0,rfl,Nat.zero_le _,rfl,by simp⟩
 case round=>
  obtain⟨k,rfl,hkn,rfl,hno⟩:=hrel
  by_cases hlt:k<n
  · obtain⟨b,off,rfl,hbl,hc⟩:=HV.out.2 (by omega)
    have hkz:k<zs.length:=by rw [HL.out];exact hlt
    obtain⟨z,hz⟩:∃ z,zs[k]? = some z:=⟨_,List.getElem?_eq_getElem hkz⟩
    have h1:w.cell? ⟨b,off+k,none⟩=some (.int .i64 z):=hc k _ (by unfold nums;rw [List.getElem?_map,hz];rfl)
    by_cases hx:z=x
    · have HE:Hid (decide (x∈zs)=true):=Lib.hid (decide_eq_true (by rw [←hx];exact List.mem_of_getElem? hz))
      have hx1:(z==x)=true:=by rw [hx];simp
      clear hc hz hno
      go_wp2
      go_ret
      rw [HE.out]
      exact⟨rfl,rfl⟩
    · have HN:Hid (∀ t∈zs.take (k+1),¬t=x):=Lib.hid (fun t ht=>by
       rw [List.take_succ_eq_append_getElem hkz,List.mem_append,List.mem_singleton] at ht
       rcases ht with h | h
       · exact hno t h
       · rw [h,(List.getElem?_eq_some_iff.1 hz).2];exact hx)
      have hx1:(z==x)=false:=beq_false_of_ne hx
      clear hc hz hno
      go_wp2
      go_roundw
      case rel=>exact⟨k+1,by go_num,by omega,by trivial,HN.out⟩
      case measure=>simp [intOf];omega
  · have hke:k=n:=by omega
    subst hke
    rw [List.take_of_length_le (by rw [HL.out];exact Nat.le_refl _)] at hno
    have HE:Hid (decide (x∈zs)=false):=Lib.hid (decide_eq_false (fun h=>hno x h rfl))
    clear hno
    go_wp2
    go_ret
    rw [HE.out]
    exact⟨rfl,rfl⟩
def kors:List Int:=[4352,4449,4520,44032]
def touB (a b:Int):Bool:=(korB a||korB b)||kors.any fun x=>decide (a≤x∧x≤b)
set_option maxRecDepth 100000 in
set_option maxHeartbeats 2000000 in
theorem touches56 (s:Uc.Rw) (w:World):Calls Tryz.prog 59 #[Uc.rwV s] w fun e w'=>e=.returned (.bool (touB s.a s.b))∧Below w.heap.size w w':=by
 obtain⟨T,hT⟩:∃ T,bs s.gc=T:=⟨_,rfl⟩
 obtain⟨U,hU⟩:∃ T,bs s.bd=T:=⟨_,rfl⟩
 unfold Uc.rwV
 rw [hT,hU]
 have hb0:∀ o,Below w.heap.size w (w.alloc o):=fun o=>(Below.refl _ _).alloc (Nat.le_refl _) o
 have c31:=fun c W=>korean31 c W
 by_cases h1:korB s.a=true
 · have HE:Hid (touB s.a s.b=true):=Lib.hid (by unfold touB;rw [h1];rfl)
   have k1:=fun W=>c31 s.a W
   rw [h1] at k1
   clear c31 hT hU
   go_enter Tryz.func59,Tryz.ntmps59
   go_wp2_with (go_at_call 31;(with_reducible refine (k1 _).mono ?_);rintro e w1 ⟨rfl,rfl⟩)
   go_ret
   rw [HE.out]
   exact⟨rfl,hb0 _⟩
 · have h1':korB s.a=false:=by simpa using h1
   have k1:=fun W=>c31 s.a W
   rw [h1'] at k1
   by_cases h2:korB s.b=true
   · have HE:Hid (touB s.a s.b=true):=Lib.hid (by unfold touB;rw [h1',h2];rfl)
     have k2:=fun W=>c31 s.b W
     rw [h2] at k2
     obtain⟨a,ha⟩:∃ a,s.a=a:=⟨_,rfl⟩
     obtain⟨b,hb⟩:∃ a,s.b=a:=⟨_,rfl⟩
     have HAB:=Lib.hid (And.intro ha hb)
     rw [ha] at k1 ⊢
     rw [hb] at k2 ⊢
     rw [ha,hb] at HE
     clear c31 hT hU ha hb h1 h1' h2
     go_enter Tryz.func59,Tryz.ntmps59
     go_wp2_with (first
      | (go_at_call 31;(with_reducible refine (k1 _).mono ?_);rintro e w1 ⟨rfl,rfl⟩)
      | (go_at_call 31;(with_reducible refine (k2 _).mono ?_);rintro e w1 ⟨rfl,rfl⟩))
     go_ret
     rw [HE.out]
     exact⟨rfl,hb0 _⟩
   · have h2':korB s.b=false:=by simpa using h2
     have k2:=fun W=>c31 s.b W
     rw [h2'] at k2
     have HE:Hid (touB s.a s.b=kors.any fun x=>decide (s.a≤x∧x≤s.b)):=Lib.hid (by unfold touB;rw [h1',h2'];rfl)
     obtain⟨a,ha⟩:∃ a,s.a=a:=⟨_,rfl⟩
     obtain⟨b,hb⟩:∃ a,s.b=a:=⟨_,rfl⟩
     rw [ha] at k1 ⊢
     rw [hb] at k2 ⊢
     rw [ha,hb] at HE
     clear c31 hT hU ha hb h1 h1' h2 h2'
     go_enter Tryz.func59,Tryz.ntmps59
     go_wp2_with (first
      | (go_at_call 31;(with_reducible refine (k1 _).mono ?_);rintro e w1 ⟨rfl,rfl⟩)
      | (go_at_call 31;(with_reducible refine (k2 _).mono ?_);rintro e w1 ⟨rfl,rfl⟩))
     go_loopw [4] (fun i wr=>∃ k q:Nat,i=.int .i64 k∧k≤4∧wr=((w.alloc (.cells #[.int .i64 a,.int .i64 b,.string T,.int .i64 s.ccc,.string U,.slice s.dp s.dm s.dc] 33)).alloc (.cells #[.int .i64 4352,.int .i64 4449,.int .i64 4520,.int .i64 44032] 3)).drewN q∧∀ t∈kors.take k,¬(a≤t∧t≤b)) (fun i _=>4-(intOf i).toNat)
     case atStart=>exact⟨0,0,rfl,Nat.zero_le _,rfl,by simp⟩
     case round=>
      obtain⟨k,q,rfl,hkn,rfl,hno⟩:=hrel
      by_cases hlt:k<4
      · obtain⟨z,hz⟩:∃ z,kors[k]? = some z:=⟨_,List.getElem?_eq_getElem (by show k<4;exact hlt)⟩
        have hcz:∀ W:World,(W.alloc (.cells #[.int .i64 4352,.int .i64 4449,.int .i64 4520,.int .i64 44032] 3)).cell? ⟨W.heap.size,k,none⟩=some (.int .i64 z):=fun W=>by
         have hk:k=0∨k=1∨k=2∨k=3:=by omega
         rcases hk with rfl | rfl | rfl | rfl <;> (simp only [kors] at hz;simp at hz;subst hz;simp)
        have hc0:=hcz (w.alloc (.cells #[.int .i64 a,.int .i64 b,.string T,.int .i64 s.ccc,.string U,.slice s.dp s.dm s.dc] 33))
        rw [World.size_alloc] at hc0
        by_cases g1:a≤z
        · by_cases g2:z≤b
          · have HT:Hid ((kors.any fun x=>decide (a≤x∧x≤b))=true):=Lib.hid (List.any_eq_true.2 ⟨z,List.mem_of_getElem? hz,decide_eq_true ⟨g1,g2⟩⟩)
            clear hno hz hcz
            go_wp2
            go_quiet (fail)
            go_wp2
            go_ret
            rw [HE.out,HT.out]
            exact⟨rfl,below_drewN (below_drewN (((Below.refl _ _).alloc (Nat.le_refl _) _).alloc (by simp) _) _) _⟩
          · have HN:Hid (∀ t∈kors.take (k+1),¬(a≤t∧t≤b)):=Lib.hid (fun t ht=>by
             rw [List.take_succ_eq_append_getElem (by show k<4;exact hlt),List.mem_append,List.mem_singleton] at ht
             rcases ht with h | h
             · exact hno t h
             · rw [h,(List.getElem?_eq_some_iff.1 hz).2];exact fun h=>g2 h.2)
            clear hno hz hcz
            go_wp2
            go_quiet (fail)
            go_wp2
            go_roundw
            case rel=>exact⟨k+1,_,by go_num,by omega,rfl,HN.out⟩
            case measure=>simp [intOf];omega
        · have HN:Hid (∀ t∈kors.take (k+1),¬(a≤t∧t≤b)):=Lib.hid (fun t ht=>by
           rw [List.take_succ_eq_append_getElem (by show k<4;exact hlt),List.mem_append,List.mem_singleton] at ht
           rcases ht with h | h
           · exact hno t h
           · rw [h,(List.getElem?_eq_some_iff.1 hz).2];exact fun h=>g1 h.1)
          have g3:decide (a≤z)=false:=decide_eq_false g1
          clear hno hz hcz
          go_wp2
          go_quiet (fail)
          go_wp2
          go_roundw
          case rel=>exact⟨k+1,_,by go_num,by omega,rfl,HN.out⟩
          case measure=>simp [intOf];omega
      · have hke:k=4:=by omega
        subst hke
        have HF:Hid ((kors.any fun x=>decide (a≤x∧x≤b))=false):=Lib.hid (List.any_eq_false.2 (fun x hx=>by simpa using fun h1 h2=>hno x hx ⟨h1,h2⟩))
        clear hno
        go_wp2
        go_ret
        rw [HE.out,HF.out]
        exact⟨rfl,below_drewN (((Below.refl _ _).alloc (Nat.le_refl _) _).alloc (by simp) _) _⟩
end Go.Proofs.YtmellioacefjjaaGreatDoor
namespace Go.Proofs.YtmellioacefjjaaGreatDoor.Uc
open Go.RowKit
theorem below_six {w v:World} (a b d:Int) {c e f:Value} (h:Below w.heap.size w v):
 Below w.heap.size w ((((((v.setCell ⟨w.heap.size,0,none⟩ (.int .i64 a)).setCell ⟨w.heap.size,1,none⟩ (.int .i64 b)).setCell ⟨w.heap.size,2,none⟩ c).setCell ⟨w.heap.size,3,none⟩ (.int .i64 d)).setCell ⟨w.heap.size,4,none⟩ e).setCell ⟨w.heap.size,5,none⟩ f):=by
 exact Below.setCell (Below.setCell (Below.setCell (Below.setCell (Below.setCell (Below.setCell h (Nat.le_refl _) _) (Nat.le_refl _) _) (Nat.le_refl _) _) (Nat.le_refl _) _) (Nat.le_refl _) _) (Nat.le_refl _) _
set_option maxRecDepth 100000 in
set_option maxHeartbeats 1000000 in
theorem at13 (A:Option Addr) (n ca:Nat) (ls:List Rw) (c:Int) (w:World) (hV:RAt w A n ls) (hn:n≤1000000):
 Calls Tryz.prog 36 #[.slice A n ca,.int .i64 c] w fun e w'=>e=.returned (rwV (atOf ls c))∧Below w.heap.size w w':=by
 have HV:=Lib.hid hV
 have HL:=Lib.hid hV.1
 clear hV
 go_enter Tryz.func36,Tryz.ntmps36
 go_wp2
 go_loopw [5] (fun i wr=>∃ k q:Nat,i=.int .i64 k∧k≤n∧wr=(w.alloc (.cells #[.int .i64 0,.int .i64 0,.string ⟨#[]⟩,.int .i64 0,.string ⟨#[]⟩,.slice none 0 0] 33)).drewN q∧∀ t∈ls.take k,¬(t.a≤c∧c≤t.b)) (fun i _=>n-(intOf i).toNat)
 case atStart=>exact⟨0,0,rfl,Nat.zero_le _,rfl,by simp⟩
 case round=>
  obtain⟨k,q,rfl,hkn,rfl,hno⟩:=hrel
  by_cases hlt:k<n
  · obtain⟨b,off,rfl,hbl,hc⟩:=HV.out.2 (by omega)
    obtain⟨s,hs⟩:=getRw (ls:=ls) (k:=k) (by rw [HL.out];exact hlt)
    obtain⟨h1,h2,h3,h4,h5,h6⟩:=hc k s hs
    by_cases g1:s.a≤c
    · by_cases g2:c≤s.b
      · have HR:=Lib.hid (at_take hs hno ⟨g1,g2⟩)
        clear hc hs hno
        obtain⟨T,hT⟩:∃ T,bs s.gc=T:=⟨_,rfl⟩
        rw [hT] at h3
        have HT:=Lib.hid hT
        obtain⟨U,hU⟩:∃ U,bs s.bd=U:=⟨_,rfl⟩
        rw [hU] at h5
        have HU:=Lib.hid hU
        clear hT hU
        go_wp2
        go_returns
        exact⟨by rw [HR.out];unfold rwV;rw [HT.out,HU.out],below_six _ _ _ (below_drewN (Below.alloc (Below.refl _ _) (Nat.le_refl _) _) q)⟩
      · have HN:=Lib.hid (take_rw hs hno (fun h=>g2 h.2))
        clear hc hs hno h3 h4 h5 h6
        go_wp2
        go_roundw
        case rel=>exact⟨k+1,q,by go_num,by omega,rfl,HN.out⟩
        case measure=>simp [intOf];omega
    · have HN:=Lib.hid (take_rw hs hno (fun h=>g1 h.1))
      clear hc hs hno h2 h3 h4 h5 h6
      go_wp2
      go_roundw
      case rel=>exact⟨k+1,q,by go_num,by omega,rfl,HN.out⟩
      case measure=>simp [intOf];omega
  · have hke:k=n:=by omega
    subst hke
    rw [List.take_of_length_le (by rw [HL.out];exact Nat.le_refl _)] at hno
    have HR:=Lib.hid (at_gap hno)
    clear hno
    go_wp2
    go_returns
    exact⟨by rw [HR.out];rfl,below_six _ _ _ (below_drewN (Below.alloc (Below.refl _ _) (Nat.le_refl _) _) q)⟩
end Go.Proofs.YtmellioacefjjaaGreatDoor.Uc
