/- A part. -/
import Derived.Test.YtbkgbhlmeeodgaaGreatDoorQc36
namespace Go.Proofs.YtbkgbhlmeeodgaaGreatDoor
def insR (k:Int→Int) (x:Int):List Int→List Int
 | []=>[x]
 | p::ps=>if k x≠0∧k x<k p then p::insR k x ps else x::p::ps
def ordR (k:Int→Int):List Int→List Int→List Int
 | R,[]=>R
 | R,x::s=>ordR k (insR k x R) s
def ordL (k:Int→Int) (s:List Int):List Int:=(ordR k [] s).reverse
def InR (k:Int→Int):List Int→Prop
 | []=>True
 | [_]=>True
 | q::p::r=>¬(k p>k q∧k q≠0)∧InR k (p::r)
def InL (k:Int→Int):List Int→Prop
 | []=>True
 | [_]=>True
 | p::q::r=>¬(k p>k q∧k q≠0)∧InL k (q::r)
inductive Sw (k:Int→Int):List Int→List Int→Prop
 | refl (s:List Int):Sw k s s
 | trans {a b c:List Int}:Sw k a b→Sw k b c→Sw k a c
 | swap (l r:List Int) (x y:Int):k x≠0→k y≠0→k x≠k y→Sw k (l++x::y::r) (l++y::x::r)
theorem Sw.symm {k:Int→Int} {a b:List Int} (h:Sw k a b):Sw k b a:=by
 induction h with
 | refl s=>exact .refl s
 | trans _ _ i j=>exact j.trans i
 | swap l r x y h1 h2 h3=>exact .swap l r y x h2 h1 (Ne.symm h3)
theorem Sw.right {k:Int→Int} {a b:List Int} (h:Sw k a b) (r:List Int):Sw k (a++r) (b++r):=by
 induction h with
 | refl s=>exact .refl _
 | trans _ _ i j=>exact i.trans j
 | swap l t x y h1 h2 h3=>
  have:=Sw.swap (k:=k) l (t++r) x y h1 h2 h3
  simpa using this
theorem Sw.left {k:Int→Int} {a b:List Int} (l:List Int) (h:Sw k a b):Sw k (l++a) (l++b):=by
 induction h with
 | refl s=>exact .refl _
 | trans _ _ i j=>exact i.trans j
 | swap l' t x y h1 h2 h3=>
  have:=Sw.swap (k:=k) (l++l') t x y h1 h2 h3
  simpa using this
theorem insR_comm {k:Int→Int} {x y:Int} (hx:k x≠0) (hy:k y≠0) (hxy:k x≠k y):∀ R,insR k y (insR k x R)=insR k x (insR k y R)
 | []=>by
  simp only [insR]
  by_cases h:k y<k x
  · rw [if_pos ⟨hy,h⟩,if_neg (fun c=>by omega)]
  · rw [if_neg (fun c=>h c.2),if_pos ⟨hx,by omega⟩]
 | p::ps=>by
  have ih:=insR_comm hx hy hxy ps
  simp only [insR]
  by_cases h1:k x<k p
  · rw [if_pos ⟨hx,h1⟩]
    by_cases h2:k y<k p
    · rw [if_pos ⟨hy,h2⟩]
      simp only [insR]
      rw [if_pos ⟨hy,h2⟩,if_pos ⟨hx,h1⟩,ih]
    · rw [if_neg (fun c=>h2 c.2)]
      simp only [insR]
      rw [if_neg (fun c=>h2 c.2),if_pos ⟨hx,by omega⟩,if_pos ⟨hx,h1⟩]
  · rw [if_neg (fun c=>h1 c.2)]
    by_cases h2:k y<k p
    · rw [if_pos ⟨hy,h2⟩]
      simp only [insR]
      rw [if_pos ⟨hy,by omega⟩,if_pos ⟨hy,h2⟩,if_neg (fun c=>h1 c.2)]
    · rw [if_neg (fun c=>h2 c.2)]
      simp only [insR]
      by_cases h3:k y<k x
      · rw [if_pos ⟨hy,h3⟩,if_neg (fun c=>h2 c.2),if_neg (fun c=>by omega)]
      · rw [if_neg (fun c=>h3 c.2),if_pos ⟨hx,by omega⟩,if_neg (fun c=>h1 c.2)]
theorem ordR_app {k:Int→Int}:∀ (R a b:List Int),ordR k R (a++b)=ordR k (ordR k R a) b
 | _,[],_=>rfl
 | R,x::a,b=>ordR_app (insR k x R) a b
theorem ordR_sw {k:Int→Int} {a b:List Int} (h:Sw k a b) (R:List Int):ordR k R a=ordR k R b:=by
 induction h with
 | refl s=>rfl
 | trans _ _ i j=>exact i.trans j
 | swap l t x y h1 h2 h3=>
  rw [ordR_app,ordR_app]
  show ordR k (insR k y (insR k x _)) t=ordR k (insR k x (insR k y _)) t
  rw [insR_comm h1 h2 h3]
theorem insR_sw {k:Int→Int} (hk:∀ x,0≤k x) (x:Int):∀ R,Sw k (insR k x R).reverse (R.reverse ++ [x])
 | []=>by simp only [insR];exact .refl _
 | p::ps=>by
  simp only [insR]
  by_cases h:k x≠0∧k x<k p
  · rw [if_pos h]
    have hp:k p≠0:=by have:=hk x;omega
    have h1:Sw k ((insR k x ps).reverse ++ [p]) ((ps.reverse ++ [x]) ++ [p]):=(insR_sw hk x ps).right [p]
    have h2:Sw k (ps.reverse++x::p :: []) (ps.reverse++p::x :: []):=.swap _ _ x p h.1 hp (by omega)
    have:=h1.trans (by simpa using h2)
    simpa using this
  · rw [if_neg h]
    have:(x::p::ps).reverse=(p::ps).reverse ++ [x]:=by simp
    rw [this]
    exact .refl _
theorem ordR_to {k:Int→Int} (hk:∀ x,0≤k x):∀ (s R:List Int),Sw k (ordR k R s).reverse (R.reverse++s)
 | [],R=>by rw [List.append_nil];exact .refl _
 | x::s,R=>by
  have h1:=ordR_to hk s (insR k x R)
  have h2:=(insR_sw hk x R).right s
  have:=h1.trans h2
  simpa [ordR] using this
theorem ord_sw {k:Int→Int} (hk:∀ x,0≤k x) (s:List Int):Sw k (ordL k s) s:=by
 have:=ordR_to hk s []
 simpa [ordL] using this
theorem inR_cons {k:Int→Int} {q:Int}:∀ {R:List Int},InR k (q::R)→InR k R
 | [],_=>trivial
 | _::_,h=>h.2
theorem insR_head {k:Int→Int} (x p:Int) (ps:List Int):∃ r,insR k x (p::ps)=(if k x≠0∧k x<k p then p else x)::r:=by
 simp only [insR]
 split
 · exact⟨_,rfl⟩
 · exact⟨_,rfl⟩
theorem insR_in {k:Int→Int} (x:Int):∀ R,InR k R→InR k (insR k x R)
 | [],_=>trivial
 | [p],_=>by
  simp only [insR]
  by_cases h:k x≠0∧k x<k p
  · rw [if_pos h]
    exact⟨by omega,trivial⟩
  · rw [if_neg h]
    exact⟨by omega,trivial⟩
 | p::q::r,hi=>by
  have ih:=insR_in x (q::r) hi.2
  rw [insR]
  by_cases h:k x≠0∧k x<k p
  · rw [if_pos h]
    obtain⟨t,ht⟩:=insR_head (k:=k) x q r
    rw [ht] at ih ⊢
    refine⟨?_,ih⟩
    by_cases h2:k x≠0∧k x<k q
    · rw [if_pos h2]
      exact hi.1
    · rw [if_neg h2]
      omega
  · rw [if_neg h]
    exact⟨by omega,hi⟩
theorem ordR_in {k:Int→Int}:∀ (s R:List Int),InR k R→InR k (ordR k R s)
 | [],_,h=>h
 | x::s,R,h=>ordR_in s _ (insR_in x R h)
theorem insR_fix {k:Int→Int} {x:Int}:∀ {R},InR k (x::R)→insR k x R=x::R
 | [],_=>rfl
 | p::ps,h=>by
  simp only [insR]
  rw [if_neg (fun c=>h.1 ⟨c.2,c.1⟩)]
theorem ordR_fix {k:Int→Int}:∀ (s R:List Int),InR k (s.reverse++R)→ordR k R s=s.reverse++R
 | [],R,_=>rfl
 | x::s,R,h=>by
  have e:(x::s).reverse++R=s.reverse++(x::R):=by simp
  rw [e] at h ⊢
  have hx:InR k (x::R):=by
   generalize s.reverse=u at h
   induction u with
   | nil=>exact h
   | cons a u ih=>exact ih (inR_cons h)
  show ordR k (insR k x R) s=_
  rw [insR_fix hx]
  exact ordR_fix s (x::R) h
theorem inL_snoc {k:Int→Int} {q:Int}:∀ {s:List Int} {p:Int},InL k (s ++ [p])→¬(k p>k q∧k q≠0)→InL k (s ++ [p] ++ [q])
 | [],_,_,h=>⟨h,trivial⟩
 | [_],_,hs,h=>⟨hs.1,h,trivial⟩
 | _::b::s,_,hs,h=>⟨hs.1,inL_snoc (s:=b::s) hs.2 h⟩
theorem inL_take {k:Int→Int} {q:Int}:∀ {s:List Int} {p:Int},InL k (s ++ [p] ++ [q])→InL k (s ++ [p])∧¬(k p>k q∧k q≠0)
 | [],_,h=>⟨trivial,h.1⟩
 | [_],_,h=>⟨⟨h.1,trivial⟩,h.2.1⟩
 | _::b::s,_,h=>have:=inL_take (s:=b::s) h.2;⟨⟨h.1,this.1⟩,this.2⟩
theorem inL_iff {k:Int→Int}:∀ (R:List Int),InL k R.reverse↔InR k R
 | []=>Iff.rfl
 | [_]=>Iff.rfl
 | q::p::r=>by
  have ih:=inL_iff (k:=k) (p::r)
  rw [List.reverse_cons] at ih
  rw [List.reverse_cons,List.reverse_cons]
  exact⟨fun h=>⟨(inL_take h).2,ih.1 (inL_take h).1⟩,fun h=>inL_snoc (ih.2 h.2) h.1⟩
theorem ord_in {k:Int→Int} (s:List Int):InL k (ordL k s):=(inL_iff _).2 (ordR_in s [] trivial)
theorem ord_fix {k:Int→Int} {s:List Int} (h:InL k s):ordL k s=s:=by
 have h2:InR k (s.reverse ++ []):=by rw [List.append_nil];exact (inL_iff s.reverse).1 (by rw [List.reverse_reverse];exact h)
 unfold ordL
 rw [ordR_fix s [] h2]
 simp
theorem ord_of_sw {k:Int→Int} {a b:List Int} (h:Sw k a b):ordL k a=ordL k b:=by unfold ordL;rw [ordR_sw h []]
theorem ord_parts {k:Int→Int} (hk:∀ x,0≤k x) (a b:List Int):ordL k (ordL k a++ordL k b)=ordL k (a++b):=
 ord_of_sw (((ord_sw hk a).right _).trans ((ord_sw hk b).left a))
theorem sw_len {k:Int→Int} {a b:List Int} (h:Sw k a b):a.length=b.length:=by
 induction h with
 | refl s=>rfl
 | trans _ _ i j=>exact i.trans j
 | swap l t x y h1 h2 h3=>simp
theorem sw_count {k:Int→Int} {a b:List Int} (h:Sw k a b) (p:Int→Bool):a.countP p=b.countP p:=by
 induction h with
 | refl s=>rfl
 | trans _ _ i j=>exact i.trans j
 | swap l t x y h1 h2 h3=>simp only [List.countP_append,List.countP_cons];omega
theorem sw_class {k:Int→Int} {a b:List Int} (h:Sw k a b) (c:Int):a.filter (fun z=>k z=c)=b.filter (fun z=>k z=c):=by
 induction h with
 | refl s=>rfl
 | trans _ _ i j=>exact i.trans j
 | swap l t x y h1 h2 h3=>
  simp only [List.filter_append,List.filter_cons]
  congr 1
  by_cases hx:k x=c
  · have hy:¬k y=c:=fun h=>h3 (hx.trans h.symm)
    simp [hx,hy]
  · simp [hx]
theorem sw_zero {k:Int→Int} {a b:List Int} (h:Sw k a b):∀ (i:Nat) (x y:Int),a[i]? = some x→b[i]? = some y→k x=0∨k y=0→x=y:=by
 induction h with
 | refl s=>intro i x y h1 h2 _;rw [h1] at h2;exact Option.some.inj h2
 | @trans a m b h1 h2 i j=>
  intro n x y e1 e2 hz
  have hl:n<a.length:=(List.getElem?_eq_some_iff.1 e1).1
  obtain⟨z,hzm⟩:∃ z,m[n]? = some z:=⟨_,List.getElem?_eq_getElem (by rw [←sw_len h1];exact hl)⟩
  rcases hz with hz | hz
  · have:=i n x z e1 hzm (.inl hz)
    subst this
    exact j n x y hzm e2 (.inl hz)
  · have:=j n z y hzm e2 (.inr hz)
    subst this
    exact i n x z e1 hzm (.inr hz)
 | swap l t u v h1 h2 h3=>
  intro n x y e1 e2 hz
  by_cases hn:n<l.length
  · rw [List.getElem?_append_left hn] at e1 e2
    rw [e1] at e2
    exact Option.some.inj e2
  · rw [List.getElem?_append_right (by omega)] at e1 e2
    obtain⟨d,hd⟩:∃ d,n-l.length=d:=⟨_,rfl⟩
    rw [hd] at e1 e2
    match d,e1,e2 with
    | 0,e1,e2=>cases e1;cases e2;omega
    | 1,e1,e2=>cases e1;cases e2;omega
    | d+2,e1,e2=>
     have e1:t[d]? = some x:=by simpa using e1
     have e2:t[d]? = some y:=by simpa using e2
     rw [e1] at e2
     exact Option.some.inj e2
theorem sw_mem {k:Int→Int} {a b:List Int} (h:Sw k a b) {x:Int} (hx:x∈a):x∈b:=by
 have h1:=sw_count h (fun z=>decide (z=x))
 have h2:0<a.countP (fun z=>decide (z=x)):=List.countP_pos_iff.2 ⟨x,hx,by simp⟩
 rw [h1] at h2
 obtain⟨y,hy,e⟩:=List.countP_pos_iff.1 h2
 have e:y=x:=by simpa using e
 rw [←e]
 exact hy
theorem flat_self {f:Int→List Int}:∀ {l:List Int},(∀ x∈l,f x = [x])→l.flatMap f=l
 | [],_=>rfl
 | x::l,h=>by
  rw [List.flatMap_cons,h x (List.mem_cons_self ..),flat_self (fun y hy=>h y (List.mem_cons_of_mem _ hy))]
  rfl
def nfL (k:Int→Int) (f:Int→List Int) (s:List Int):List Int:=ordL k (s.flatMap f)
theorem nf_mem {k:Int→Int} (hk:∀ x,0≤k x) {f:Int→List Int} {s:List Int} {x:Int} (hx:x∈nfL k f s):x∈s.flatMap f:=sw_mem (ord_sw hk _) hx
theorem nf_in {k:Int→Int} {f:Int→List Int} (s:List Int):InL k (nfL k f s):=ord_in _
theorem nf_parts {k:Int→Int} (hk:∀ x,0≤k x) {f:Int→List Int} {a b:List Int} (ha:∀ x∈a.flatMap f,f x = [x]) (hb:∀ x∈b.flatMap f,f x = [x]):nfL k f (nfL k f a++nfL k f b)=nfL k f (a++b):=by
 have h:(nfL k f a++nfL k f b).flatMap f=nfL k f a++nfL k f b:=by
  rw [List.flatMap_append,flat_self fun x hx=>ha x (nf_mem hk hx),flat_self fun x hx=>hb x (nf_mem hk hx)]
 show ordL k ((nfL k f a++nfL k f b).flatMap f)=_
 rw [h]
 show ordL k (ordL k (a.flatMap f)++ordL k (b.flatMap f))=ordL k ((a++b).flatMap f)
 rw [ord_parts hk,List.flatMap_append]
section
variable {k:Int→Int}
theorem srt_of_in:∀ {l:List Int},InL k l→(∀ x∈l,k x≠0)→Srt k l
 | [],_,_=>List.Pairwise.nil
 | [_],_,_=>List.pairwise_singleton _ _
 | p::q::r,h,hz=>by
  have ih:=srt_of_in (l:=q::r) h.2 (fun x hx=>hz x (List.mem_cons_of_mem _ hx))
  have hq:k q≠0:=hz q (by simp)
  have hpq:k p≤k q:=by have:=h.1;omega
  refine List.pairwise_cons.2 ⟨fun x hx=>?_,ih⟩
  rcases List.mem_cons.1 hx with rfl | hx
  · exact hpq
  · exact Int.le_trans hpq ((List.pairwise_cons.1 ih).1 x hx)
theorem ord_run (hk:∀ x,0≤k x) {r d:List Int} (hz:∀ x∈r,k x≠0) (hs:Srt k d) (hc:Cl k r d):d=ordL k r:=by
 have hw:=ord_sw hk r
 have hc2:Cl k r (ordL k r):=fun c=>(sw_class hw c).symm
 exact cl_one hs (srt_of_in (ord_in r) (fun x hx=>hz x (sw_mem hw hx))) (hc.symm.trans hc2)
theorem in_glue:∀ {A B:List Int},InL k A→InL k B→(∀ p q,A.getLast? = some p→B.head? = some q→¬(k p>k q∧k q≠0))→InL k (A++B)
 | [],_,_,hB,_=>hB
 | [p],[],_,_,_=>trivial
 | [p],q::B,_,hB,h=>⟨h p q rfl rfl,hB⟩
 | p::q::A,B,hA,hB,h=>⟨hA.1,in_glue (A:=q::A) hA.2 hB (fun x y hx hy=>h x y (by rw [List.getLast?_cons_cons];exact hx) hy)⟩
structure OrdI (k:Int→Int) (s:List Int) (i st:Nat) (A C:List Int):Prop where
 hst:st≤i
 hi:i≤s.length
 len:A.length=st
 eq:C=s.drop st
 sw:Sw k s (A++C)
 ins:InL k A
 z:∀ p,A.getLast? = some p→k p=0
 nz:∀ x∈C.take (i-st),k x≠0
theorem ordI_zero (s:List Int):OrdI k s 0 0 [] s:=⟨Nat.le_refl _,Nat.zero_le _,rfl,rfl,.refl _,trivial,fun p h=>(by cases h),fun x hx=>(by simp at hx)⟩
theorem ordI_on {s A C:List Int} {i st:Nat} {c:Int} (h:OrdI k s i st A C) (hc:s[i]? = some c) (hn:k c≠0):OrdI k s (i+1) st A C:=by
 have hi:=(List.getElem?_eq_some_iff.1 hc).1
 refine⟨by have:=h.hst;omega,hi,h.len,h.eq,h.sw,h.ins,h.z,fun x hx=>?_⟩
 have hst:=h.hst
 have e:C[i-st]? = some c:=by rw [h.eq,List.getElem?_drop,show st+(i-st)=i by omega];exact hc
 rw [show i+1-st=(i-st)+1 by omega,List.take_add_one,e] at hx
 rcases List.mem_append.1 hx with hx | hx
 · exact h.nz x hx
 · simp at hx;rw [hx];exact hn
theorem in_run (hk:∀ x,0≤k x) {A r:List Int} (hA:InL k A) (hz:∀ p,A.getLast? = some p→k p=0):InL k (A++ordL k r):=
 in_glue hA (ord_in r) (fun p q hp _=>by have:=hz p hp;have:=hk q;omega)
theorem ord_len (hk:∀ x,0≤k x) (r:List Int):(ordL k r).length=r.length:=sw_len (ord_sw hk r)
theorem ordI_cut (hk:∀ x,0≤k x) {s A C:List Int} {i st:Nat} {c:Int} (h:OrdI k s i st A C) (hc:s[i]? = some c) (hn:k c=0):OrdI k s (i+1) (i+1) (A++ordL k (C.take (i-st)) ++ [c]) (s.drop (i+1)):=by
 have hi:=(List.getElem?_eq_some_iff.1 hc).1
 have hst:=h.hst
 have e:C=C.take (i-st)++([c]++s.drop (i+1)):=by
  conv=>lhs;rw [←List.take_append_drop (i-st) C]
  congr 1
  rw [h.eq,List.drop_drop,show st+(i-st)=i by omega,List.drop_eq_getElem_cons hi,(List.getElem?_eq_some_iff.1 hc).2]
  rfl
 have hl:(C.take (i-st)).length=i-st:=by rw [List.length_take,h.eq,List.length_drop];omega
 refine⟨Nat.le_refl _,hi,?_,rfl,?_,?_,fun p hp=>?_,fun x hx=>?_⟩
 · rw [List.length_append,List.length_append,ord_len hk,hl,h.len];simp;omega
 · have h1:=h.sw
   rw [e] at h1
   have h2:=((ord_sw hk (C.take (i-st))).symm.right ([c]++s.drop (i+1))).left A
   have:=h1.trans h2
   simpa using this
 · exact in_glue (in_run hk h.ins h.z) trivial (fun p q _ hq=>by cases hq;omega)
 · rw [List.getLast?_append] at hp
   simp at hp
   rw [←hp];exact hn
 · simp at hx
theorem ordI_end (hk:∀ x,0≤k x) {s A C:List Int} {st:Nat} (h:OrdI k s s.length st A C):A++ordL k C=ordL k s:=by
 have h1:Sw k s (A++ordL k C):=h.sw.trans ((ord_sw hk C).symm.left A)
 rw [←ord_fix (in_run hk (r:=C) h.ins h.z),ord_of_sw h1.symm]
end
def inB (k:Int→Int):Int→List Int→Bool
 | _,[]=>true
 | b,x::l=>if k x≠0∧k x<b then false else inB k (k x) l
theorem inB_cons {k:Int→Int}:∀ (l:List Int) (p:Int),inB k (k p) l=true↔InL k (p::l)
 | [],_=>⟨fun _=>trivial,fun _=>rfl⟩
 | q::l,p=>by
  have ih:=inB_cons (k:=k) l q
  rw [inB]
  by_cases h:k q≠0∧k q<k p
  · rw [if_pos h]
    exact⟨(fun h=>by cases h),fun h2=>absurd ⟨h.2,h.1⟩ h2.1⟩
  · rw [if_neg h,ih]
    exact⟨fun h2=>⟨fun c=>h ⟨c.2,c.1⟩,h2⟩,fun h2=>h2.2⟩
theorem inB_iff {k:Int→Int} (hk:∀ x,0≤k x):∀ (l:List Int),inB k 0 l=true↔InL k l
 | []=>⟨fun _=>trivial,fun _=>rfl⟩
 | q::l=>by
  rw [inB,if_neg (fun c=>by have:=hk q;omega)]
  exact inB_cons l q
theorem inB_ord {k:Int→Int} (hk:∀ x,0≤k x) (s:List Int):inB k 0 (ordL k s)=true:=(inB_iff hk _).2 (ord_in s)
theorem inB_step {k:Int→Int} {s:List Int} {i:Nat} {b c:Int} (hc:s[i]? = some c):inB k b (s.drop i)=if k c≠0∧k c<b then false else inB k (k c) (s.drop (i+1)):=by
 have hi:=(List.getElem?_eq_some_iff.1 hc).1
 rw [List.drop_eq_getElem_cons hi,(List.getElem?_eq_some_iff.1 hc).2,inB]
end Go.Proofs.YtbkgbhlmeeodgaaGreatDoor
namespace Go.Proofs.YtbkgbhlmeeodgaaGreatDoor
open Go.RowKit
def CccR (ps:List Uc.Pr):Prop:=∀ r∈ps,0≤r.ccc
theorem ccc_row {f:List (List UInt8)} (h:Uc.rowErr f=0):0≤(Uc.rowVal f).ccc:=by
 have h1:=(Uc.row_ok h).2.2.1
 unfold Uc.okB at h1
 simp only [Bool.and_eq_true,decide_eq_true_eq] at h1
 exact h1.2.1
theorem ccc_snoc {ps:List Uc.Pr} {r:Uc.Pr} (h:CccR ps) (hr:0≤r.ccc):CccR (ps ++ [r]):=by
 intro x hx
 rcases List.mem_append.1 hx with h' | h'
 · exact h x h'
 · rw [List.mem_singleton.1 h'];exact hr
theorem ccc_ref:∀ (l:List Ln) (out:List Uc.Pr),CccR out→CccR (Uc.refP out l).rows
 | [],out,hg=>by rw [Uc.refP];exact hg
 | x::t,out,hg=>by
  have nil:CccR []:=fun r h=>by cases h
  rw [Uc.refP.eq_def]
  simp only []
  by_cases h1:¬Uc.rowErr x.2=0
  · rw [if_pos h1];exact nil
  rw [if_neg h1]
  by_cases h2:Uc.twice out (Uc.rowVal x.2)=true
  · rw [if_pos h2];exact nil
  rw [if_neg h2]
  have hc:=ccc_row (by simpa using h1)
  by_cases h3:Uc.namedB (Uc.fld x.2 1) Uc.nmF=true
  · rw [if_pos h3]
    cases t with
    | nil=>exact nil
    | cons y t'=>
     simp only []
     by_cases h4:¬Uc.rowErr y.2=0
     · rw [if_pos h4];exact nil
     rw [if_neg h4]
     by_cases h5:Uc.joinB x.2 y.2=false
     · rw [if_pos h5];exact nil
     rw [if_neg h5]
     exact ccc_ref t' _ (ccc_snoc (r:={ Uc.rowVal x.2 with b:=(Uc.rowVal y.2).a }) hg hc)
  · rw [if_neg h3]
    exact ccc_ref t _ (ccc_snoc hg hc)
def kc (ps:List Uc.Pr) (c:Int):Int:=(Uc.patOf ps c).ccc
theorem kc_pos {ps:List Uc.Pr} (h:CccR ps) (c:Int):0≤kc ps c:=by
 unfold kc Uc.patOf
 cases hf:ps.find? (fun p=>decide (p.a≤c∧c≤p.b)) with
 | none=>exact Int.le_refl _
 | some p=>exact h p (List.mem_of_find?_eq_some hf)
def fl (ps:List Uc.Pr) (c:Int):List Int:=ful (dcf ps) ps.length c
structure Fit (ps:List Uc.Pr):Prop where
 good:Uc.Good ps
 ccc:∀ c,0≤kc ps c
 ends:∀ c,Ends (dcf ps) ps.length c
 jam:Jam (dcf ps)
 cnt:∀ c,cnt (dcf ps) ps.length c≤4
 two:∀ c,(dcf ps c).length≤2
 few:ps.length≤1000
theorem load_bools {f:Nat→List UInt8} {d:Dt} (h:loadOf f=(⟨0,0,0⟩,some d)):d.ps=(uF f).rows∧touA d.ps=false∧cycB d.ps=false∧longB d.ps=false:=by
 have hw:∀ {x:Wh},¬((x,(none:Option Dt))=(⟨0,0,0⟩,some d)):=fun e=>by injection e with _ e;cases e
 have h1:∀ n i,loadP f (uF f).rows n i=(⟨0,0,0⟩,some d)→load1 f (uF f).rows (spF f)=(⟨0,0,0⟩,some d):=by
  intro n
  induction n with
  | zero=>intro i h;exact h
  | succ n ih=>
   intro i h
   rw [loadP] at h
   split at h
   · exact ih _ h
   · exact absurd h hw
 unfold loadOf at h
 split at h
 · have h:=h1 _ _ h
   unfold load1 at h
   split at h
   · unfold load2 at h
     split at h
     · exact absurd h hw
     · rename_i ht
       unfold load3 at h
       split at h
       · exact absurd h hw
       · rename_i hc
         unfold load4 at h
         split at h
         · exact absurd h hw
         · rename_i hl
           unfold load5 at h
           split at h
           · exact absurd h hw
           · injection h with _ h
             injection h with h
             subst h
             exact⟨rfl,by simpa using ht,by simpa using hc,by simpa using hl⟩
   · exact absurd h hw
 · exact absurd h hw
theorem load_fit {f:Nat→List UInt8} {d:Dt} (h:loadOf f=(⟨0,0,0⟩,some d)) (hf:(f 0).length≤4000):Fit d.ps:=by
 obtain⟨e,ht,hc,hl⟩:=load_bools h
 have hg:Uc.Good d.ps:=by rw [e];exact Uc.good_parse _
 have hF:FlatR d.ps:=by rw [e];exact flat_parse _
 have hfew:14*d.ps.length≤4000:=by
  have:=few_rows (f 0)
  rw [e]
  exact Nat.le_trans this hf
 have hC:CccR d.ps:=by rw [e];exact ccc_ref _ [] (fun r h=>by cases h)
 have hE:=fun c=>no_cyc hg hF (by omega) hc c
 refine⟨hg,kc_pos hC,hE,fun x hx=>?_,fun c=>?_,dcf_two hg,by omega⟩
 · refine Classical.byContradiction fun hd=>?_
   have hd2:(Uc.patOf d.ps x).dec ≠ []:=fun e=>hd (by unfold dcf;rw [e];rfl)
   obtain⟨m1,m2,m3⟩:=pat_mem hd2
   have hab:=hF _ m1 hd2
   have:=(row_kor (by rw [ht];simp) m1 (.inl (List.length_pos_iff.2 hd2))).1
   unfold korB at this
   have:=of_decide_eq_false this
   omega
 · by_cases hd:dcf d.ps c = []
   · have:cnt (dcf d.ps) d.ps.length c=1:=by
      cases d.ps.length with
      | zero=>rfl
      | succ n=>rw [Go.Proofs.YtbkgbhlmeeodgaaGreatDoor.cnt,if_pos hd]
     omega
   · obtain⟨r,hr,rfl⟩:=List.mem_map.1 (dcf_key hF hd)
     refine Classical.byContradiction fun h4=>?_
     have:=(long_iff hg).2 ⟨r,hr,by omega⟩
     rw [hl] at this
     cases this
section
variable {ps:List Uc.Pr}
theorem Fit.leaf (h:Fit ps) {c x:Int} (hx:x∈fl ps c):¬sylB x∧dcf ps x = []:=ful_leaf h.jam ps.length c x (h.ends c) hx
theorem Fit.own (h:Fit ps) {c x:Int} (hx:x∈fl ps c):fl ps x = [x]:=by
 obtain⟨h1,h2⟩:=h.leaf hx
 exact ful_nil h1 h2 _
theorem Fit.run (h:Fit ps) (c:Int):∃ g,Run (dcf ps) g [c] (fl ps c):=run_one h.jam (h.ends c)
theorem Fit.len (h:Fit ps) (c:Int):(fl ps c).length≤12:=by
 have h1:=ful_len ps.length c (h.ends c)
 have h2:=h.cnt c
 unfold fl
 omega
theorem flat_le (h:Fit ps):∀ s:List Int,(s.flatMap (fl ps)).length≤12*s.length
 | []=>by simp
 | c::s=>by
  have h1:=h.len c
  have h2:=flat_le h s
  rw [List.flatMap_cons,List.length_append,List.length_cons]
  omega
def nfd (ps:List Uc.Pr) (s:List Int):List Int:=nfL (kc ps) (fl ps) s
theorem Fit.flat_own (h:Fit ps) {s:List Int}:∀ x∈s.flatMap (fl ps),fl ps x = [x]:=fun x hx=>by
 obtain⟨c,_,hc⟩:=List.mem_flatMap.1 hx
 exact h.own hc
theorem Fit.parts (h:Fit ps) (a b:List Int):nfd ps (nfd ps a++nfd ps b)=nfd ps (a++b):=nf_parts h.ccc h.flat_own h.flat_own
theorem Fit.nlen (h:Fit ps) (s:List Int):(nfd ps s).length≤12*s.length:=by
 have:=flat_le h s
 rw [nfd,nfL,ord_len h.ccc]
 exact this
theorem Fit.nown (h:Fit ps) {s:List Int} {x:Int} (hx:x∈nfd ps s):fl ps x = [x]:=h.flat_own x (nf_mem h.ccc hx)
end
structure St where
 B:List Int
 p:Option Int
 H:List Int
def St.all (S:St):List Int:=S.B++(S.p.toList++S.H)
section
variable (k:Int→Int) (pr:Int→Int→Option Int)
def blk (H:List Int) (y:Int):Bool:=H.any fun h=>decide (y≤k h)
def mdC (S:St) (c:Int):Option Int:=S.p.bind fun q=>if blk k S.H (k c)=true then none else pr q c
def cst (S:St) (c:Int):St:=
 match mdC k pr S c with
 | some m=>⟨S.B,some m,S.H⟩
 | none=>if k c=0 then ⟨S.all,some c,[]⟩ else ⟨S.B,S.p,S.H ++ [c]⟩
def cfold (S:St) (s:List Int):St:=s.foldl (cst k pr) S
def cmpL (s:List Int):List Int:=(cfold k pr ⟨[],none,[]⟩ s).all
variable {k pr}
theorem cst_made {S:St} {c m:Int} (h:mdC k pr S c=some m):cst k pr S c=⟨S.B,some m,S.H⟩:=by unfold cst;rw [h]
theorem cst_zero {S:St} {c:Int} (h:mdC k pr S c=none) (hz:k c=0):cst k pr S c=⟨S.all,some c,[]⟩:=by unfold cst;rw [h];exact if_pos hz
theorem cst_kept {S:St} {c:Int} (h:mdC k pr S c=none) (hz:k c≠0):cst k pr S c=⟨S.B,S.p,S.H ++ [c]⟩:=by unfold cst;rw [h];exact if_neg hz
theorem cst_none {S:St} {c:Int} (h:mdC k pr S c=none):(cst k pr S c).all=S.all ++ [c]:=by
 by_cases hz:k c=0
 · rw [cst_zero h hz];rfl
 · rw [cst_kept h hz];simp [St.all]
theorem cst_len (S:St) (c:Int):(cst k pr S c).all.length≤S.all.length+1:=by
 cases h:mdC k pr S c with
 | none=>rw [cst_none h];simp
 | some m=>
  rw [cst_made h]
  unfold mdC at h
  cases hp:S.p with
  | none=>rw [hp] at h;cases h
  | some q=>simp [St.all,hp]
theorem cfold_len:∀ (s:List Int) (S:St),(cfold k pr S s).all.length≤S.all.length+s.length
 | [],_=>Nat.le_refl _
 | c::s,S=>by
  have h1:=cst_len (k:=k) (pr:=pr) S c
  have h2:=cfold_len s (cst k pr S c)
  rw [List.length_cons]
  exact Nat.le_trans h2 (by omega)
theorem cmp_len (s:List Int):(cmpL k pr s).length≤s.length:=by
 have:=cfold_len (k:=k) (pr:=pr) s ⟨[],none,[]⟩
 rw [show St.all ⟨[],none,[]⟩ = [] from rfl,List.length_nil,Nat.zero_add] at this
 exact this
structure Cin (k:Int→Int) (S:St):Prop where
 none:S.p=none→S.B = []
 nz:∀ h∈S.H,k h≠0
 z:∀ q,S.p=some q→k q=0
theorem cin_start:Cin k ⟨[],none,[]⟩:=⟨fun _=>rfl,(fun _ h=>by cases h),(fun _ h=>by cases h)⟩
theorem cin_step (hz:∀ q c m,pr q c=some m→k m=0) {S:St} (h:Cin k S) (c:Int):Cin k (cst k pr S c):=by
 cases hm:mdC k pr S c with
 | some m=>
  rw [cst_made hm]
  refine⟨(fun e=>by cases e),h.nz,fun q e=>?_⟩
  injection e with e
  subst e
  unfold mdC at hm
  cases hp:S.p with
  | none=>rw [hp] at hm;cases hm
  | some q=>
   rw [hp] at hm
   have hm:(if blk k S.H (k c)=true then none else pr q c)=some m:=hm
   split at hm
   · cases hm
   · exact hz _ _ _ hm
 | none=>
  by_cases hc:k c=0
  · rw [cst_zero hm hc]
    exact⟨(fun e=>by cases e),(fun _ h=>by cases h),fun q e=>by injection e with e;rw [←e];exact hc⟩
  · rw [cst_kept hm hc]
    refine⟨h.none,fun x hx=>?_,h.z⟩
    rcases List.mem_append.1 hx with hx | hx
    · exact h.nz x hx
    · rw [List.mem_singleton.1 hx];exact hc
theorem blk_no {H:List Int} {y:Int} (h:¬blk k H y=true):∀ x∈H,k x<y:=by
 intro x hx
 refine Classical.byContradiction fun hn=>h (List.any_eq_true.2 ⟨x,hx,decide_eq_true (by omega)⟩)
theorem sw_past {c:Int}:∀ {H:List Int},(∀ h∈H,k h≠0∧k h<k c∧0≤k h)→Sw k (c::H) (H ++ [c])
 | [],_=>.refl _
 | h::H,hh=>by
  have h1:=hh h (List.mem_cons_self ..)
  have ih:=sw_past (H:=H) (fun x hx=>hh x (List.mem_cons_of_mem _ hx))
  exact (Sw.swap [] H c h (by omega) h1.1 (by omega)).trans (ih.left [h])
theorem cst_sw (hk:∀ x,0≤k x) {f:Int→List Int} (hp:∀ q c m,f c = [c]→pr q c=some m→f m=f q ++ [c]) {S:St} (h:Cin k S) (hH:∀ x∈S.H,f x = [x]) {c:Int} (hc:f c = [c]) (r:List Int):
 Sw k ((cst k pr S c).all.flatMap f++r) (S.all.flatMap f++(c::r))∧∀ x∈(cst k pr S c).H,f x = [x]:=by
 cases hm:mdC k pr S c with
 | none=>
  refine⟨?_,?_⟩
  · rw [cst_none hm,List.flatMap_append]
    simp only [List.flatMap_cons,List.flatMap_nil,hc]
    rw [List.append_assoc]
    exact .refl _
  · by_cases hz:k c=0
    · rw [cst_zero hm hz];intro x hx;cases hx
    · rw [cst_kept hm hz]
      intro x hx
      rcases List.mem_append.1 hx with hx | hx
      · exact hH x hx
      · rw [List.mem_singleton.1 hx];exact hc
 | some m=>
  rw [cst_made hm]
  refine⟨?_,hH⟩
  unfold mdC at hm
  cases hq:S.p with
  | none=>rw [hq] at hm;cases hm
  | some q=>
   rw [hq] at hm
   have hm:(if blk k S.H (k c)=true then none else pr q c)=some m:=hm
   split at hm
   · cases hm
   · rename_i hb
     have hpm:=hp _ _ _ hc hm
     have hl:=blk_no hb
     have hs:Sw k (c::S.H) (S.H ++ [c]):=sw_past fun x hx=>⟨h.nz x hx,hl x hx,hk x⟩
     have hf:S.H.flatMap f=S.H:=flat_self hH
     simp only [St.all,hq,Option.toList,List.flatMap_append,List.flatMap_cons,List.flatMap_nil,List.append_nil,hpm,hf]
     have:=(hs.right r).left (S.B.flatMap f++f q)
     simpa using this
theorem cfold_sw (hk:∀ x,0≤k x) (hz:∀ q c m,pr q c=some m→k m=0) {f:Int→List Int} (hp:∀ q c m,f c = [c]→pr q c=some m→f m=f q ++ [c]):∀ (s:List Int) (S:St),Cin k S→(∀ x∈S.H,f x = [x])→(∀ x∈s,f x = [x])→Sw k ((cfold k pr S s).all.flatMap f) (S.all.flatMap f++s)
 | [],S,_,_,_=>by rw [List.append_nil];exact .refl _
 | c::s,S,h,hH,hs=>by
  obtain⟨h1,h2⟩:=cst_sw hk hp h hH (hs c (List.mem_cons_self ..)) s
  have ih:=cfold_sw hk hz hp s (cst k pr S c) (cin_step hz h c) h2 (fun x hx=>hs x (List.mem_cons_of_mem _ hx))
  exact ih.trans h1
theorem nf_cmp (hk:∀ x,0≤k x) (hz:∀ q c m,pr q c=some m→k m=0) {f:Int→List Int} (hp:∀ q c m,f c = [c]→pr q c=some m→f m=f q ++ [c]) {s:List Int} (hs:∀ x∈s,f x = [x]):nfL k f (cmpL k pr s)=ordL k s:=by
 have:=cfold_sw hk hz hp s ⟨[],none,[]⟩ cin_start (fun _ h=>by cases h) hs
 rw [show St.all ⟨[],none,[]⟩ = [] from rfl,List.flatMap_nil,List.nil_append] at this
 exact ord_of_sw this
end
def prM (ms:List (Int×Int×Int)) (a b:Int):Option Int:=if (tog a b).2=true then some (tog a b).1 else findM ms a b
structure Mks (ps:List Uc.Pr) (ms:List (Int×Int×Int)):Prop where
 two:∀ x y c,findM ms x y=some c→dcf ps c = [x,y]
 zero:∀ x y c,findM ms x y=some c→kc ps c=0
 syl:∀ c,sylB c→kc ps c=0
section
variable {ps:List Uc.Pr} {ms:List (Int×Int×Int)}
theorem fl_syl {c:Int} (h:sylB c):fl ps c=sparts c:=ful_syl h _
theorem fl_jam (hF:Fit ps) {x:Int} (hs:¬sylB x) (h:(4352≤x∧x≤4370)∨(4449≤x∧x≤4469)∨(4520≤x∧x≤4546)):fl ps x = [x]:=ful_nil hs (hF.jam x h) _
theorem fl_two (hF:Fit ps) {c x y:Int} (hs:¬sylB c) (h:dcf ps c = [x,y]):fl ps c=fl ps x++fl ps y:=by
 have he:=hF.ends c
 unfold fl
 rw [←ful_succ he,ful_more hs (by rw [h];exact List.cons_ne_nil _ _),h]
 simp
theorem tog_cases (a b:Int):((tog a b).2=true∧(tog a b).1=44032+(21*(a-4352)+(b-4449))*28∧4352≤a∧a<4371∧4449≤b∧b<4470)∨((tog a b).2=true∧(tog a b).1=a+(b-4519)∧44032≤a∧a<55204∧(a-44032)%28=0∧4520≤b∧b<4547)∨((tog a b).2=false∧tog a b=(0,false)):=by
 by_cases h1:Lead a∧Vow b
 · rw [tog_lead h1.1 h1.2]
   exact .inl ⟨rfl,rfl,h1.1.1,h1.1.2,h1.2.1,h1.2.2⟩
 · by_cases h2:Opn a∧Trail b
   · rw [tog_open h2.1 h2.2]
     exact .inr (.inl ⟨rfl,rfl,h2.1.1,h2.1.2.1,h2.1.2.2,h2.2.1,h2.2.2⟩)
   · rw [tog_no h1 h2]
     exact .inr (.inr ⟨rfl,rfl⟩)
theorem pr_parts (hF:Fit ps) (hM:Mks ps ms) (hd:∀ c,sylB c→dcf ps c = []) (q c m:Int) (hc:fl ps c = [c]) (h:prM ms q c=some m):fl ps m=fl ps q ++ [c]:=by
 unfold prM at h
 rcases tog_cases q c with ⟨h1,h2,g1,g2,g3,g4⟩ | ⟨h1,h2,g1,g2,g3,g4,g5⟩ | ⟨h1,-⟩
 · rw [if_pos h1,h2] at h
   injection h with h
   have hs:sylB m:=by unfold sylB;omega
   rw [fl_syl hs,fl_jam hF (x:=q) (by unfold sylB;omega) (by omega)]
   unfold sparts
   rw [if_pos (by omega)]
   have e1:4352+(m-44032)/28/21=q:=by omega
   have e2:4449+(m-44032)/28%21=c:=by omega
   rw [e1,e2];rfl
 · rw [if_pos h1,h2] at h
   injection h with h
   have hs:sylB m:=by unfold sylB;omega
   have hq:sylB q:=by unfold sylB;omega
   rw [fl_syl hs,fl_syl hq]
   unfold sparts
   rw [if_neg (by omega),if_pos g3]
   have e1:4352+(m-44032)/28/21=4352+(q-44032)/28/21:=by omega
   have e2:4449+(m-44032)/28%21=4449+(q-44032)/28%21:=by omega
   have e3:4519+(m-44032)%28=c:=by omega
   rw [e1,e2,e3];rfl
 · rw [if_neg (by rw [h1];exact Bool.false_ne_true)] at h
   have h2:=hM.two _ _ _ h
   have hs:¬sylB m:=fun hs=>by rw [hd m hs] at h2;cases h2
   rw [fl_two hF hs h2,hc]
theorem pr_zero (hM:Mks ps ms) (q c m:Int) (h:prM ms q c=some m):kc ps m=0:=by
 unfold prM at h
 rcases tog_cases q c with ⟨h1,h2,g1,g2,g3,g4⟩ | ⟨h1,h2,g1,g2,g3,g4,g5⟩ | ⟨h1,-⟩
 · rw [if_pos h1,h2] at h
   injection h with h
   exact hM.syl m (by unfold sylB;omega)
 · rw [if_pos h1,h2] at h
   injection h with h
   exact hM.syl m (by unfold sylB;omega)
 · rw [if_neg (by rw [h1];exact Bool.false_ne_true)] at h
   exact hM.zero _ _ _ h
end
structure Fits (ps:List Uc.Pr) (ms:List (Int×Int×Int)):Prop where
 fit:Fit ps
 mks:Mks ps ms
 sd:∀ c,sylB c→dcf ps c = []
 low:LowR ps
theorem syl_row {ps:List Uc.Pr} (ht:¬touA ps=true) {c:Int} (hc:sylB c):(Uc.patOf ps c).dec = []∧(Uc.patOf ps c).ccc=0:=by
 unfold Uc.patOf
 cases hf:ps.find? (fun p=>decide (p.a≤c∧c≤p.b)) with
 | none=>exact⟨rfl,rfl⟩
 | some r=>
  have hr:=List.mem_of_find?_eq_some hf
  have hab:r.a≤c∧c≤r.b:=by have:=List.find?_some hf;simpa using this
  have hn:¬(0<r.dec.length∨¬r.ccc=0):=fun h=>by
   have hb:touB r.a r.b=true:=by
    unfold sylB at hc
    unfold touB korB kors
    simp only [Bool.or_eq_true,decide_eq_true_eq,List.any_cons,List.any_nil,Bool.or_false]
    omega
   exact ht (by unfold touA;exact List.any_eq_true.2 ⟨r,hr,decide_eq_true ⟨h,hb⟩⟩)
  exact⟨List.eq_nil_of_length_eq_zero (by show r.dec.length=0;omega),Classical.byContradiction fun h=>hn (.inr h)⟩
theorem load_fits {f:Nat→List UInt8} {d:Dt} (h:loadOf f=(⟨0,0,0⟩,some d)) (hf:(f 0).length≤4000):Fits d.ps d.ms:=by
 have hF:=load_fit h hf
 obtain⟨ht,hm⟩:=load_right h
 refine⟨hF,⟨fun x y c hc=>makes_any hF.good hm hc,fun x y c hc=>?_,fun c hc=>(syl_row ht hc).2⟩,fun c hc=>?_,by rw [(load_bools h).1];exact low_ref _ [] (fun r h=>by cases h)⟩
 · obtain⟨-,-,h3⟩:=mkp_found d.ps [] d.ms hm
   rcases h3 _ _ _ hc with h | ⟨r,hr,hi,ha,hx,hy⟩
   · cases h
   · unfold kc
     rw [←ha,pat_row hF.good r hr]
     exact Classical.byContradiction fun hn=>hi (.inr (.inl hn))
 · unfold dcf
   rw [(syl_row ht hc).1];rfl
def cmp (ps:List Uc.Pr) (ms:List (Int×Int×Int)) (s:List Int):List Int:=cmpL (kc ps) (prM ms) s
def nfc (ps:List Uc.Pr) (ms:List (Int×Int×Int)) (s:List Int):List Int:=cmp ps ms (nfd ps s)
section
variable {ps:List Uc.Pr} {ms:List (Int×Int×Int)}
theorem Fits.back (h:Fits ps ms) (s:List Int):nfd ps (nfc ps ms s)=nfd ps s:=by
 have:=nf_cmp h.fit.ccc (pr_zero h.mks) (f:=fl ps) (pr_parts h.fit h.mks h.sd) (s:=nfd ps s) (fun x hx=>h.fit.nown hx)
 rw [nfc,cmp,nfd,this]
 exact ord_fix (nf_in s)
theorem Fits.again (h:Fits ps ms) (s:List Int):nfc ps ms (nfc ps ms s)=nfc ps ms s:=by
 rw [nfc,h.back];rfl
theorem nfc_len (s:List Int):(nfc ps ms s).length≤(nfd ps s).length:=cmp_len _
theorem Fits.iff (h:Fits ps ms) (s t:List Int):nfc ps ms s=nfc ps ms t↔nfd ps s=nfd ps t:=
 ⟨fun e=>by rw [←h.back s,e,h.back],fun e=>by rw [nfc,e];rfl⟩
theorem Fits.joinC (h:Fits ps ms) (s t:List Int):nfc ps ms (nfc ps ms s++nfc ps ms t)=nfc ps ms (s++t):=by
 rw [h.iff,←h.fit.parts,h.back,h.back,h.fit.parts]
theorem Fits.joinD (h:Fits ps ms) (s t:List Int):nfc ps ms (nfd ps s++nfd ps t)=nfc ps ms (s++t):=by
 rw [h.iff,h.fit.parts]
end
end Go.Proofs.YtbkgbhlmeeodgaaGreatDoor
