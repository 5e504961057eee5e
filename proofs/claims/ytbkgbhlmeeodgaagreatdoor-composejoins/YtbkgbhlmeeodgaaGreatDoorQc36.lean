/- A part. -/
import Derived.Test.YtbkgbhlmeeodgaaGreatDoorQc35
import Derived.Sort.LotA
namespace Go.Proofs.YtbkgbhlmeeodgaaGreatDoor
open Go.RowKit
theorem readp_err (f:Nat→List UInt8):∀ n i,n+i=5→readP f n i=⟨0,0,0⟩∨(¬(readP f n i).err=0∧1≤(readP f n i).file∧(readP f n i).file≤7)
 | 0,i,_=>by
  by_cases h:(cfF f).err=0
  · left;rw [readP,if_pos h]
  · right;rw [readP,if_neg h];exact⟨h,by show (1:Int)≤7;omega,by show (7:Int)≤7;omega⟩
 | n+1,i,hi=>by
  by_cases h:(prF f i).err=0
  · rw [readP,if_pos h];exact readp_err f n (i+1) (by omega)
  · right;rw [readP,if_neg h];exact⟨h,by show (1:Int)≤2+i;omega,by show (2:Int)+i≤7;omega⟩
theorem load_wrong {f:Nat→List UInt8} {x:Wh} (h:loadOf f=(x,none)):¬x.err=0∧1≤x.file∧x.file≤7:=by
 rcases read_load f with ⟨h1,h2⟩ | ⟨h1,h2⟩
 · rw [h2] at h
   rcases load2_join (uF f).rows (spF f) (cfF f).rows with ⟨-,ms,-,h3⟩ | ⟨h3,h4⟩
   · rw [h3] at h;injection h with _ h;cases h
   · rw [h4] at h
     injection h with h _
     subst h
     exact⟨h3,by show (1:Int)≤1;omega,by show (1:Int)≤7;omega⟩
 · rw [h2] at h
   injection h with h _
   subst h
   by_cases hu:(uF f).err=0
   · have e:readOf f=readP f 5 0:=by rw [readOf,if_pos hu]
     rw [e] at h1 ⊢
     rcases readp_err f 5 0 rfl with h | h
     · rw [h] at h1;exact absurd rfl h1
     · exact h
   · rw [readOf,if_neg hu];exact⟨hu,by show (1:Int)≤1;omega,by show (1:Int)≤7;omega⟩
theorem load_right {f:Nat→List UInt8} {d:Dt} (h:loadOf f=(⟨0,0,0⟩,some d)):¬touA d.ps=true∧mkP (d.sp 0) d.ps [] d.ps=some d.ms:=by
 rcases read_load f with ⟨h1,h2⟩ | ⟨h1,h2⟩
 · rw [h2] at h
   rcases load2_join (uF f).rows (spF f) (cfF f).rows with ⟨h4,ms,h5,h3⟩ | ⟨h3,h4⟩
   · rw [h3] at h
     injection h with _ h
     injection h with h
     subst h
     refine⟨fun ht=>?_,h5⟩
     unfold joinE at h4
     rw [if_pos ht] at h4
     cases h4
   · rw [h4] at h;injection h with _ h;cases h
 · rw [h2] at h;injection h with _ h;cases h
theorem mkp_found {ex:List Pq.Sp} {ps:List Uc.Pr}:∀ (l:List Uc.Pr) (out ms:List (Int×Int×Int)),mkP ex ps out l=some ms →
 (∀ x y c,findM out x y=some c→findM ms x y=some c)∧(∀ q∈l,¬idle ex ps q→findM ms (dec0 q) (dec1 q)=some q.a)∧(∀ x y c,findM ms x y=some c→findM out x y=some c∨∃ q∈l,¬idle ex ps q∧q.a=c∧dec0 q=x∧dec1 q=y)
 | [],out,ms,h=>by
  rw [mkP] at h
  injection h with h
  subst h
  refine⟨fun _ _ _ h=>h,?_,?_⟩
  · intro q hq;cases hq
  · intro x y c h;exact .inl h
 | r::l,out,ms,h=>by
  by_cases hi:idle ex ps r
  · rw [mkp_idle hi] at h
    obtain⟨h1,h2,h3⟩:=mkp_found l out ms h
    refine⟨h1,fun q hq hn=>?_,fun x y c hc=>?_⟩
    · rcases List.mem_cons.1 hq with rfl | hq
      · exact absurd hi hn
      · exact h2 q hq hn
    · rcases h3 x y c hc with h | ⟨q,hq,hh⟩
      · exact .inl h
      · exact .inr ⟨q,List.mem_cons_of_mem _ hq,hh⟩
  · by_cases hn:findM out (dec0 r) (dec1 r)=none
    · rw [mkp_add hi hn] at h
      obtain⟨h1,h2,h3⟩:=mkp_found l _ ms h
      have hr:findM (out ++ [(r.a,dec0 r,dec1 r)]) (dec0 r) (dec1 r)=some r.a:=by
       rw [findM_snoc,hn,if_neg (by simp),if_pos ⟨rfl,rfl⟩]
      refine⟨fun x y c hc=>h1 x y c ?_,fun q hq hq2=>?_,fun x y c hc=>?_⟩
      · rw [findM_snoc,hc];rfl
      · rcases List.mem_cons.1 hq with rfl | hq
        · exact h1 _ _ _ hr
        · exact h2 q hq hq2
      · rcases h3 x y c hc with h | ⟨q,hq,hh⟩
        · rw [findM_snoc] at h
          split at h
          · exact .inl h
          · split at h
            · rename_i e
              injection h with h
              exact .inr ⟨r,List.mem_cons_self ..,hi,h,e.1,e.2⟩
            · cases h
        · exact .inr ⟨q,List.mem_cons_of_mem _ hq,hh⟩
    · rw [mkp_twice hi hn] at h;cases h
theorem makes_any {ps:List Uc.Pr} {ex:List Pq.Sp} {ms:List (Int×Int×Int)} (hg:Uc.Good ps) (hm:mkP ex ps [] ps=some ms) {x y c:Int} (hf:findM ms x y=some c):
 ((Uc.patOf ps c).dec.map fun c:Nat=>(c:Int)) = [x,y]:=by
 obtain⟨-,-,h3⟩:=mkp_found ps [] ms hm
 rcases h3 _ _ _ hf with h | ⟨r,hr,hi,ha,hx,hy⟩
 · cases h
 · rw [←ha,pat_row hg r hr,←hx,←hy]
   have hl:r.dec.length=2:=Classical.byContradiction (fun h=>hi (.inl h))
   unfold dec0 dec1
   match hh:r.dec,hl with
   | [u,v],_=>rfl
theorem row_kor {ps:List Uc.Pr} (ht:¬touA ps=true) {q:Uc.Pr} (hq:q∈ps) (h:0<q.dec.length∨¬q.ccc=0):korB q.a=false∧korB q.b=false:=by
 have hb:¬badK q:=fun hb=>ht (by unfold touA;exact List.any_eq_true.2 ⟨q,hq,decide_eq_true hb⟩)
 have ht:touB q.a q.b=false:=by
  cases e:touB q.a q.b with
  | false=>rfl
  | true=>exact absurd ⟨h,e⟩ hb
 unfold touB at ht
 simp only [Bool.or_eq_false_iff] at ht
 exact ht.1
end Go.Proofs.YtbkgbhlmeeodgaaGreatDoor
namespace Go.Proofs.YtbkgbhlmeeodgaaGreatDoor
def sylB (c:Int):Prop:=44032≤c∧c≤55203
instance (c:Int):Decidable (sylB c):=by unfold sylB;infer_instance
def sparts (c:Int):List Int:=
 if (c-44032)%28=0 then [4352+(c-44032)/28/21,4449+(c-44032)/28%21]
 else [4352+(c-44032)/28/21,4449+(c-44032)/28%21,4519+(c-44032)%28]
theorem sparts_kor {c x:Int} (hc:sylB c) (hx:x∈sparts c):¬sylB x∧((4352≤x∧x≤4370)∨(4449≤x∧x≤4469)∨(4520≤x∧x≤4546)):=by
 unfold sylB at hc ⊢
 unfold sparts at hx
 split at hx
 · simp only [List.mem_cons,List.not_mem_nil,or_false] at hx
   rcases hx with rfl | rfl <;> omega
 · simp only [List.mem_cons,List.not_mem_nil,or_false] at hx
   rcases hx with rfl | rfl | rfl <;> omega
theorem sparts_len (c:Int):(sparts c).length≤3:=by unfold sparts;split <;> simp
theorem sparts_pos (c:Int):0<(sparts c).length:=by unfold sparts;split <;> simp
section
variable (dec:Int→List Int)
def ful:Nat→Int→List Int
 | 0,c=>if sylB c then sparts c else [c]
 | n+1,c=>if sylB c then sparts c else if dec c = [] then [c] else (dec c).flatMap (ful n)
variable {dec}
theorem ful_syl {c:Int} (h:sylB c):∀ n,ful dec n c=sparts c
 | 0=>if_pos h
 | _+1=>if_pos h
theorem ful_nil {c:Int} (h:¬sylB c) (hd:dec c = []):∀ n,ful dec n c = [c]
 | 0=>if_neg h
 | n+1=>by rw [ful,if_neg h,if_pos hd]
theorem ful_more {c:Int} {n:Nat} (h:¬sylB c) (hd:dec c ≠ []):ful dec (n+1) c=(dec c).flatMap (ful dec n):=by rw [ful,if_neg h,if_neg hd]
theorem flatMap_same {f g:Int→List Int}:∀ {l:List Int},(∀ x∈l,f x=g x)→l.flatMap f=l.flatMap g
 | [],_=>rfl
 | x::l,h=>by
  rw [List.flatMap_cons,List.flatMap_cons,h x (List.mem_cons_self ..),flatMap_same (fun y hy=>h y (List.mem_cons_of_mem _ hy))]
theorem ful_succ:∀ {n:Nat} {c:Int},Ends dec n c→ful dec (n+1) c=ful dec n c
 | 0,c,h=>by
  by_cases hs:sylB c
  · rw [ful_syl hs,ful_syl hs]
  · rw [ful_nil hs h,ful_nil hs h]
 | n+1,c,h=>by
  by_cases hs:sylB c
  · rw [ful_syl hs,ful_syl hs]
  · by_cases hd:dec c = []
    · rw [ful_nil hs hd,ful_nil hs hd]
    · rw [ful_more hs hd,ful_more hs hd]
      exact flatMap_same fun x hx=>ful_succ (h x hx)
theorem ful_leaf (hk:∀ x,((4352≤x∧x≤4370)∨(4449≤x∧x≤4469)∨(4520≤x∧x≤4546))→dec x = []):∀ (n:Nat) (c x:Int),Ends dec n c→x∈ful dec n c→¬sylB x∧dec x = []
 | 0,c,x,h,hx=>by
  by_cases hs:sylB c
  · rw [ful_syl hs] at hx
    exact⟨(sparts_kor hs hx).1,hk x (sparts_kor hs hx).2⟩
  · rw [ful_nil hs h,List.mem_singleton] at hx
    subst hx
    exact⟨hs,h⟩
 | n+1,c,x,h,hx=>by
  by_cases hs:sylB c
  · rw [ful_syl hs] at hx
    exact⟨(sparts_kor hs hx).1,hk x (sparts_kor hs hx).2⟩
  · by_cases hd:dec c = []
    · rw [ful_nil hs hd,List.mem_singleton] at hx
      subst hx
      exact⟨hs,hd⟩
    · rw [ful_more hs hd,List.mem_flatMap] at hx
      obtain⟨y,hy,hxy⟩:=hx
      exact ful_leaf hk n y x (h y hy) hxy
theorem flat_len {f:Int→List Int} {g:Int→Nat}:∀ {l:List Int},(∀ x∈l,(f x).length≤3*g x)→(l.flatMap f).length≤3*(l.map g).sum
 | [],_=>by simp
 | x::l,h=>by
  have h1:=h x (List.mem_cons_self ..)
  have h2:=flat_len (f:=f) (g:=g) (l:=l) (fun y hy=>h y (List.mem_cons_of_mem _ hy))
  rw [List.flatMap_cons,List.length_append,List.map_cons,List.sum_cons]
  omega
theorem cntn_pos:∀ (n:Nat) (c:Int),1≤cnt dec n c
 | 0,_=>by rw [cnt];exact Nat.le_refl _
 | n+1,c=>by
  rw [cnt]
  split
  · exact Nat.le_refl _
  · rename_i hd
    cases hh:dec c with
    | nil=>exact absurd hh hd
    | cons d l=>
     have:=cntn_pos n d
     rw [List.map_cons,List.sum_cons]
     omega
theorem ful_len:∀ (n:Nat) (c:Int),Ends dec n c→(ful dec n c).length≤3*cnt dec n c
 | 0,c,h=>by
  by_cases hs:sylB c
  · rw [ful_syl hs,cnt];exact sparts_len c
  · rw [ful_nil hs h,cnt];simp
 | n+1,c,h=>by
  by_cases hd:dec c = []
  · rw [cnt,if_pos hd]
    by_cases hs:sylB c
    · rw [ful_syl hs];exact sparts_len c
    · rw [ful_nil hs hd];simp
  · rw [cnt,if_neg hd]
    by_cases hs:sylB c
    · rw [ful_syl hs]
      have h1:=sparts_len c
      have:1≤((dec c).map (cnt dec n)).sum:=by
       cases hh:dec c with
       | nil=>exact absurd hh hd
       | cons d l=>
        have:=cntn_pos (dec:=dec) n d
        rw [List.map_cons,List.sum_cons]
        omega
      omega
    · rw [ful_more hs hd]
      exact flat_len fun x hx=>ful_len n x (h x hx)
end
section
variable (dec:Int→List Int)
def stp (c:Int):List Int:=if sylB c then sparts c else dec c
inductive Run:Nat→List Int→List Int→Prop
 | nil:Run 0 [] []
 | leaf {g:Nat} {x:Int} {l o:List Int}:stp dec x = []→Run g l o→Run (g+1) (x::l) (x::o)
 | more {g:Nat} {x:Int} {l o:List Int}:stp dec x ≠ []→Run g (stp dec x++l) o→Run (g+1) (x::l) o
variable {dec}
theorem stp_syl {c:Int} (h:sylB c):stp dec c=sparts c:=if_pos h
theorem stp_no {c:Int} (h:¬sylB c):stp dec c=dec c:=if_neg h
theorem sparts_ne (c:Int):sparts c ≠ []:=fun h=>by have:=sparts_pos c;rw [h] at this;cases this
theorem Run.len {g:Nat} {l o:List Int} (h:Run dec g l o):l.length≤o.length:=by
 induction h with
 | nil=>exact Nat.le_refl _
 | leaf _ _ ih=>simpa using ih
 | more hne _ ih=>
  rw [List.length_append] at ih
  have:=List.length_pos_iff.2 hne
  rw [List.length_cons]
  omega
theorem run_leaves {l o:List Int} {g:Nat} (h:Run dec g l o):∀ {p:List Int},(∀ x∈p,stp dec x = [])→∃ g',Run dec g' (p++l) (p++o)
 | [],_=>⟨g,h⟩
 | x::p,hp=>by
  obtain⟨g',h'⟩:=run_leaves h (p:=p) (fun y hy=>hp y (List.mem_cons_of_mem _ hy))
  exact⟨g'+1,.leaf (hp x (List.mem_cons_self ..)) h'⟩
def Jam (dec:Int→List Int):Prop:=∀ x,((4352≤x∧x≤4370)∨(4449≤x∧x≤4469)∨(4520≤x∧x≤4546))→dec x = []
theorem run_ful (hk:Jam dec):∀ (n:Nat) (x:Int),Ends dec n x→∀ {l o:List Int} {g:Nat},Run dec g l o→∃ g',Run dec g' (x::l) (ful dec n x++o)
 | 0,x,hx,l,o,g,h=>by
  by_cases hs:sylB x
  · rw [ful_syl hs]
    obtain⟨g',h'⟩:=run_leaves h (p:=sparts x) (fun y hy=>by rw [stp_no (sparts_kor hs hy).1];exact hk y (sparts_kor hs hy).2)
    exact⟨g'+1,.more (by rw [stp_syl hs];exact sparts_ne x) (by rw [stp_syl hs];exact h')⟩
  · rw [ful_nil hs hx]
    exact⟨g+1,.leaf (by rw [stp_no hs];exact hx) h⟩
 | n+1,x,hx,l,o,g,h=>by
  by_cases hs:sylB x
  · rw [ful_syl hs]
    obtain⟨g',h'⟩:=run_leaves h (p:=sparts x) (fun y hy=>by rw [stp_no (sparts_kor hs hy).1];exact hk y (sparts_kor hs hy).2)
    exact⟨g'+1,.more (by rw [stp_syl hs];exact sparts_ne x) (by rw [stp_syl hs];exact h')⟩
  · by_cases hd:dec x = []
    · rw [ful_nil hs hd]
      exact⟨g+1,.leaf (by rw [stp_no hs];exact hd) h⟩
    · rw [ful_more hs hd]
      have all:∀ p:List Int,(∀ y∈p,Ends dec n y)→∃ g',Run dec g' (p++l) (p.flatMap (ful dec n)++o):=by
       intro p
       induction p with
       | nil=>intro _;exact⟨g,h⟩
       | cons y p ih=>
        intro hp
        obtain⟨g1,h1⟩:=ih (fun z hz=>hp z (List.mem_cons_of_mem _ hz))
        obtain⟨g2,h2⟩:=run_ful hk n y (hp y (List.mem_cons_self ..)) h1
        exact⟨g2,by rw [List.flatMap_cons,List.append_assoc];exact h2⟩
      obtain⟨g',h'⟩:=all (dec x) hx
      exact⟨g'+1,.more (by rw [stp_no hs];exact hd) (by rw [stp_no hs];exact h')⟩
theorem run_one (hk:Jam dec) {n:Nat} {x:Int} (hx:Ends dec n x):∃ g,Run dec g [x] (ful dec n x):=by
 obtain⟨g,h⟩:=run_ful hk n x hx .nil
 exact⟨g,by rw [List.append_nil] at h;exact h⟩
end
end Go.Proofs.YtbkgbhlmeeodgaaGreatDoor
namespace Go.Proofs.YtbkgbhlmeeodgaaGreatDoor
open Go.Sort
def Srt (k:Int→Int) (l:List Int):Prop:=l.Pairwise fun x y=>k x≤k y
def Cl (k:Int→Int) (a b:List Int):Prop:=∀ c:Int,a.filter (fun z=>decide (k z=c))=b.filter (fun z=>decide (k z=c))
section
variable {k:Int→Int}
theorem Cl.refl (a:List Int):Cl k a a:=fun _=>rfl
theorem Cl.symm {a b:List Int} (h:Cl k a b):Cl k b a:=fun c=>(h c).symm
theorem Cl.trans {a b c:List Int} (h:Cl k a b) (g:Cl k b c):Cl k a c:=fun x=>(h x).trans (g x)
theorem Cl.app {a b a' b':List Int} (h:Cl k a b) (g:Cl k a' b'):Cl k (a++a') (b++b'):=fun c=>by rw [List.filter_append,List.filter_append,h c,g c]
theorem cl_mem {a b:List Int} (h:Cl k a b) {x:Int} (hx:x∈a):x∈b:=by
 have h1:x∈a.filter (fun z=>decide (k z=k x)):=List.mem_filter.2 ⟨hx,by simp⟩
 rw [h] at h1
 exact (List.mem_filter.1 h1).1
theorem fil_none {c:Int} {l:List Int} (h:∀ x∈l,k x≠c):l.filter (fun z=>decide (k z=c)) = []:=List.filter_eq_nil_iff.2 fun x hx=>by simpa using h x hx
theorem cl_flip {u v:List Int} (h:∀ x∈u,∀ y∈v,k x≠k y):Cl k (u++v) (v++u):=fun c=>by
 rw [List.filter_append,List.filter_append]
 by_cases hc:∃ x∈u,k x=c
 · obtain⟨x,hx,e⟩:=hc
   rw [fil_none (l:=v) (fun y hy he=>h x hx y hy (e.trans he.symm))];simp
 · rw [fil_none (l:=u) (fun x hx he=>hc ⟨x,hx,he⟩)];simp
theorem cl_cancel {x y a b:List Int} (h:Cl k (x++a++y) (x++b++y)):Cl k a b:=fun c=>by
 have h1:=h c
 rw [List.filter_append,List.filter_append,List.filter_append,List.filter_append] at h1
 exact List.append_cancel_left (List.append_cancel_right h1)
theorem cl_nil {y:Int} {b:List Int} (h:Cl k (y::b) []):False:=by
 have:=cl_mem h (List.mem_cons_self ..)
 cases this
theorem cl_one:∀ {a b:List Int},Srt k a→Srt k b→Cl k a b→a=b
 | [],[],_,_,_=>rfl
 | [],_::_,_,_,h=>(cl_nil h.symm).elim
 | _::_,[],_,_,h=>(cl_nil h).elim
 | x::a,y::b,ha,hb,h=>by
  have h1:=List.pairwise_cons.1 ha
  have h2:=List.pairwise_cons.1 hb
  have g1:x∈y::b:=cl_mem h (List.mem_cons_self ..)
  have g2:y∈x::a:=cl_mem h.symm (List.mem_cons_self ..)
  have l1:k y≤k x:=by
   rcases List.mem_cons.1 g1 with e | g1
   · rw [e];exact Int.le_refl _
   · exact h2.1 x g1
  have l2:k x≤k y:=by
   rcases List.mem_cons.1 g2 with e | g2
   · rw [e];exact Int.le_refl _
   · exact h1.1 y g2
  have hxy:k y=k x:=by omega
  have hf:=h (k x)
  rw [List.filter_cons_of_pos (by simp),List.filter_cons_of_pos (by simp [hxy])] at hf
  injection hf with e hf'
  subst e
  have ht:Cl k a b:=fun c=>by
   by_cases hc:k x=c
   · subst hc;exact hf'
   · have h3:=h c
     rwa [List.filter_cons_of_neg (by simpa using hc),List.filter_cons_of_neg (by simpa using hc)] at h3
  rw [cl_one h1.2 h2.2 ht]
theorem srt_le {l:List Int} (h:Srt k l) {i j:Nat} {x y:Int} (hij:i≤j) (hx:l[i]? = some x) (hy:l[j]? = some y):k x≤k y:=by
 rcases Nat.lt_or_ge i j with hlt | hge
 · obtain⟨hi,rfl⟩:=List.getElem?_eq_some_iff.1 hx
   obtain⟨hj,rfl⟩:=List.getElem?_eq_some_iff.1 hy
   exact List.pairwise_iff_getElem.1 h i j hi hj hlt
 · obtain rfl:i=j:=by omega
   rw [hx] at hy
   injection hy with e
   rw [e];exact Int.le_refl _
theorem Srt.take {l:List Int} (h:Srt k l) (n:Nat):Srt k (l.take n):=List.Pairwise.sublist (List.take_sublist n l) h
theorem Srt.drop {l:List Int} (h:Srt k l) (n:Nat):Srt k (l.drop n):=List.Pairwise.sublist (List.drop_sublist n l) h
theorem Srt.glue {a b:List Int} (ha:Srt k a) (hb:Srt k b) (h:∀ x∈a,∀ y∈b,k x≤k y):Srt k (a++b):=List.pairwise_append.2 ⟨ha,hb,h⟩
theorem srt_small {l:List Int} (h:l.length≤1):Srt k l:=by
 match l,h with
 | [],_=>exact List.Pairwise.nil
 | [x],_=>exact List.pairwise_singleton _ _
end
theorem get_mid (A B:List Int) (p:Int) (i:Nat) (hi:i=A.length):(A++p::B).toArray[i]! = p:=by
 subst hi
 rw [getElem!_pos _ _ (by simp)]
 simp
theorem set_mid (A B:List Int) (p q:Int) (i:Nat) (h:i=A.length):(A++p::B).set i q=A++q::B:=by subst h;simp
theorem swp_get (A B C:List Int) (p q:Int) (i j:Nat) (hi:i=A.length) (hj:j=A.length+1+B.length):(A++p::(B++q::C)).toArray[i]! = p∧(A++p::(B++q::C)).toArray[j]! = q:=by
 refine⟨get_mid A _ p i hi,?_⟩
 rw [show A++p::(B++q::C)=(A++p::B)++q::C by simp]
 exact get_mid _ _ q j (by simp;omega)
theorem swp_lo (A B C:List Int) (p q:Int) (i j:Nat) (hi:i=A.length) (hj:j=A.length+1+B.length):swp (A++p::(B++q::C)).toArray i j=(A++q::(B++p::C)).toArray:=by
 obtain⟨h1,h2⟩:=swp_get A B C p q i j hi hj
 unfold swp
 rw [h1,h2,List.setIfInBounds_toArray,List.setIfInBounds_toArray,set_mid A _ p q i hi,show A++q::(B++q::C)=(A++q::B)++q::C by simp,set_mid _ _ q p j (by simp;omega)]
 simp
theorem swp_hi (A B C:List Int) (p q:Int) (i j:Nat) (hi:i=A.length) (hj:j=A.length+1+B.length):swp (A++p::(B++q::C)).toArray j i=(A++q::(B++p::C)).toArray:=by
 obtain⟨h1,h2⟩:=swp_get A B C p q i j hi hj
 unfold swp
 rw [h1,h2,List.setIfInBounds_toArray,List.setIfInBounds_toArray,show A++p::(B++q::C)=(A++p::B)++q::C by simp,set_mid _ _ q p j (by simp;omega),show (A++p::B)++p::C=A++p::(B++p::C) by simp,set_mid A _ p q i hi]
theorem arr_get (l:List Int) (i:Nat) (x:Int) (h:l[i]? = some x):l.toArray[i]! = x:=by
 obtain⟨hi,rfl⟩:=List.getElem?_eq_some_iff.1 h
 rw [getElem!_pos _ _ (by simpa using hi)]
 simp
def ltK (k:Int→Int) (x y:Int):Bool:=decide (k x<k y)
theorem swo_k (k:Int→Int):SWO (ltK k) where
 irrefl x:=by simp [ltK]
 trans x y z h1 h2:=by simp [ltK] at *;omega
 ntrans x y z h1 h2:=by simp [ltK] at *;omega
section
variable {k:Int→Int}
theorem cut2 {l:List Int} {j:Nat} (h:j+1<l.length):l=l.take j++l[j]::([]++l[j+1]::l.drop (j+2)):=by
 conv=>lhs;rw [←List.take_append_drop j l]
 rw [List.drop_eq_getElem_cons (by omega),List.drop_eq_getElem_cons h]
 rfl
theorem swp_cl (l:List Int) (j:Nat) (h:j+1<l.length) (hk:ltK k l.toArray[j+1]! l.toArray[j]! = true):∃ l':List Int,swp l.toArray (j+1) j=l'.toArray∧l'.length=l.length∧Cl k l l':=by
 have e0:l.toArray[j]! = l[j]:=arr_get l j _ (List.getElem?_eq_getElem (by omega))
 have e1:l.toArray[j+1]! = l[j+1]:=arr_get l (j+1) _ (List.getElem?_eq_getElem h)
 rw [e0,e1] at hk
 have hk:k l[j+1]<k l[j]:=of_decide_eq_true hk
 have hc:=cut2 h
 refine⟨l.take j++l[j+1]::([]++l[j]::l.drop (j+2)),?_,?_,?_⟩
 · conv=>lhs;rw [hc]
   exact swp_hi _ [] _ _ _ j (j+1) (by rw [List.length_take];omega) (by rw [List.length_take];simp;omega)
 · conv=>rhs;rw [hc]
   simp
   try omega
 · conv=>lhs;rw [hc]
   have:=cl_flip (k:=k) (u:=[l[j]]) (v:=[l[j+1]]) (fun x hx y hy=>by
    rw [List.mem_singleton] at hx hy;subst hx hy;omega)
   have h3:=(Cl.refl (k:=k) (l.take j)).app (this.app (Cl.refl (l.drop (j+2))))
   simpa using h3
theorem ins_cl (a:Nat):∀ (j:Nat) (l:List Int),j<l.length→∃ l':List Int,insInner (ltK k) a j l.toArray=l'.toArray∧l'.length=l.length∧Cl k l l'
 | 0,l,_=>⟨l,rfl,rfl,Cl.refl _⟩
 | j+1,l,h=>by
  rw [insInner]
  split
  · rename_i hc
    rw [Bool.and_eq_true] at hc
    obtain⟨l',e1,e2,e3⟩:=swp_cl l j h hc.2
    rw [e1]
    obtain⟨l'',f1,f2,f3⟩:=ins_cl a j l' (by omega)
    exact⟨l'',f1,f2.trans e2,e3.trans f3⟩
  · exact⟨l,rfl,rfl,Cl.refl _⟩
theorem insO_cl (a b:Nat):∀ (n i:Nat) (l:List Int),b-i=n→b≤l.length→∃ l':List Int,insOuter (ltK k) a b i l.toArray=l'.toArray∧l'.length=l.length∧Cl k l l'
 | 0,i,l,hn,hb=>by
  rw [insOuter,if_neg (by omega)]
  exact⟨l,rfl,rfl,Cl.refl _⟩
 | n+1,i,l,hn,hb=>by
  rw [insOuter,if_pos (by omega)]
  obtain⟨l',e1,e2,e3⟩:=ins_cl (k:=k) a i l (by omega)
  rw [e1]
  obtain⟨l'',f1,f2,f3⟩:=insO_cl a b n (i+1) l' (by omega) (by omega)
  exact⟨l'',f1,f2.trans e2,e3.trans f3⟩
theorem outside {X U Y l:List Int} (hl:l.length=X.length+U.length+Y.length) (h:∀ i,i<X.length∨X.length+U.length≤i→l[i]? = (X++U++Y)[i]?):∃ R,l=X++R++Y∧R.length=U.length:=by
 refine⟨(l.drop X.length).take U.length,?_,by rw [List.length_take,List.length_drop];omega⟩
 apply List.ext_getElem?
 intro i
 rcases Nat.lt_or_ge i X.length with h1 | h1
 · rw [h i (.inl h1),List.append_assoc,List.append_assoc,List.getElem?_append_left h1,List.getElem?_append_left h1]
 · rcases Nat.lt_or_ge i (X.length+U.length) with h2 | h2
   · rw [List.append_assoc,List.getElem?_append_right h1,List.getElem?_append_left (by rw [List.length_take,List.length_drop];omega),List.getElem?_take_of_lt (by omega),List.getElem?_drop]
     congr 1;omega
   · rw [h i (.inr h2),List.append_assoc,List.append_assoc,List.getElem?_append_right h1,List.getElem?_append_right h1,List.getElem?_append_right (by omega),List.getElem?_append_right (by rw [List.length_take,List.length_drop];omega)]
     congr 1
     rw [List.length_take,List.length_drop];omega
theorem insSort_list (X U Y:List Int) (a b:Nat) (ha:a=X.length) (hb:b=X.length+U.length):∃ R,insertionSort (ltK k) (X++U++Y).toArray a b=(X++R++Y).toArray∧R.length=U.length∧Srt k R∧Cl k U R:=by
 subst ha hb
 obtain⟨⟨p1,p2,-⟩,hs⟩:=insertionSort_holds (lt:=ltK k) (swo_k k) (X++U++Y).toArray X.length (X.length+U.length) (by omega) (by simp <;> omega)
 obtain⟨l,e1,e2,e3⟩:=insO_cl (k:=k) X.length (X.length+U.length) _ (X.length+1) (X++U++Y) rfl (by simp <;> omega)
 have e1:insertionSort (ltK k) (X++U++Y).toArray X.length (X.length+U.length)=l.toArray:=e1
 rw [e1] at p1 p2 hs ⊢
 have hl:l.length=X.length+U.length+Y.length:=by rw [e2];simp;omega
 obtain⟨R,rfl,hR⟩:=outside (X:=X) (U:=U) (Y:=Y) hl (fun i hi=>by
  have h:=p2 i hi
  by_cases hin:i<l.length
  · rw [getElem!_pos _ _ (by simpa using hin),getElem!_pos _ _ (by simp;omega)] at h
    rw [List.getElem?_eq_getElem hin,List.getElem?_eq_getElem (by simp;omega)]
    simpa using h
  · rw [List.getElem?_eq_none (by omega),List.getElem?_eq_none (by simp;omega)])
 refine⟨R,rfl,hR,?_,cl_cancel e3⟩
 refine List.pairwise_iff_getElem.2 fun i j hi hj hij=>?_
 have h:=hs (X.length+i) (X.length+j) (by omega) (by omega) (by omega)
 have g:∀ q (hq:q<R.length),(X++R++Y).toArray[X.length+q]! = R[q]:=fun q hq=>arr_get _ _ _ (by
  rw [List.append_assoc,List.getElem?_append_right (by omega),List.getElem?_append_left (by omega),show X.length+q-X.length=q by omega]
  exact List.getElem?_eq_getElem hq)
 rw [g i hi,g j hj] at h
 have h:¬k R[j]<k R[i]:=of_decide_eq_false h
 omega
end
def swr (X U M V Y:List Int) (i:Nat):Array Int:=(X++(V.take i++U.drop i)++M++(U.take i++V.drop i)++Y).toArray
theorem swr_zero (X U M V Y:List Int):swr X U M V Y 0=(X++U++M++V++Y).toArray:=by simp [swr]
theorem swr_all (X U M V Y:List Int) (n:Nat) (hu:U.length=n) (hv:V.length=n):swr X U M V Y n=(X++V++M++U++Y).toArray:=by
 unfold swr
 rw [List.take_of_length_le (by omega),List.take_of_length_le (by omega),List.drop_eq_nil_of_le (by omega),List.drop_eq_nil_of_le (by omega)]
 simp
theorem swr_size (X U M V Y:List Int) (i:Nat) (h:U.length=V.length):(swr X U M V Y i).size=(X++U++M++V++Y).length:=by
 simp [swr];omega
theorem swr_step (X U M V Y:List Int) (i a b n:Nat) (hu:U.length=n) (hv:V.length=n) (hi:i<n) (ha:a=X.length+i) (hb:b=X.length+n+M.length+i):swp (swr X U M V Y i) a b=swr X U M V Y (i+1):=by
 have e1:U.drop i=U[i]::U.drop (i+1):=List.drop_eq_getElem_cons (by omega)
 have e2:V.drop i=V[i]::V.drop (i+1):=List.drop_eq_getElem_cons (by omega)
 have e3:U.take (i+1)=U.take i ++ [U[i]]:=by rw [List.take_succ_eq_append_getElem (by omega)]
 have e4:V.take (i+1)=V.take i ++ [V[i]]:=by rw [List.take_succ_eq_append_getElem (by omega)]
 obtain⟨u,eu⟩:∃ u,u=U[i]:=⟨_,rfl⟩
 obtain⟨v,ev⟩:∃ v,v=V[i]:=⟨_,rfl⟩
 rw [←eu] at e1 e3
 rw [←ev] at e2 e4
 clear eu ev
 have l1:(U.drop (i+1)).length=n-(i+1):=by rw [List.length_drop,hu]
 have l2:(V.take i).length=i:=by rw [List.length_take];omega
 have l3:(U.take i).length=i:=by rw [List.length_take];omega
 unfold swr
 rw [e1,e2,e3,e4]
 have:=swp_lo (X++V.take i) (U.drop (i+1)++M++U.take i) (V.drop (i+1)++Y) u v a b (by rw [List.length_append,l2];exact ha) (by rw [List.length_append,List.length_append,List.length_append,l1,l2,l3];omega)
 simpa using this
section
variable {k:Int→Int}
theorem at_X {X U V Y:List Int} {i:Nat} (h:i<U.length):(X++U++V++Y)[X.length+i]? = U[i]?:=by
 rw [List.append_assoc,List.append_assoc,List.getElem?_append_right (by omega),List.getElem?_append_left (by omega)]
 congr 1;omega
theorem at_V {X U V Y:List Int} {i:Nat} (h:i<V.length):(X++U++V++Y)[X.length+U.length+i]? = V[i]?:=by
 rw [List.append_assoc,List.append_assoc,List.getElem?_append_right (by omega),List.getElem?_append_right (by omega),List.getElem?_append_left (by omega)]
 congr 1;omega
theorem mem_drop_at {l:List Int} {s:Nat} {x:Int} (h:x∈l.drop s):∃ i,s≤i∧l[i]? = some x:=by
 obtain⟨i,hi,e⟩:=List.mem_iff_getElem.1 h
 refine⟨s+i,by omega,?_⟩
 rw [←List.getElem?_drop,List.getElem?_eq_getElem hi,e]
theorem mem_take_at {l:List Int} {s:Nat} {x:Int} (h:x∈l.take s):∃ i,i<s∧l[i]? = some x:=by
 obtain⟨i,hi,e⟩:=List.mem_iff_getElem.1 h
 rw [List.length_take] at hi
 refine⟨i,by omega,?_⟩
 rw [←e,List.getElem_take]
 exact List.getElem?_eq_getElem (by omega)
theorem sym_cut {U V:List Int} (hU:Srt k U) (hV:Srt k V) {u v:Nat} (hu:u≤U.length) (hv:v≤V.length)
 (h1:∀ x y,U[u]? = some x→0<v→V[v-1]? = some y→k y<k x) (h2:∀ x y,0<u→U[u-1]? = some x→V[v]? = some y→k x≤k y):
 (∀ x∈U.drop u,∀ y∈V.take v,k y<k x)∧(∀ x∈U.take u++V.take v,∀ y∈U.drop u++V.drop v,k x≤k y):=by
 have g1:∀ x∈U.drop u,∀ y∈V.take v,k y<k x:=by
  intro x hx y hy
  obtain⟨i,hi,ei⟩:=mem_drop_at hx
  obtain⟨j,hj,ej⟩:=mem_take_at hy
  have il:=(List.getElem?_eq_some_iff.1 ei).1
  have a1:U[u]? = some U[u]:=List.getElem?_eq_getElem (by omega)
  have a2:V[v-1]? = some V[v-1]:=List.getElem?_eq_getElem (by omega)
  have b0:=h1 _ _ a1 (by omega) a2
  have b1:=srt_le hU hi a1 ei
  have b2:=srt_le hV (show j≤v-1 by omega) ej a2
  omega
 refine⟨g1,fun x hx y hy=>?_⟩
 rcases List.mem_append.1 hx with hx | hx <;> rcases List.mem_append.1 hy with hy | hy
 · obtain⟨i,hi,ei⟩:=mem_take_at hx
   obtain⟨j,hj,ej⟩:=mem_drop_at hy
   exact srt_le hU (by omega) ei ej
 · obtain⟨i,hi,ei⟩:=mem_take_at hx
   obtain⟨j,hj,ej⟩:=mem_drop_at hy
   have jl:=(List.getElem?_eq_some_iff.1 ej).1
   have a1:U[u-1]? = some U[u-1]:=List.getElem?_eq_getElem (by omega)
   have a2:V[v]? = some V[v]:=List.getElem?_eq_getElem (by omega)
   have b0:=h2 _ _ (by omega) a1 a2
   have b1:=srt_le hU (show i≤u-1 by omega) ei a1
   have b2:=srt_le hV hj a2 ej
   omega
 · have:=g1 y hy x hx;omega
 · obtain⟨i,hi,ei⟩:=mem_take_at hx
   obtain⟨j,hj,ej⟩:=mem_drop_at hy
   exact srt_le hV (by omega) ei ej
theorem sym_end {U V R1 R2:List Int} {u v:Nat} (hc:(∀ x∈U.drop u,∀ y∈V.take v,k y<k x)∧(∀ x∈U.take u++V.take v,∀ y∈U.drop u++V.drop v,k x≤k y))
 (s1:Srt k R1) (s2:Srt k R2) (c1:Cl k (U.take u++V.take v) R1) (c2:Cl k (U.drop u++V.drop v) R2):Srt k (R1++R2)∧Cl k (U++V) (R1++R2):=by
 refine⟨s1.glue s2 (fun x hx y hy=>hc.2 x (cl_mem c1.symm hx) y (cl_mem c2.symm hy)),?_⟩
 refine Cl.trans ?_ (c1.app c2)
 have e:U++V=U.take u++((U.drop u++V.take v)++V.drop v):=by
  have e0:U++V=(U.take u++U.drop u)++(V.take v++V.drop v):=by rw [List.take_append_drop,List.take_append_drop]
  rw [e0]
  simp only [List.append_assoc]
 have e2:(U.take u++V.take v)++(U.drop u++V.drop v)=U.take u++((V.take v++U.drop u)++V.drop v):=by simp only [List.append_assoc]
 rw [e,e2]
 exact (Cl.refl _).app ((cl_flip (fun x hx y hy=>by have:=hc.1 x hx y hy;omega)).app (Cl.refl _))
def Blk (k:Int→Int) (s:Nat) (l:List Int):Prop:=∀ q,Srt k ((l.drop (q*s)).take s)
theorem blk_nil (s:Nat):Blk k s []:=fun q=>by rw [List.drop_nil,List.take_nil];exact srt_small (by simp)
theorem blk_snoc {s q:Nat} {D R:List Int} (hD:Blk k s D) (hl:D.length=q*s) (hR:Srt k R) (hRl:R.length≤s):Blk k s (D++R):=fun p=>by
 rcases Nat.lt_or_ge p q with hp | hp
 · have h1:p*s+s≤D.length:=by rw [hl];have:=Nat.mul_le_mul_right s (show p+1≤q from hp);rwa [Nat.add_mul,Nat.one_mul] at this
   rw [List.drop_append_of_le_length (by omega),List.take_append_of_le_length (by rw [List.length_drop];omega)]
   exact hD p
 · rw [List.drop_append,List.drop_eq_nil_of_le (by rw [hl];exact Nat.mul_le_mul_right s hp),List.nil_append]
   exact (hR.drop _).take _
theorem blk_drop {s q:Nat} {l:List Int} (h:Blk k s l):Blk k s (l.drop (q*s)):=fun p=>by
 have:=h (q+p)
 rwa [Nat.add_mul,←List.drop_drop] at this
theorem blk_head {s:Nat} {l:List Int} (h:Blk k s l):Srt k (l.take s):=by simpa using h 0
theorem blk_one {s:Nat} {l:List Int} (h:Blk k s l) (hl:l.length≤s):Srt k l:=by
 have:=blk_head h
 rwa [List.take_of_length_le hl] at this
end
end Go.Proofs.YtbkgbhlmeeodgaaGreatDoor
