/- A part. -/
import Derived.Test.YtbkgbhlmeeodgaaGreatDoorQc08
import Derived.IntWalk
import Derived.Sort.Grow
import Derived.Lib.QuietBelow
namespace Go.Proofs.YtbkgbhlmeeodgaaGreatDoor.Pq
open Go.RowKit
def pfld (f:List (List UInt8)) (k:Nat):List UInt8:=f.getD k []
structure PRes where
 rows:List Sp
 err:Int
 num:Int
def amongB (vs:List (List UInt8)) (v:List UInt8):Bool:=decide (vs.length=0)||decide (v∈vs)
def spOf (f:List (List UInt8)):Sp:=⟨(rangeOf (pfld f 0)).1,(rangeOf (pfld f 0)).2.1,pfld f 1⟩
def lineErr (f:List (List UInt8)):Int:=if f.length<2 then 12 else if ¬(rangeOf (pfld f 0)).2.2=0 then (rangeOf (pfld f 0)).2.2 else if pfld f 1 = [] then 16 else 0
def propP (vs:List (List UInt8)):List Sp→List Ln→PRes
 | out,[]=>⟨out,0,0⟩
 | out,x::t=>
  if ¬lineErr x.2=0 then ⟨[],lineErr x.2,x.1⟩ else
  if amongB vs (pfld x.2 1)=false then propP vs out t else
  if ¬check out (spOf x.2)=0 then ⟨[],check out (spOf x.2),x.1⟩ else propP vs (out ++ [spOf x.2]) t
def propOf (vs:List (List UInt8)) (l:List Ln):PRes:=propP vs [] l
theorem prp_err {vs:List (List UInt8)} {out:List Sp} {x:Ln} {t:List Ln} (h:¬lineErr x.2=0):propP vs out (x::t)=⟨[],lineErr x.2,x.1⟩:=by rw [propP,if_pos h]
theorem prp_skip {vs:List (List UInt8)} {out:List Sp} {x:Ln} {t:List Ln} (h:lineErr x.2=0) (ha:amongB vs (pfld x.2 1)=false):propP vs out (x::t)=propP vs out t:=by rw [propP,if_neg (by simpa using h),if_pos ha]
theorem prp_bad {vs:List (List UInt8)} {out:List Sp} {x:Ln} {t:List Ln} (h:lineErr x.2=0) (ha:amongB vs (pfld x.2 1)=true) (hc:¬check out (spOf x.2)=0):propP vs out (x::t)=⟨[],check out (spOf x.2),x.1⟩:=by
 rw [propP,if_neg (by simpa using h),if_neg (by rw [ha];simp),if_pos hc]
theorem prp_add {vs:List (List UInt8)} {out:List Sp} {x:Ln} {t:List Ln} (h:lineErr x.2=0) (ha:amongB vs (pfld x.2 1)=true) (hc:check out (spOf x.2)=0):propP vs out (x::t)=propP vs (out ++ [spOf x.2]) t:=by
 rw [propP,if_neg (by simpa using h),if_neg (by rw [ha];simp),if_neg (by simpa using hc)]
theorem line_few {f:List (List UInt8)} (h:f.length<2):lineErr f=12:=by unfold lineErr;rw [if_pos h]
theorem line_rng {f:List (List UInt8)} (h:¬f.length<2) (hr:¬(rangeOf (pfld f 0)).2.2=0):lineErr f=(rangeOf (pfld f 0)).2.2:=by unfold lineErr;rw [if_neg h,if_pos hr]
theorem line_emp {f:List (List UInt8)} (h:¬f.length<2) (hr:(rangeOf (pfld f 0)).2.2=0) (hv:pfld f 1 = []):lineErr f=16:=by unfold lineErr;rw [if_neg h,if_neg (by simpa using hr),if_pos hv]
theorem line_ok {f:List (List UInt8)} (h:¬f.length<2) (hr:(rangeOf (pfld f 0)).2.2=0) (hv:¬pfld f 1 = []):lineErr f=0:=by unfold lineErr;rw [if_neg h,if_neg (by simpa using hr),if_neg hv]
theorem prp_len:∀ (vs:List (List UInt8)) (l:List Ln) (out:List Sp),(propP vs out l).rows.length≤out.length+l.length
 | _,[],out=>by rw [propP];simp
 | vs,x::t,out=>by
  rw [propP]
  split
  · simp
  split
  · have:=prp_len vs t out;simp at this ⊢;omega
  split
  · simp
  · have:=prp_len vs t (out ++ [spOf x.2]);simp at this ⊢;omega
theorem flds2 {w:World} {F:Option Addr} {f:List (List UInt8)} {n:Nat} (h:Vals w F n (strs f)) (hn:¬f.length<2):∃ b off,F=some ⟨b,off,none⟩∧b<w.heap.size∧w.cell? ⟨b,off,none⟩=some (.string (bs (pfld f 0)))∧w.cell? ⟨b,off+1,none⟩=some (.string (bs (pfld f 1))):=by
 have hl:f.length=n:=by have:=h.1;rwa [strs_length] at this
 obtain⟨b,off,rfl,hlt,hc⟩:=h.2 (by omega)
 exact⟨b,off,rfl,hlt,hc 0 _ (strs_get (by omega)),hc 1 _ (strs_get (by omega))⟩
theorem spvs_at:∀ {ls:List Sp} {j:Nat} {u:Value},(spvs ls)[j]? = some u→∃ q s,ls[q]? = some s∧((j=q*3∧u=.int .i64 s.a)∨(j=q*3+1∧u=.int .i64 s.b)∨(j=q*3+2∧u=.string (bs s.v)))
 | [],j,u,h=>by simp [spvs] at h
 | s::ls,0,u,h=>by rw [spvs_cons] at h;simp at h;exact⟨0,s,rfl,.inl ⟨rfl,h.symm⟩⟩
 | s::ls,1,u,h=>by rw [spvs_cons] at h;simp at h;exact⟨0,s,rfl,.inr (.inl ⟨rfl,h.symm⟩)⟩
 | s::ls,2,u,h=>by rw [spvs_cons] at h;simp at h;exact⟨0,s,rfl,.inr (.inr ⟨rfl,h.symm⟩)⟩
 | s::ls,j+3,u,h=>by
  rw [spvs_cons] at h
  obtain⟨q,t,hq,ht⟩:=spvs_at (ls:=ls) (j:=j) (u:=u) (by simpa using h)
  refine⟨q+1,t,by simpa using hq,?_⟩
  rcases ht with ⟨rfl,e⟩ | ⟨rfl,e⟩ | ⟨rfl,e⟩
  · exact .inl ⟨by omega,e⟩
  · exact .inr (.inl ⟨by omega,e⟩)
  · exact .inr (.inr ⟨by omega,e⟩)
theorem add_off (b off j:Nat):(⟨b,off,none⟩:Addr).add j=⟨b,off+j,none⟩:=by unfold Addr.add;split <;> simp_all
theorem sat_cells {w:World} {ad:Addr} {m:Nat} {ls:List Sp} (h:SAt w (some ad) m ls):∀ j u,(spvs ls)[j]? = some u→w.cell? (ad.add j)=some u:=by
 intro j u hu
 obtain⟨q,s,hq,hs⟩:=spvs_at hu
 have hlt:=(List.getElem?_eq_some_iff.1 hq).1
 obtain⟨b,off,e,_,hc⟩:=h.2 (by have:=h.1;omega)
 obtain rfl:ad=⟨b,off,none⟩:=by injection e
 obtain⟨h1,h2,h3⟩:=hc q s hq
 rw [add_off]
 rcases hs with ⟨rfl,rfl⟩ | ⟨rfl,rfl⟩ | ⟨rfl,rfl⟩
 · exact h1
 · exact h2
 · exact h3
theorem SAt.take {w:World} {A:Option Addr} {n k:Nat} {ls:List Sp} (h:SAt w A n ls) (hk:k≤n):SAt w A k (ls.take k):=by
 refine⟨by rw [List.length_take,h.1];omega,fun h0=>?_⟩
 obtain⟨b,off,rfl,hlt,hc⟩:=h.2 (by omega)
 refine⟨b,off,rfl,hlt,fun j s hj=>?_⟩
 rw [List.getElem?_take] at hj
 split at hj
 · exact hc j s hj
 · cases hj
def Low (l:List Sp):Prop:=l.Pairwise fun s t=>s.a≤t.a
def selS (vs:List (List UInt8)) (L:List Ln):List Sp:=(L.filter fun x=>amongB vs (pfld x.2 1)).map fun x=>spOf x.2
theorem sel_cons (vs:List (List UInt8)) (x:Ln) (L:List Ln):selS vs (x::L)=if amongB vs (pfld x.2 1)=true then spOf x.2::selS vs L else selS vs L:=by
 unfold selS
 rw [List.filter_cons]
 split <;> rfl
theorem prp_inv:∀ (vs:List (List UInt8)) (L:List Ln) (out:List Sp),(propP vs out L).err=0→(∀ x∈L,lineErr x.2=0)∧came out (selS vs L)=.ok (propP vs out L).rows∧(propP vs out L).num=0
 | vs,[],out,_=>⟨(fun x h=>by cases h),(by rw [propP];rfl),(by rw [propP])⟩
 | vs,x::L,out,h=>by
  by_cases hx:lineErr x.2=0
  · cases ha:amongB vs (pfld x.2 1) with
    | false=>
     rw [prp_skip hx ha] at h ⊢
     obtain⟨h1,h2,h3⟩:=prp_inv vs L out h
     refine⟨fun y hy=>?_,?_,h3⟩
     · rcases List.mem_cons.1 hy with rfl | hy
       · exact hx
       · exact h1 y hy
     · rw [sel_cons,ha,if_neg (by simp)]
       exact h2
    | true=>
     by_cases hc:check out (spOf x.2)=0
     · rw [prp_add hx ha hc] at h ⊢
       obtain⟨h1,h2,h3⟩:=prp_inv vs L _ h
       refine⟨fun y hy=>?_,?_,h3⟩
       · rcases List.mem_cons.1 hy with rfl | hy
         · exact hx
         · exact h1 y hy
       · rw [sel_cons,ha,if_pos rfl,came,if_pos hc]
         exact h2
     · rw [prp_bad hx ha hc] at h
       exact absurd h hc
  · rw [prp_err hx] at h
    exact absurd h hx
end Go.Proofs.YtbkgbhlmeeodgaaGreatDoor.Pq
namespace Go.Proofs.YtbkgbhlmeeodgaaGreatDoor
def FlatR (ps:List Uc.Pr):Prop:=∀ r∈ps,r.dec ≠ []→r.a=r.b
theorem flat_snoc {ps:List Uc.Pr} {r:Uc.Pr} (h:FlatR ps) (hr:r.dec ≠ []→r.a=r.b):FlatR (ps ++ [r]):=by
 intro x hx hd
 rcases List.mem_append.1 hx with h' | h'
 · exact h x h' hd
 · rw [List.mem_singleton.1 h'] at hd ⊢;exact hr hd
theorem join_dec {f g:List (List UInt8)} (h:¬Uc.joinB f g=false):(Uc.rowVal f).dec = []:=by
 have hj:Uc.joinB f g=true:=by simpa using h
 unfold Uc.joinB at hj
 simp only [Bool.and_eq_true,decide_eq_true_eq] at hj
 show Uc.decVal (Uc.fld f 5) = []
 rw [hj.2.2.2.2.1]
 rfl
theorem flat_ref:∀ (l:List Ln) (out:List Uc.Pr),FlatR out→FlatR (Uc.refP out l).rows
 | [],out,hg=>by rw [Uc.refP];exact hg
 | x::t,out,hg=>by
  have nil:FlatR []:=fun r h=>by cases h
  rw [Uc.refP.eq_def]
  simp only []
  by_cases h1:¬Uc.rowErr x.2=0
  · rw [if_pos h1];exact nil
  rw [if_neg h1]
  by_cases h2:Uc.twice out (Uc.rowVal x.2)=true
  · rw [if_pos h2];exact nil
  rw [if_neg h2]
  by_cases h3:Uc.namedB (Uc.fld x.2 1) Uc.nmF=true
  · rw [if_pos h3]
    cases t with
    | nil=>exact nil
    | cons y t'=>
     simp only []
     by_cases h4:¬Uc.rowErr y.2=0
     · rw [if_pos h4];exact nil
     rw [if_neg h4]
     by_cases h5:Uc.joinB x.2 y.2=false
     · rw [if_pos h5];exact nil
     rw [if_neg h5]
     exact flat_ref t' _ (flat_snoc (r:={ Uc.rowVal x.2 with b:=(Uc.rowVal y.2).a }) hg (fun hd=>absurd (join_dec h5) hd))
  · rw [if_neg h3]
    exact flat_ref t _ (flat_snoc hg (fun _=>rfl))
theorem flat_parse (l:List Ln):FlatR (Uc.parseOf l).rows:=flat_ref l [] (fun r h=>by cases h)
def wide (L:List Ln):Nat:=(L.map fun x=>x.2.length-1).sum
theorem few_ref:∀ (l:List Ln) (out:List Uc.Pr),14*(Uc.refP out l).rows.length≤14*out.length+wide l
 | [],out=>by rw [Uc.refP];simp
 | x::t,out=>by
  have hw:wide (x::t)=(x.2.length-1)+wide t:=by simp [wide]
  rw [Uc.refP.eq_def]
  simp only []
  by_cases h1:¬Uc.rowErr x.2=0
  · rw [if_pos h1];simp
  rw [if_neg h1]
  have h15:=(Uc.row_ok (by simpa using h1)).1
  by_cases h2:Uc.twice out (Uc.rowVal x.2)=true
  · rw [if_pos h2];simp
  rw [if_neg h2]
  by_cases h3:Uc.namedB (Uc.fld x.2 1) Uc.nmF=true
  · rw [if_pos h3]
    cases t with
    | nil=>simp
    | cons y t'=>
     simp only []
     by_cases h4:¬Uc.rowErr y.2=0
     · rw [if_pos h4];simp
     rw [if_neg h4]
     by_cases h5:Uc.joinB x.2 y.2=false
     · rw [if_pos h5];simp
     rw [if_neg h5]
     have hw2:wide (y::t')=(y.2.length-1)+wide t':=by simp [wide]
     refine Nat.le_trans (few_ref t' _) ?_
     rw [List.length_append,List.length_singleton]
     omega
  · rw [if_neg h3]
    have:=few_ref t (out ++ [Uc.rowVal x.2])
    rw [List.length_append,List.length_singleton] at this
    omega
theorem wide_lines:∀ (n:Int) (L:List (List UInt8)),wide ((numbered n L).filterMap lineOf)≤(L.map List.length).sum
 | _,[]=>by simp [numbered,wide]
 | n,p::L=>by
  have ih:=wide_lines (n+1) L
  show wide (((n,bodyOf p)::numbered (n+1) L).filterMap lineOf)≤_
  rw [List.filterMap_cons]
  cases h:lineOf (n,bodyOf p) with
  | none=>simp only [List.map_cons,List.sum_cons];omega
  | some x=>
   have hx:x.2.length-1≤p.length:=by
    unfold lineOf at h
    split at h
    · cases h
    · injection h with h
      rw [←h]
      show (fieldsOf (bodyOf p)).length-1≤_
      have h1:=cutAll_length 59 (bodyOf p)
      have h2:=body_length p
      unfold fieldsOf
      rw [List.length_map]
      omega
   have hw:wide (x::(numbered (n+1) L).filterMap lineOf)=(x.2.length-1)+wide ((numbered (n+1) L).filterMap lineOf):=by simp [wide]
   simp only [List.map_cons,List.sum_cons]
   rw [hw]
   omega
theorem cut_sum (c:UInt8):∀ l:List UInt8,((cutAll c l).map List.length).sum≤l.length
 | []=>by simp [cutAll]
 | y::l=>by
  have ih:=cut_sum c l
  unfold cutAll
  split
  · simp;omega
  · cases h:cutAll c l with
    | nil=>exact absurd h (cutAll_ne c l)
    | cons a t=>
     rw [h] at ih
     simp only [glue]
     simp at ih ⊢
     omega
theorem few_rows (l:List UInt8):14*(Uc.parseOf (linesIn l)).rows.length≤l.length:=by
 have h1:=few_ref (linesIn l) []
 have h2:=wide_lines 1 (cutAll 10 l)
 have h3:=cut_sum 10 l
 have h4:14*(Uc.parseOf (linesIn l)).rows.length≤14*([]:List Uc.Pr).length+wide (linesIn l):=h1
 unfold linesIn at h4 ⊢
 simp at h4
 omega
theorem pat_mem {ps:List Uc.Pr} {c:Int} (h:(Uc.patOf ps c).dec ≠ []):Uc.patOf ps c∈ps∧(Uc.patOf ps c).a≤c∧c≤(Uc.patOf ps c).b:=by
 unfold Uc.patOf at h ⊢
 cases hf:ps.find? (fun p=>decide (p.a≤c∧c≤p.b)) with
 | none=>rw [hf] at h;exact absurd rfl h
 | some p=>
  have h1:=List.mem_of_find?_eq_some hf
  have h2:=List.find?_some hf
  simp only [Option.getD_some]
  exact⟨h1,by simpa using h2⟩
theorem dcf_key {ps:List Uc.Pr} (hf:FlatR ps) {c:Int} (h:dcf ps c ≠ []):c∈ps.map fun r=>r.a:=by
 have hd:(Uc.patOf ps c).dec ≠ []:=fun e=>h (by unfold dcf;rw [e];rfl)
 obtain⟨h1,h2,h3⟩:=pat_mem hd
 have:=hf _ h1 hd
 exact List.mem_map.2 ⟨_,h1,by omega⟩
theorem dcf_two {ps:List Uc.Pr} (hg:Uc.Good ps) (c:Int):(dcf ps c).length≤2:=by
 by_cases h:(Uc.patOf ps c).dec = []
 · unfold dcf;rw [h];simp
 · have:=(hg.2 _ (pat_mem h).1).2.2.2
   unfold dcf
   rw [List.length_map]
   exact this
def decU (ps:List Uc.Pr):List Int:=ps.flatMap fun r=>r.dec.map fun n:Nat=>(n:Int)
theorem dcf_U {ps:List Uc.Pr} (c:Int):∀ d∈dcf ps c,d∈decU ps:=by
 intro d hd
 have hne:(Uc.patOf ps c).dec ≠ []:=fun e=>by unfold dcf at hd;rw [e] at hd;cases hd
 exact List.mem_flatMap.2 ⟨_,(pat_mem hne).1,hd⟩
theorem decU_len:∀ {ps:List Uc.Pr},(∀ r∈ps,r.dec.length≤2)→(decU ps).length≤2*ps.length
 | [],_=>by simp [decU]
 | r::ps,h=>by
  have h1:=h r (by simp)
  have h2:=decU_len (ps:=ps) (fun x hx=>h x (List.mem_cons_of_mem _ hx))
  have e:decU (r::ps)=(r.dec.map fun n:Nat=>(n:Int))++decU ps:=by simp [decU]
  rw [e]
  simp
  omega
def cycB (ps:List Uc.Pr):Bool:=ps.any fun r=>decide (r.a∈rch (dcf ps) 5000 0 (dcf ps r.a))
theorem cyc_iff {ps:List Uc.Pr} (hg:Uc.Good ps) (hn:ps.length≤2000):cycB ps=true↔∃ r∈ps,Plus (dcf ps) r.a r.a:=by
 unfold cycB
 rw [List.any_eq_true]
 have hU:=decU_len (ps:=ps) (fun r hr=>(hg.2 r hr).2.2.2)
 constructor
 · rintro⟨r,hr,h⟩
   have:=dcf_two hg r.a
   exact⟨r,hr,(round_iff (U:=decU ps) dcf_U (by omega)).1 (of_decide_eq_true h)⟩
 · rintro⟨r,hr,h⟩
   have:=dcf_two hg r.a
   exact⟨r,hr,decide_eq_true ((round_iff (U:=decU ps) dcf_U (by omega)).2 h)⟩
theorem no_cyc {ps:List Uc.Pr} (hg:Uc.Good ps) (hf:FlatR ps) (hn:ps.length≤2000) (h:cycB ps=false) (c:Int):Ends (dcf ps) ps.length c:=by
 have h':=all_end (dec:=dcf ps) (K:=ps.map fun r=>r.a) (fun c hc=>dcf_key hf hc) (fun c hc hp=>by
  obtain⟨r,hr,rfl⟩:=List.mem_map.1 hc
  rw [(cyc_iff hg hn).2 ⟨r,hr,hp⟩] at h
  cases h) c
 rwa [List.length_map] at h'
def longB (ps:List Uc.Pr):Bool:=ps.any fun r=>decide (4<prt (dcf ps) ps.length r.a)
theorem long_iff {ps:List Uc.Pr} (hg:Uc.Good ps):longB ps=true↔∃ r∈ps,4<cnt (dcf ps) ps.length r.a:=by
 unfold longB
 rw [List.any_eq_true]
 constructor
 · rintro⟨r,hr,h⟩
   have:=(prt_cnt (dec:=dcf ps) (dcf_two hg) ps.length r.a).1
   exact⟨r,hr,by have:=of_decide_eq_true h;omega⟩
 · rintro⟨r,hr,h⟩
   have:=(prt_cnt (dec:=dcf ps) (dcf_two hg) ps.length r.a).1
   exact⟨r,hr,decide_eq_true (by omega)⟩
end Go.Proofs.YtbkgbhlmeeodgaaGreatDoor
namespace Go.Proofs.YtbkgbhlmeeodgaaGreatDoor.Pq
open Go.RowKit
theorem mx {a:Nat} (h:a≤200000):a≤maxLen:=by unfold maxLen;omega
theorem my {a:Nat} (h:a≤200000):a*32≤140737488355328:=by omega
end Go.Proofs.YtbkgbhlmeeodgaaGreatDoor.Pq
namespace Go.Proofs.YtbkgbhlmeeodgaaGreatDoor
open Go.RowKit
structure Dt where
 ps:List Uc.Pr
 sp:Nat→List Pq.Sp
 cf:List Cf.Pp
 ms:List (Int×Int×Int)
structure Wh where
 file:Int
 line:Int
 err:Int
def dec0 (r:Uc.Pr):Int:=((r.dec.getD 0 0:Nat):Int)
def dec1 (r:Uc.Pr):Int:=((r.dec.getD 1 0:Nat):Int)
def idle (ex:List Pq.Sp) (ps:List Uc.Pr) (r:Uc.Pr):Prop:=¬r.dec.length=2∨¬r.ccc=0∨¬Pq.valueOf ex r.a = []∨¬(Uc.patOf ps (dec0 r)).ccc=0
instance (ex:List Pq.Sp) (ps:List Uc.Pr) (r:Uc.Pr):Decidable (idle ex ps r):=by unfold idle;infer_instance
def mkP (ex:List Pq.Sp) (ps:List Uc.Pr):List (Int×Int×Int)→List Uc.Pr→Option (List (Int×Int×Int))
 | out,[]=>some out
 | out,r::l=>if idle ex ps r then mkP ex ps out l else if findM out (dec0 r) (dec1 r)=none then mkP ex ps (out ++ [(r.a,dec0 r,dec1 r)]) l else none
def badK (r:Uc.Pr):Prop:=(0<r.dec.length∨¬r.ccc=0)∧touB r.a r.b=true
instance (r:Uc.Pr):Decidable (badK r):=by unfold badK;infer_instance
def touA (ps:List Uc.Pr):Bool:=ps.any fun r=>decide (badK r)
def load5 (ps:List Uc.Pr) (sp:Nat→List Pq.Sp) (cf:List Cf.Pp):Wh×Option Dt:=
 match mkP (sp 0) ps [] ps with
 | none=>(⟨1,0,15⟩,none)
 | some ms=>(⟨0,0,0⟩,some ⟨ps,sp,cf,ms⟩)
def load4 (ps:List Uc.Pr) (sp:Nat→List Pq.Sp) (cf:List Cf.Pp):Wh×Option Dt:=if longB ps=true then (⟨1,0,36⟩,none) else load5 ps sp cf
def load3 (ps:List Uc.Pr) (sp:Nat→List Pq.Sp) (cf:List Cf.Pp):Wh×Option Dt:=if cycB ps=true then (⟨1,0,17⟩,none) else load4 ps sp cf
def load2 (ps:List Uc.Pr) (sp:Nat→List Pq.Sp) (cf:List Cf.Pp):Wh×Option Dt:=if touA ps=true then (⟨1,0,16⟩,none) else load3 ps sp cf
def cfF (f:Nat→List UInt8):Cf.CRes:=Cf.cfOf (linesIn (f 6))
def load1 (f:Nat→List UInt8) (ps:List Uc.Pr) (sp:Nat→List Pq.Sp):Wh×Option Dt:=if (cfF f).err=0 then load2 ps sp (cfF f).rows else (⟨7,(cfF f).num,(cfF f).err⟩,none)
def prF (f:Nat→List UInt8) (i:Nat):=Pq.propOf (valsOf (2+i)) (linesIn (f (1+i)))
def spF (f:Nat→List UInt8) (i:Nat):List Pq.Sp:=Pq.sorted (prF f i).rows
def loadP (f:Nat→List UInt8) (ps:List Uc.Pr):Nat→Nat→Wh×Option Dt
 | 0,_=>load1 f ps (spF f)
 | n+1,i=>if (prF f i).err=0 then loadP f ps n (i+1) else (⟨2+(i:Int),(prF f i).num,(prF f i).err⟩,none)
def uF (f:Nat→List UInt8):Uc.Res:=Uc.parseOf (linesIn (f 0))
def loadOf (f:Nat→List UInt8):Wh×Option Dt:=if (uF f).err=0 then loadP f (uF f).rows 5 0 else (⟨1,(uF f).num,(uF f).err⟩,none)
def Chg (B:Nat) (W W':World):Prop:=W'.heap.size=W.heap.size∧∀ k,k≠B→W'.heap[k]? = W.heap[k]?
theorem Chg.cell {B:Nat} {W W':World} (h:Chg B W W') {p:Addr} (hp:p.block≠B):W'.cell? p=W.cell? p:=by
 have e:=h.2 p.block hp
 unfold World.cell?
 rw [e]
theorem chg_set (W:World) (B k:Nat) (v:Value):Chg B W (W.setCell ⟨B,k,none⟩ v):=
 ⟨World.size_setCell _ _ _,fun j hj=>heap_setCell_other _ ⟨B,k,none⟩ j _ (fun e=>hj (by simpa using e))⟩
def put1 (g:Nat→Value) (k:Nat) (v:Value):Nat→Value:=fun i=>if i=k then v else g i
theorem put1_at (g:Nat→Value) (k:Nat) (v:Value):put1 g k v k=v:=if_pos rfl
theorem put1_else (g:Nat→Value) {k i:Nat} (v:Value) (h:i≠k):put1 g k v i=g i:=if_neg h
end Go.Proofs.YtbkgbhlmeeodgaaGreatDoor
namespace Go.Proofs.YtbkgbhlmeeodgaaGreatDoor.Pq
open Go.RowKit Go.Sort
theorem check_alone {s:Sp} (h:¬(s.a<0∨1114111<s.b∨s.b<s.a)) (hv:¬s.v = []):check [] s=0:=check_fine h hv rfl
set_option maxRecDepth 100000 in
set_option maxHeartbeats 1000000 in
theorem check34 (x:Sp) (w:World):Calls Tryz.prog 188 #[spV x] w (ChkPost [] x w):=by
 obtain⟨xa,xb,xv⟩:=x
 unfold spV
 have HB:=Lib.hid (show Below w.heap.size w (w.alloc (.cells #[.int .i64 xa,.int .i64 xb,.string (bs xv)] 176)) from (Below.refl _ _).alloc (Nat.le_refl _) _)
 by_cases hr:xa<0∨1114111<xb∨xb<xa
 · have HR:=Lib.hid (check_range (l:=[]) (s:=⟨xa,xb,xv⟩) hr)
   obtain⟨T,hT⟩:∃ T,bs xv=T:=⟨_,rfl⟩
   rw [hT] at HB ⊢
   clear hT
   rcases (show xa<0∨(¬xa<0∧1114111<xb)∨(¬xa<0∧¬1114111<xb∧xb<xa) by omega) with g | ⟨g,g'⟩ | ⟨g,g',g''⟩
   all_goals
    clear hr
    go_enter Tryz.func188,Tryz.ntmps188
    go_wp2
    go_ret
    exact⟨by rw [HR.out];rfl,HB.out⟩
 · have HF:=Lib.hid hr
   have g1:¬xa<0:=fun h=>hr (.inl h)
   have g2:¬1114111<xb:=fun h=>hr (.inr (.inl h))
   have g3:¬xb<xa:=fun h=>hr (.inr (.inr h))
   clear hr
   by_cases hv:xv = []
   · have HR:=Lib.hid (check_empty (l:=[]) (s:=⟨xa,xb,xv⟩) HF.out hv)
     subst hv
     rw [bs_nil] at HB ⊢
     go_enter Tryz.func188,Tryz.ntmps188
     go_wp2
     go_ret
     exact⟨by rw [HR.out];rfl,HB.out⟩
   · have hemp:=bs_some hv
     have HR:=Lib.hid (check_alone (s:=⟨xa,xb,xv⟩) HF.out hv)
     obtain⟨T,hT⟩:∃ T,bs xv=T:=⟨_,rfl⟩
     rw [hT] at HB hemp ⊢
     clear hT hv
     go_enter Tryz.func188,Tryz.ntmps188
     go_wp2
     go_ret
     exact⟨by rw [HR.out];rfl,HB.out⟩
def sideOf (s t:Sp):Int:=if s.b<t.a then -1 else if t.b<s.a then 1 else 0
set_option maxRecDepth 100000 in
set_option maxHeartbeats 1000000 in
theorem side43 (s t:Sp) (w:World):Calls Tryz.prog 278 #[spV s,spV t] w fun e w'=>e=.returned (.int .i64 (sideOf s t))∧∃ q os',w'=grow (w.drewN q) os':=by
 obtain⟨xa,xb,xv⟩:=s
 obtain⟨ya,yb,yv⟩:=t
 unfold spV
 have HW:∀ T U,∃ q os',(w.alloc (.cells #[.int .i64 xa,.int .i64 xb,.string T] 176)).alloc (.cells #[.int .i64 ya,.int .i64 yb,.string U] 176)=grow (w.drewN q) os':=fun T U=>⟨0,_,by rw [alloc_eq_grow,alloc_eq_grow,grow_grow];rfl⟩
 have HW:=Lib.hid HW
 obtain⟨T,hT⟩:∃ T,bs xv=T:=⟨_,rfl⟩
 obtain⟨U,hU⟩:∃ U,bs yv=U:=⟨_,rfl⟩
 rw [hT,hU]
 clear hT hU
 by_cases h1:xb<ya
 · have HR:Hid (sideOf ⟨xa,xb,xv⟩ ⟨ya,yb,yv⟩ = -1):=Lib.hid (by unfold sideOf;rw [if_pos h1])
   go_enter Tryz.func278,Tryz.ntmps278
   go_wp2
   go_ret
   exact⟨by rw [HR.out];rfl,HW.out _ _⟩
 · by_cases h2:yb<xa
   · have HR:Hid (sideOf ⟨xa,xb,xv⟩ ⟨ya,yb,yv⟩=1):=Lib.hid (by unfold sideOf;rw [if_neg h1,if_pos h2])
     go_enter Tryz.func278,Tryz.ntmps278
     go_wp2
     go_ret
     exact⟨by rw [HR.out];rfl,HW.out _ _⟩
   · have HR:Hid (sideOf ⟨xa,xb,xv⟩ ⟨ya,yb,yv⟩=0):=Lib.hid (by unfold sideOf;rw [if_neg h1,if_neg h2])
     go_enter Tryz.func278,Tryz.ntmps278
     go_wp2
     go_ret
     exact⟨by rw [HR.out];rfl,HW.out _ _⟩
def AhdPost (ls:List Sp) (w:World) (e:Ending) (w':World):Prop:=
 Below w.heap.size w w'∧((e=.returned (.tuple #[.int .i64 ls.length,.int .i64 0])∧∀ s∈ls,check [] s=0) ∨
  ∃ (k:Nat) (s:Sp),ls[k]? = some s∧e=.returned (.tuple #[.int .i64 k,.int .i64 (check [] s)])∧check [] s≠0∧∀ t∈ls.take k,check [] t=0)
def AhdRel (ls:List Sp) (w:World) (i:Value) (wr:World):Prop:=
 Below w.heap.size w wr∧∃ k:Nat,i=.int .i64 k∧k≤ls.length∧∀ t∈ls.take k,check [] t=0
set_option maxRecDepth 100000 in
set_option maxHeartbeats 2000000 in
theorem ahead24 (A:Option Addr) (n ca:Nat) (ls:List Sp) (w:World) (hV:SAt w A n ls) (hn:n≤100000):
 Calls Tryz.prog 148 #[.slice A n ca] w (AhdPost ls w):=by
 have HV:=Lib.hid hV
 have HL:=Lib.hid hV.1
 clear hV
 go_enter Tryz.func148,Tryz.ntmps148
 go_wp2
 go_loopw [9] (fun i wr=>AhdRel ls w i wr) (fun i _=>n-(intOf i).toNat)
 case atStart=>exact⟨Below.refl _ _,0,rfl,Nat.zero_le _,by simp⟩
 case round=>
  obtain⟨hbel,k,rfl,hkn,hfit⟩:=hrel
  rw [HL.out] at hkn
  by_cases hlt:k<n
  · obtain⟨b,off,rfl,hblt,hc⟩:=(HV.out.below hbel).2 (by omega)
    obtain⟨s,hs⟩:=getSp (ls:=ls) (k:=k) (by rw [HL.out];exact hlt)
    obtain⟨h1,h2,h3⟩:=hc k s hs
    have HM:=Lib.hid (take_more (P:=fun t=>check [] t=0) hs hfit)
    have HF:=Lib.hid hfit
    have HS:=Lib.hid hs
    clear hc hfit hs
    have c34:=fun W=>check34 s W
    unfold spV ChkPost at c34
    obtain⟨T,hT⟩:∃ T,bs s.v=T:=⟨_,rfl⟩
    rw [hT] at h3 c34
    have HB:=Lib.hid (fun o=>hbel.alloc hbel.size o)
    clear hT
    obtain⟨X,hX⟩:∃ X,check [] s=X:=⟨_,rfl⟩
    rw [hX] at c34
    have HX:=Lib.hid hX
    clear hX
    by_cases hx:X=0
    · subst hx
      go_wp2_with (go_at_call 188;(with_reducible refine (c34 _).mono ?_);rintro e w1 ⟨rfl,hb1⟩)
      go_roundw
      case rel=>exact⟨(HB.out _).trans (hb1.mono (HB.out _).size),k+1,by go_num,by rw [HL.out];omega,HM.out HX.out⟩
      case measure=>simp [intOf];omega
    · have hb0:(X==0)=false:=beq_false_of_ne hx
      have HX0:=Lib.hid hx
      clear hx
      go_wp2_with (go_at_call 188;(with_reducible refine (c34 _).mono ?_);rintro e w1 ⟨rfl,hb1⟩)
      go_ret2
      exact⟨(HB.out _).trans (hb1.mono (HB.out _).size),.inr ⟨k,s,HS.out,by rw [HX.out];rfl,by rw [HX.out];exact HX0.out,HF.out⟩⟩
  · have hke:k=n:=by omega
    subst hke
    rw [List.take_of_length_le (by rw [HL.out];exact Nat.le_refl _)] at hfit
    have HF:=Lib.hid hfit
    clear hfit
    go_wp2
    go_ret2
    exact⟨hbel,.inl ⟨by rw [HL.out];rfl,HF.out⟩⟩
def placeOf (ls:List Sp) (x:Sp):Nat:=(ls.takeWhile fun t=>decide (t.b<x.a)).length
def foundAt (ls:List Sp) (x:Sp):Bool:=match ls[placeOf ls x]? with | some t=>decide (sideOf t x=0) | none=>false
theorem side_neg {s t : Sp} : sideOf s t < 0 ↔ s.b < t.a := by unfold sideOf; split; · simp [*]
                                                               · split <;> simp [*]
theorem place_at {ls:List Sp} {x:Sp} {k:Nat} (hk:k≤ls.length) (h1:∀ j s,j<k→ls[j]? = some s→s.b<x.a) (h2:∀ j s,k≤j→ls[j]? = some s→x.a≤s.b):placeOf ls x=k:=by
 unfold placeOf
 induction ls generalizing k with
 | nil=>simp at hk;simp [hk]
 | cons t ls ih=>
  cases k with
  | zero=>
   have:=h2 0 t (Nat.le_refl _) rfl
   rw [List.takeWhile_cons_of_neg (by simp;omega)]
   rfl
  | succ k=>
   have:=h1 0 t (by omega) rfl
   rw [List.takeWhile_cons_of_pos (by simp [this]),List.length_cons,ih (k:=k) (by simpa using hk) (fun j s hj hs=>h1 (j+1) s (by omega) (by simpa using hs)) (fun j s hj hs=>h2 (j+1) s (by omega) (by simpa using hs))]
theorem rises_b {ls:List Sp} (hr:Rises ls) (hf:∀ s∈ls,s.a≤s.b) {i j:Nat} {s t:Sp} (hij:i≤j) (hs:ls[i]? = some s) (ht:ls[j]? = some t):s.b≤t.b:=by
 rcases Nat.lt_or_eq_of_le hij with h | h
 · have hi:=(List.getElem?_eq_some_iff.1 hs)
   have hj:=(List.getElem?_eq_some_iff.1 ht)
   have:=List.pairwise_iff_getElem.1 hr i j hi.1 hj.1 h
   rw [hi.2,hj.2] at this
   have:=hf t (List.mem_of_getElem? ht)
   omega
 · subst h
   rw [hs] at ht
   injection ht with ht
   rw [ht]
   exact Int.le_refl _
theorem below_grow' (w:World) (q:Nat) (os:Array Obj):Below w.heap.size w (grow (w.drewN q) os):=
 ⟨rfl,rfl,rfl,by simp [grow,World.drewN],fun k hk=>by rw [heap_grow_old _ _ (by exact hk)];rfl⟩
theorem side43b (s t:Sp) (w:World):Calls Tryz.prog 278 #[spV s,spV t] w fun e w'=>e=.returned (.int .i64 (sideOf s t))∧Below w.heap.size w w':=
 (side43 s t w).mono fun _ _ ⟨he,q,os,hw⟩=>⟨he,by rw [hw];exact below_grow' w q os⟩
def BinRel (ls:List Sp) (x:Sp) (W:World) (s9 s10:Value) (wr:World):Prop:=
 Below W.heap.size W wr∧∃ lo hi:Nat,s9=.int .i64 lo∧s10=.int .i64 hi∧lo≤hi∧hi≤ls.length∧(∀ j s,j<lo→ls[j]? = some s→s.b<x.a)∧(∀ j s,hi≤j→ls[j]? = some s→x.a≤s.b)
def BinPost (ls:List Sp) (x:Sp) (w:World) (e:Ending) (w':World):Prop:=
 e=.returned (.tuple #[.int .i64 (placeOf ls x),.bool (foundAt ls x)])∧Below w.heap.size w w'
set_option maxRecDepth 100000 in
set_option maxHeartbeats 4000000 in
theorem bin42 (A:Option Addr) (n ca:Nat) (ls:List Sp) (x:Sp) (w:World) (hV:SAt w A n ls) (hn:n≤100000) (hr:Rises ls) (hf:∀ s∈ls,s.a≤s.b):
 Calls Tryz.prog 276 #[.slice A n ca,spV x,.func (.func 278) #[] #[]] w (BinPost ls x w):=by
 have HV:=Lib.hid hV
 have HL:=Lib.hid hV.1
 have HR:=Lib.hid hr
 have HF:=Lib.hid hf
 clear hV hr hf
 have mixed:Tryz.prog.follows .mixedOrders=true:=by kernel_rfl
 have HX:Hid (spV x=.agg #[.int .i64 x.a,.int .i64 x.b,.string (bs x.v)]):=Lib.hid rfl
 unfold spV
 obtain⟨U,hU⟩:∃ U,bs x.v=U:=⟨_,rfl⟩
 rw [hU] at HX ⊢
 have HU0:=Lib.hid hU
 clear hU
 have HB:=Lib.hid (show Below w.heap.size w (w.alloc (.cells #[.int .i64 x.a,.int .i64 x.b,.string U] 176)) from (Below.refl _ _).alloc (Nat.le_refl _) _)
 have hb0:(w.alloc (.cells #[.int .i64 x.a,.int .i64 x.b,.string U] 176)).cell? ⟨w.heap.size,0,none⟩=some (.int .i64 x.a):=by simp
 have hb1:(w.alloc (.cells #[.int .i64 x.a,.int .i64 x.b,.string U] 176)).cell? ⟨w.heap.size,1,none⟩=some (.int .i64 x.b):=by simp
 have hb2:(w.alloc (.cells #[.int .i64 x.a,.int .i64 x.b,.string U] 176)).cell? ⟨w.heap.size,2,none⟩=some (.string U):=by simp
 have hbl:w.heap.size<(w.alloc (.cells #[.int .i64 x.a,.int .i64 x.b,.string U] 176)).heap.size:=by simp
 go_enter Tryz.func276,Tryz.ntmps276
 go_wp2
 obtain⟨W,hW⟩:∃ W,(w.alloc (.cells #[.int .i64 x.a,.int .i64 x.b,.string U] 176))=W:=⟨_,rfl⟩
 rw [hW] at hb0 hb1 hb2 hbl HB ⊢
 obtain⟨l,hl⟩:∃ l,w.heap.size=l:=⟨_,rfl⟩
 rw [hl] at hb0 hb1 hb2 hbl ⊢
 clear hW
 go_loopw [9,10] (fun s9 s10 wr=>BinRel ls x W s9 s10 wr) (fun s9 s10 _=>(intOf s10).toNat-(intOf s9).toNat)
 case atStart=>exact⟨Below.refl _ _,0,n,rfl,rfl,Nat.zero_le _,by rw [HL.out];exact Nat.le_refl _,fun j s hj=>absurd hj (by omega),fun j s hj hs=>by have:=(List.getElem?_eq_some_iff.1 hs).1;rw [HL.out] at this;omega⟩
 case round=>
  obtain⟨hbel,lo,hi,rfl,rfl,hlh,hin,i1,i2⟩:=hrel
  have I1:=Lib.hid i1
  have I2:=Lib.hid i2
  rw [HL.out] at hin
  clear i1 i2
  have e0:=cell_regrown ((hbel.cell (p:=⟨l,0,none⟩) hbl).trans hb0)
  have e1:=cell_regrown ((hbel.cell (p:=⟨l,1,none⟩) hbl).trans hb1)
  have e2:=cell_regrown ((hbel.cell (p:=⟨l,2,none⟩) hbl).trans hb2)
  by_cases hlt:lo<hi
  · obtain⟨b,off,rfl,hblt,hc⟩:=((HV.out.below HB.out).below hbel).2 (by omega)
    obtain⟨m,hm⟩:∃ m,(lo+hi)/2=m:=⟨_,rfl⟩
    have hmI:((lo:Int)+(hi:Int))/2=(m:Int):=by omega
    have hml:lo≤m:=by omega
    have hmh:m<hi:=by omega
    have hmn:m<n:=by omega
    have HMI:=Lib.hid hmI
    clear hm hmI
    obtain⟨s,hs⟩:=getSp (ls:=ls) (k:=m) (by rw [HL.out];omega)
    obtain⟨h1,h2,h3⟩:=hc _ s hs
    have HS:=Lib.hid hs
    have c43:=fun W'=>side43b s x W'
    unfold spV at c43
    rw [HU0.out] at c43
    obtain⟨T,hT⟩:∃ T,bs s.v=T:=⟨_,rfl⟩
    rw [hT] at h3 c43
    obtain⟨X,hX⟩:∃ X,sideOf s x=X:=⟨_,rfl⟩
    rw [hX] at c43
    have HXX:=Lib.hid hX
    have k1:=cell_regrown h1
    have k2:=cell_regrown h2
    have k3:=cell_regrown h3
    have HBE:=Lib.hid hbel
    clear hc hs hT hX h1 h2 h3
    clear hbel
    by_cases hx:X<0
    · go_wp2
      rw [HMI.out]
      refine wp_region_quiet_below mixed (by kernel_rfl) ?_
      repeat (quiet_step (first | (go_at_call 278;exact Calls.regrown_of (c43 _))))
      refine wpQuiet_nil ?_
      intro _ hw'
      obtain⟨⟨dq,osq⟩,hw''⟩:=hw'
      subst hw''
      go_wp2
      go_roundw
      case measure=>simp [intOf];omega
      case rel=>
       have hb:=below_regrown wr dq osq
       refine⟨HBE.out.trans (hb.mono HBE.out.size),m+1,hi,by go_num,rfl,by omega,by rw [HL.out];omega,fun j t hj ht=>?_,I2.out⟩
       have:=side_neg.1 (by rw [HXX.out];exact hx)
       have:=rises_b HR.out HF.out (by omega) ht HS.out
       omega
    · go_wp2
      rw [HMI.out]
      refine wp_region_quiet_below mixed (by kernel_rfl) ?_
      repeat (quiet_step (first | (go_at_call 278;exact Calls.regrown_of (c43 _))))
      refine wpQuiet_nil ?_
      intro _ hw'
      obtain⟨⟨dq,osq⟩,hw''⟩:=hw'
      subst hw''
      go_wp2
      go_roundw
      case measure=>simp [intOf];omega
      case rel=>
       have hb:=below_regrown wr dq osq
       refine⟨HBE.out.trans (hb.mono HBE.out.size),lo,m,rfl,by go_num,by omega,by rw [HL.out];omega,I1.out,fun j t hj ht=>?_⟩
       have:=mt side_neg.2 (by rw [HXX.out];omega)
       have:=rises_b HR.out HF.out (by omega) HS.out ht
       omega
  · obtain rfl:hi=lo:=by omega
    have HP:=Lib.hid (place_at (x:=x) (by rw [HL.out];exact hin) I1.out I2.out)
    by_cases hn2:hi<n
    · obtain⟨b,off,rfl,hblt,hc⟩:=((HV.out.below HB.out).below hbel).2 (by omega)
      obtain⟨s,hs⟩:=getSp (ls:=ls) (k:=hi) (by rw [HL.out];omega)
      obtain⟨h1,h2,h3⟩:=hc _ s hs
      have c43:=fun W'=>side43b s x W'
      unfold spV at c43
      rw [HU0.out] at c43
      obtain⟨T,hT⟩:∃ T,bs s.v=T:=⟨_,rfl⟩
      rw [hT] at h3 c43
      have HFo:Hid (foundAt ls x=decide (sideOf s x=0)):=Lib.hid (by unfold foundAt;rw [HP.out,hs])
      obtain⟨X,hX⟩:∃ X,sideOf s x=X:=⟨_,rfl⟩
      rw [hX] at c43 HFo
      have k1:=cell_regrown h1
      have k2:=cell_regrown h2
      have k3:=cell_regrown h3
      have HBE:=Lib.hid hbel
      clear hc hs hT hX h1 h2 h3 hbel
      by_cases hx:X=0
      · subst hx
        go_wp2
        refine wp_region_quiet_below mixed (by kernel_rfl) ?_
        repeat (quiet_step (first | (go_at_call 278;exact Calls.regrown_of (c43 _))))
        refine wpQuiet_nil ?_
        intro _ hw'
        obtain⟨⟨dq,osq⟩,hw''⟩:=hw'
        subst hw''
        go_wp2
        go_ret2
        exact⟨by rw [HP.out,HFo.out];rfl,HB.out.trans ((HBE.out.trans ((below_regrown wr dq osq).mono HBE.out.size)).mono HB.out.size)⟩
      · have hx0:(X==0)=false:=beq_false_of_ne hx
        have hxd:decide (X=0)=false:=by simp [hx]
        have HXD:=Lib.hid hxd
        clear hx hxd
        go_wp2
        refine wp_region_quiet_below mixed (by kernel_rfl) ?_
        repeat (quiet_step (first | (go_at_call 278;exact Calls.regrown_of (c43 _))))
        refine wpQuiet_nil ?_
        intro _ hw'
        obtain⟨⟨dq,osq⟩,hw''⟩:=hw'
        subst hw''
        go_wp2
        go_ret2
        exact⟨by rw [HP.out,HFo.out,HXD.out];rfl,HB.out.trans ((HBE.out.trans ((below_regrown wr dq osq).mono HBE.out.size)).mono HB.out.size)⟩
    · have HFo:Hid (foundAt ls x=false):=Lib.hid (by unfold foundAt;rw [HP.out,List.getElem?_eq_none (by rw [HL.out];omega)])
      have HBE:=Lib.hid hbel
      clear hbel
      have hd:decide ((hi:Int)<(n:Int))=false:=by simp;omega
      clear e0 e1 e2
      go_wp2
      go_quiet (fail)
      go_wp2
      go_ret2
      exact⟨by rw [HP.out,HFo.out];rfl,HB.out.trans ((below_drewN HBE.out _).mono HB.out.size)⟩
end Go.Proofs.YtbkgbhlmeeodgaaGreatDoor.Pq
