/- A part. -/
import Derived.Test.YtmellioacefjjaaGreatDoorQB13
import Derived.Test.YtmellioacefjjaaGreatDoorQB21
import Derived.Deep.CutBlock
import Derived.Deep.CutRange
namespace Go.Proofs.YtmellioacefjjaaGreatDoor
open Go.RowKit
theorem lines_fields {l:List UInt8} {N:Nat} (hN:l.length≤N):∀ x∈linesIn l,∀ f∈x.2,f.length≤N:=by
 intro y h
 unfold linesIn at h
 rw [List.mem_filterMap] at h
 obtain⟨x,hx,e⟩:=h
 obtain⟨p,hp,hb⟩:=numbered_mem 1 _ x hx
 unfold lineOf at e
 split at e
 · cases e
 · cases e
   show ∀ f∈fieldsOf x.2,f.length≤N
   refine fields_len ?_
   rw [hb]
   have h2:=body_length p
   have h3:=cutAll_mem_length 10 l p hp
   omega
structure LS (w W:World) (bv g:Nat→Value):Prop where
 bel:Below w.heap.size w W
 bun:∀ i,i<7→W.cell? ⟨w.heap.size,i,none⟩=some (bv i)
 res:∀ i,i<3→W.cell? ⟨w.heap.size+1,i,none⟩=some (.int .i64 0)
 fro:∀ i,W.frozen? ⟨w.heap.size+1,i,none⟩=false
 ten:Ten W (w.heap.size+2) g
theorem LS.lt {w W:World} {bv g:Nat→Value} (h:LS w W bv g):w.heap.size+2<W.heap.size:=h.ten.lt
theorem LS.below {w W W':World} {bv g:Nat→Value} (h:LS w W bv g) {n:Nat} (hn:w.heap.size+2<n) (hb:Below n W W'):LS w W' bv g:=
 ⟨h.bel.trans (hb.mono (by omega)),fun i hi=>(hb.cell (p:=⟨w.heap.size,i,none⟩) (show w.heap.size<n by omega)).trans (h.bun i hi),
  fun i hi=>(hb.cell (p:=⟨w.heap.size+1,i,none⟩) (show w.heap.size+1<n by omega)).trans (h.res i hi),fun i=>(hb.frozen (p:=⟨w.heap.size+1,i,none⟩) (show w.heap.size+1<n by omega)).trans (h.fro i),h.ten.below hn hb⟩
theorem LS.set {w W:World} {bv g:Nat→Value} (h:LS w W bv g) {k:Nat} (hk:k<10) (a:Option Addr) (n c:Nat):LS w (W.setCell ⟨w.heap.size+2,k,none⟩ (.slice a n c)) bv (put1 g k (.slice a n c)):=by
 have hc:=chg_set W (w.heap.size+2) k (.slice a n c)
 refine⟨h.bel.setCell (p:=⟨w.heap.size+2,k,none⟩) (by show w.heap.size≤w.heap.size+2;omega) _,fun i hi=>?_,fun i hi=>?_,fun i=>?_,h.ten.set hk a n c⟩
 · exact (hc.cell (p:=⟨w.heap.size,i,none⟩) (show w.heap.size≠w.heap.size+2 by omega)).trans (h.bun i hi)
 · exact (hc.cell (p:=⟨w.heap.size+1,i,none⟩) (show w.heap.size+1≠w.heap.size+2 by omega)).trans (h.res i hi)
 · rw [World.frozen?_setCell];exact h.fro i
def bunV (v0 v1 v2 v3 v4 v5 v6:Value):Nat→Value:=fun i=>match i with
 | 0=>v0 | 1=>v1 | 2=>v2 | 3=>v3 | 4=>v4 | 5=>v5 | _=>v6
def nilG:Nat→Value:=fun _=>.slice none 0 0
def W0 (w:World) (v0 v1 v2 v3 v4 v5 v6:Value):World:=
 ((w.alloc (.cells #[v0,v1,v2,v3,v4,v5,v6] 24)).alloc (.cells #[.int .i64 0,.int .i64 0,.int .i64 0] 59)).alloc (.cells #[.slice none 0 0,.slice none 0 0,.slice none 0 0,.slice none 0 0,.slice none 0 0,.slice none 0 0,.slice none 0 0,.slice none 0 0,.slice none 0 0,.slice none 0 0] 54)
theorem new_at (w:World) (C:Array Value) (t:TypeId) (n i:Nat) (hn:n=w.heap.size):(w.alloc (.cells C t)).cell? ⟨n,i,none⟩=C[i]?:=World.cell?_alloc_at _ _ _ _ hn
theorem old_at (w:World) (o:Obj) (n i:Nat) (hn:n<w.heap.size):(w.alloc o).cell? ⟨n,i,none⟩=w.cell? ⟨n,i,none⟩:=World.cell?_alloc_past _ _ _ hn
theorem old_fro (w:World) (o:Obj) (n i:Nat) (hn:n<w.heap.size):(w.alloc o).frozen? ⟨n,i,none⟩=w.frozen? ⟨n,i,none⟩:=World.frozen?_alloc_past _ _ _ hn
theorem new_fro (w:World) (C:Array Value) (t:TypeId) (n i:Nat) (hn:n=w.heap.size):(w.alloc (.cells C t)).frozen? ⟨n,i,none⟩=false:=by subst hn;exact frozen_new w C t i
theorem seven_at (v0 v1 v2 v3 v4 v5 v6:Value):∀ i,i<7→(#[v0,v1,v2,v3,v4,v5,v6]:Array Value)[i]? = some (bunV v0 v1 v2 v3 v4 v5 v6 i)
 | 0,_=>rfl | 1,_=>rfl | 2,_=>rfl | 3,_=>rfl | 4,_=>rfl | 5,_=>rfl | 6,_=>rfl
 | _+7,h=>absurd h (by omega)
theorem three_at:∀ i,i<3→(#[.int .i64 0,.int .i64 0,.int .i64 0]:Array Value)[i]? = some (.int .i64 0)
 | 0,_=>rfl | 1,_=>rfl | 2,_=>rfl
 | _+3,h=>absurd h (by omega)
def tenA:Array Value:=#[.slice none 0 0,.slice none 0 0,.slice none 0 0,.slice none 0 0,.slice none 0 0,.slice none 0 0,.slice none 0 0,.slice none 0 0,.slice none 0 0,.slice none 0 0]
theorem ten_at:∀ i,i<10→tenA[i]? = some (.slice none 0 0)
 | 0,_=>rfl | 1,_=>rfl | 2,_=>rfl | 3,_=>rfl | 4,_=>rfl | 5,_=>rfl | 6,_=>rfl | 7,_=>rfl | 8,_=>rfl | 9,_=>rfl
 | _+10,h=>absurd h (by omega)
theorem ls_start (w:World) (v0 v1 v2 v3 v4 v5 v6:Value):LS w (W0 w v0 v1 v2 v3 v4 v5 v6) (bunV v0 v1 v2 v3 v4 v5 v6) nilG:=by
 show LS w (((w.alloc (.cells #[v0,v1,v2,v3,v4,v5,v6] 24)).alloc (.cells #[.int .i64 0,.int .i64 0,.int .i64 0] 59)).alloc (.cells tenA 54)) _ _
 obtain⟨A,hA⟩:∃ A,w.alloc (.cells #[v0,v1,v2,v3,v4,v5,v6] 24)=A:=⟨_,rfl⟩
 have sA:A.heap.size=w.heap.size+1:=by rw [←hA];simp
 rw [hA]
 obtain⟨B,hB⟩:∃ B,A.alloc (.cells #[.int .i64 0,.int .i64 0,.int .i64 0] 59)=B:=⟨_,rfl⟩
 have sB:B.heap.size=w.heap.size+2:=by rw [←hB];simp [sA]
 rw [hB]
 have b1:Below w.heap.size w A:=by rw [←hA];exact (Below.refl _ _).alloc (Nat.le_refl _) _
 have b2:Below w.heap.size w B:=by rw [←hB];exact b1.alloc (by omega) _
 refine⟨b2.alloc (by omega) _,fun i hi=>?_,fun i hi=>?_,fun i=>?_,⟨fun i hi=>?_,fun i hi=>?_,fun i=>?_,fun i=>⟨none,0,0,rfl⟩⟩⟩
 · rw [old_at _ _ _ _ (by omega),←hB,old_at _ _ _ _ (by omega),←hA,new_at _ _ _ _ _ rfl];exact seven_at _ _ _ _ _ _ _ i hi
 · rw [old_at _ _ _ _ (by omega),←hB,new_at _ _ _ _ _ (by omega)];exact three_at i hi
 · rw [old_fro _ _ _ _ (by omega),←hB];exact new_fro _ _ _ _ _ (by omega)
 · rw [new_at _ _ _ _ _ (by omega)];exact ten_at i hi
 · rw [new_at _ _ _ _ _ (by omega)];exact Array.getElem?_eq_none (by show 10≤i;exact hi)
 · exact new_fro _ _ _ _ _ (by omega)
structure LP (w W:World) (bv g:Nat→Value) (R:Option Addr) (n c:Nat) (ls:List Uc.Rw) (ps:List Uc.Pr) (F:Nat) (f:Nat→List UInt8) (k:Nat):Prop where
 st:LS w W bv g
 g0:g 0=.slice R n c
 rows:RowsIn W R n ls ps
 fil:∀ j,j<5→W.cell? ⟨F,j,none⟩=some (bv (1+j))
 hF:w.heap.size+2<F
 prs:∀ j,j<k→∃ a m,g (1+j)=.slice a (spF f j).length m∧Pq.SAt W a (spF f j).length (spF f j)
 rest:∀ j,k<j→g j=.slice none 0 0
section
variable {w W:World} {bv g:Nat→Value} {R:Option Addr} {n c:Nat} {ls:List Uc.Rw} {ps:List Uc.Pr} {F:Nat} {f:Nat→List UInt8} {k:Nat}
theorem LP.below (h:LP w W bv g R n c ls ps F f k) {W':World} (hb:Below W.heap.size W W'):LP w W' bv g R n c ls ps F f k:=
 ⟨h.st.below h.st.lt hb,h.g0,h.rows.below hb,fun j hj=>(hb.cell (p:=⟨F,j,none⟩) (World.block_lt_of_cell? W _ (h.fil j hj))).trans (h.fil j hj),h.hF,
  fun j hj=>(by obtain⟨a,m,h1,h2⟩:=h.prs j hj;exact⟨a,m,h1,h2.below hb⟩),h.rest⟩
theorem LP.put (h:LP w W bv g R n c ls ps F f k) {a:Option Addr} {m:Nat} (hk:k<5) (hS:Pq.SAt W a (spF f k).length (spF f k)):
 LP w (W.setCell ⟨w.heap.size+2,1+k,none⟩ (.slice a (spF f k).length m)) bv (put1 g (1+k) (.slice a (spF f k).length m)) R n c ls ps F f (k+1):=by
 have hc:=chg_set W (w.heap.size+2) (1+k) (.slice a (spF f k).length m)
 refine⟨h.st.set (by omega) a _ m,?_,rows_chg h.st.ten hc h.rows,fun j hj=>?_,h.hF,fun j hj=>?_,fun j hj=>?_⟩
 · rw [put1_else g _ (by omega)];exact h.g0
 · exact (hc.cell (p:=⟨F,j,none⟩) (show F≠w.heap.size+2 by have:=h.hF;omega)).trans (h.fil j hj)
 · by_cases e:j=k
   · subst e;exact⟨a,m,put1_at g _ _,sat_chg h.st.ten hc hS⟩
   · obtain⟨a',m',h1,h2⟩:=h.prs j (by omega)
     exact⟨a',m',(put1_else g _ (by omega)).trans h1,sat_chg h.st.ten hc h2⟩
 · rw [put1_else g _ (by omega)];exact h.rest j (by omega)
end
def LpI (w:World) (bv:Nat→Value) (R:Option Addr) (n c:Nat) (ls:List Uc.Rw) (ps:List Uc.Pr) (F:Nat) (f:Nat→List UInt8) (i:Value) (wr:World):Prop:=
 ∃ (k:Nat) (g:Nat→Value),(i=.int .i64 k∧k≤5)∧loadP f ps (5-k) k=loadOf f∧LP w wr bv g R n c ls ps F f k
theorem loadp_go {f:Nat→List UInt8} {ps:List Uc.Pr} {k:Nat} (hk:k<5) (he:(prF f k).err=0):loadP f ps (5-k) k=loadP f ps (5-(k+1)) (k+1):=by
 obtain⟨m,hm⟩:∃ m,5-k=m+1:=⟨5-k-1,by omega⟩
 have e:5-(k+1)=m:=by omega
 rw [hm,e,loadP,if_pos he]
theorem loadp_bad {f:Nat→List UInt8} {ps:List Uc.Pr} {k:Nat} (hk:k<5) (he:¬(prF f k).err=0):loadP f ps (5-k) k=(⟨2+(k:Int),(prF f k).num,(prF f k).err⟩,none):=by
 obtain⟨m,hm⟩:∃ m,5-k=m+1:=⟨5-k-1,by omega⟩
 rw [hm,loadP,if_neg he]
theorem LS.rs {w W:World} {bv g:Nat→Value} (h:LS w W bv g):W.cell? ⟨w.heap.size+1,0,none⟩=some (.int .i64 0)∧W.cell? ⟨w.heap.size+1,1,none⟩=some (.int .i64 0)∧W.cell? ⟨w.heap.size+1,2,none⟩=some (.int .i64 0)∧∀ i,W.frozen? ⟨w.heap.size+1,i,none⟩=false:=
 ⟨h.res 0 (by omega),h.res 1 (by omega),h.res 2 (by omega),h.fro⟩
def whV (x:Wh):Value:=.agg #[.int .i64 x.file,.int .i64 x.line,.int .i64 x.err]
def LdPost (f:Nat→List UInt8) (w:World) (e:Ending) (w':World):Prop:=
 Below w.heap.size w w'∧((∃ d b,loadOf f=(⟨0,0,0⟩,some d)∧e=.returned (.tuple #[.pointer (some ⟨b,0,none⟩),.agg #[.int .i64 0,.int .i64 0,.int .i64 0]])∧RD w' b d.ps d.sp d.cf d.ms)∨(∃ x,loadOf f=(x,none)∧e=.returned (.tuple #[.pointer none,whV x])))
def setR (w W:World) (a b c:Int):World:=((W.setCell ⟨w.heap.size+1,0,none⟩ (.int .i64 a)).setCell ⟨w.heap.size+1,1,none⟩ (.int .i64 b)).setCell ⟨w.heap.size+1,2,none⟩ (.int .i64 c)
theorem ld_bad {f:Nat→List UInt8} {w W:World} {bv g:Nat→Value} {a b c:Int} (h:LS w W bv g) (hl:loadOf f=(⟨a,b,c⟩,none)):LdPost f w (.returned (.tuple #[.pointer none,.agg #[.int .i64 a,.int .i64 b,.int .i64 c]])) (setR w W a b c):=by
 refine⟨?_,.inr ⟨⟨a,b,c⟩,hl,rfl⟩⟩
 have k:w.heap.size≤w.heap.size+1:=by omega
 exact ((h.bel.setCell (p:=⟨w.heap.size+1,0,none⟩) k _).setCell (p:=⟨w.heap.size+1,1,none⟩) k _).setCell (p:=⟨w.heap.size+1,2,none⟩) k _
structure LQ (w W:World) (bv g:Nat→Value) (R:Option Addr) (n:Nat) (ls:List Uc.Rw) (ps:List Uc.Pr) (sp:Nat→List Pq.Sp) (cf:List Cf.Pp):Prop where
 st:LS w W bv g
 rows:RowsIn W R n ls ps
 rd:RD W (w.heap.size+2) ps sp cf []
theorem LQ.below {w W W':World} {bv g:Nat→Value} {R:Option Addr} {n:Nat} {ls:List Uc.Rw} {ps:List Uc.Pr} {sp:Nat→List Pq.Sp} {cf:List Cf.Pp} (h:LQ w W bv g R n ls ps sp cf) (hb:Below W.heap.size W W'):LQ w W' bv g R n ls ps sp cf:=
 ⟨h.st.below h.st.lt hb,h.rows.below hb,h.rd.below hb⟩
theorem lq_start {w W:World} {bv g:Nat→Value} {R:Option Addr} {n c F:Nat} {ls:List Uc.Rw} {ps:List Uc.Pr} {f:Nat→List UInt8} {cf:List Cf.Pp} {A:Option Addr} {ca:Nat} {qs:List Cf.Pv} (h:LP w W bv g R n c ls ps F f 5) (hA:Cf.PAt W A cf.length qs) (hI:Cf.IsPs W qs cf):
 LQ w (W.setCell ⟨w.heap.size+2,6,none⟩ (.slice A cf.length ca)) bv (put1 g 6 (.slice A cf.length ca)) R n ls ps (spF f) cf:=by
 have hc:=chg_set W (w.heap.size+2) 6 (.slice A cf.length ca)
 have ht:=h.st.ten
 have hs:=h.st.set (k:=6) (by omega) A cf.length ca
 have hl:ls.length=n:=h.rows.1.1
 refine⟨hs,rows_chg ht hc h.rows,⟨?_,fun i hi=>?_,?_,?_,?_,?_⟩⟩
 · refine⟨R,c,ls,?_,by rw [hl];exact rows_chg ht hc h.rows⟩
   rw [hs.ten.cel 0 (by omega),put1_else g _ (by omega),h.g0,hl]
 · obtain⟨a,m,h1,h2⟩:=h.prs i hi
   exact⟨a,m,by rw [hs.ten.cel (1+i) (by omega),put1_else g _ (by omega),h1],sat_chg ht hc h2⟩
 · exact⟨A,ca,qs,by rw [hs.ten.cel 6 (by omega),put1_at],pat_chg ht hc hA,isps_chg ht hc hI⟩
 · exact⟨none,0,by rw [hs.ten.cel 7 (by omega),put1_else g _ (by omega),h.rest 7 (by omega)];rfl,Vals.nil _ _⟩
 · exact⟨none,0,by rw [hs.ten.cel 8 (by omega),put1_else g _ (by omega),h.rest 8 (by omega)];rfl,Vals.nil _ _⟩
 · exact⟨none,0,by rw [hs.ten.cel 9 (by omega),put1_else g _ (by omega),h.rest 9 (by omega)];rfl,Vals.nil _ _⟩
def ScI (P:Uc.Pr→Prop) (ps:List Uc.Pr) (Q:World→Prop) (i:Value) (wr:World):Prop:=∃ k:Nat,(i=.int .i64 k∧k≤ps.length)∧(∀ r∈ps.take k,¬P r)∧Q wr
theorem sc_more {P:Uc.Pr→Prop} {ps:List Uc.Pr} {k:Nat} {r:Uc.Pr} (hr:ps[k]? = some r) (hne:¬P r) (h:∀ t∈ps.take k,¬P t):∀ t∈ps.take (k+1),¬P t:=by
 have hlt:=(List.getElem?_eq_some_iff.1 hr).1
 have e:ps[k]=r:=(List.getElem?_eq_some_iff.1 hr).2
 rw [List.take_succ_eq_append_getElem hlt,e]
 intro t ht
 rcases List.mem_append.1 ht with ht | ht
 · exact h t ht
 · rw [List.mem_singleton.1 ht];exact hne
theorem sc_hit {P:Uc.Pr→Prop} [DecidablePred P] {ps:List Uc.Pr} {k:Nat} {r:Uc.Pr} (hr:ps[k]? = some r) (h:P r):(ps.any fun r=>decide (P r))=true:=
 List.any_eq_true.2 ⟨r,List.mem_of_getElem? hr,decide_eq_true h⟩
theorem sc_none {P:Uc.Pr→Prop} [DecidablePred P] {ps:List Uc.Pr} {k:Nat} (hk:¬k<ps.length) (h:∀ t∈ps.take k,¬P t):(ps.any fun r=>decide (P r))=false:=by
 rw [List.take_of_length_le (by omega)] at h
 rw [List.any_eq_false]
 intro t ht
 simpa using h t ht
theorem row_cells {W:World} {R:Option Addr} {n:Nat} {ls:List Uc.Rw} {ps:List Uc.Pr} (h:RowsIn W R n ls ps) {k:Nat} {r:Uc.Pr} (hr:ps[k]? = some r):∃ b off s,R=some ⟨b,off,none⟩∧Uc.Is W s r ∧
 (W.cell? ⟨b,off+k*6,none⟩=some (.int .i64 s.a)∧W.cell? ⟨b,off+k*6+1,none⟩=some (.int .i64 s.b)∧W.cell? ⟨b,off+k*6+2,none⟩=some (.string (bs s.gc)) ∧
 W.cell? ⟨b,off+k*6+3,none⟩=some (.int .i64 s.ccc)∧W.cell? ⟨b,off+k*6+4,none⟩=some (.string (bs s.bd))∧W.cell? ⟨b,off+k*6+5,none⟩=some (.slice s.dp s.dm s.dc)):=by
 have hl:=h.2.len
 have hk:=(List.getElem?_eq_some_iff.1 hr).1
 obtain⟨b,off,e,-,hc⟩:=h.1.2 (by have:=h.1.1;omega)
 obtain⟨s,hs⟩:∃ s,ls[k]? = some s:=⟨_,List.getElem?_eq_getElem (by omega)⟩
 obtain⟨r',hr',hI⟩:=h.2.get hs
 rw [hr] at hr'
 cases hr'
 exact⟨b,off,s,e,hI,hc k s hs⟩
theorem rch_len {dec:Int→List Int} (h2:∀ c,(dec c).length≤2):∀ (n i:Nat) (all:List Int),(rch dec n i all).length≤all.length+2*n
 | 0,_,all=>by rw [rch];omega
 | n+1,i,all=>by
  rw [rch]
  split
  · omega
  · rename_i c hc
    have h1:=rch_len h2 n (i+1) (addL all (dec c))
    have h3:=addL_len (dec c) all
    have h4:=h2 c
    omega
theorem pat_row:∀ {ps:List Uc.Pr},Uc.Good ps→∀ r∈ps,Uc.patOf ps r.a=r
 | [],_,_,h=>by cases h
 | p::ps,hg,r,hr=>by
  have hp:=List.pairwise_cons.1 hg.1
  rcases List.mem_cons.1 hr with rfl | hr'
  · have hf:=hg.2 r (List.mem_cons_self ..)
    unfold Uc.patOf
    rw [List.find?_cons_of_pos (by simpa using hf.2.1)]
    rfl
  · have h1:=hp.1 r hr'
    have ih:=pat_row (ps:=ps) ⟨hp.2,fun s hs=>hg.2 s (List.mem_cons_of_mem _ hs)⟩ r hr'
    unfold Uc.patOf at ih ⊢
    rw [List.find?_cons_of_neg (by simp;omega)]
    exact ih
theorem dcf_row {ps:List Uc.Pr} (hg:Uc.Good ps) {k:Nat} {r:Uc.Pr} (hr:ps[k]? = some r):dcf ps r.a=r.dec.map fun c:Nat=>(c:Int):=by
 unfold dcf
 rw [pat_row hg r (List.mem_of_getElem? hr)]
def cycP (ps:List Uc.Pr) (r:Uc.Pr):Prop:=r.a∈rch (dcf ps) 5000 0 (dcf ps r.a)
instance (ps:List Uc.Pr):DecidablePred (cycP ps):=fun r=>by unfold cycP;infer_instance
def longP (ps:List Uc.Pr) (r:Uc.Pr):Prop:=4<prt (dcf ps) ps.length r.a
instance (ps:List Uc.Pr):DecidablePred (longP ps):=fun r=>by unfold longP;infer_instance
theorem rch_few {ps:List Uc.Pr} (hg:Uc.Good ps) (c:Int):(rch (dcf ps) 5000 0 (dcf ps c)).length≤100000:=by
 have:=rch_len (dec:=dcf ps) (fun d=>dcf_two hg d) 5000 0 (dcf ps c)
 have:=dcf_two hg c
 omega
theorem own_same {W W':World} {base n size:Nat} {e:TypeId} {v:Value} {xs:List Value} (h:W.ownsRow base e size v n xs) (hk:∀ k,v.ownBlock=some k→W'.heap[k]? = W.heap[k]?):W'.ownsRow base e size v n xs:=by
 refine⟨h.1,?_⟩
 rcases h.2 with hn | ⟨g,cap,cur,rfl,hbg,hgg,rest⟩
 · exact .inl hn
 · exact .inr ⟨g,cap,cur,rfl,hbg,by rw [hk g rfl];exact hgg,rest⟩
theorem mid_world {W0 W:World} {H:Nat} (hH:H<W0.heap.size) (hk:Kept (fun k=>k≠H) W0 W) (h1:W.os=W0.os) (h2:W.tape=W0.tape) (h3:W.output=W0.output):∃ Wm,Chg H W0 Wm∧Below Wm.heap.size Wm W:=by
 obtain⟨o,ho⟩:∃ o,W.heap[H]? = some o:=⟨_,Array.getElem?_eq_getElem (by have:=hk.1;omega)⟩
 refine⟨{ W0 with heap:=W0.heap.setIfInBounds H o },⟨by simp,fun k hk'=>?_⟩,h1,h2,h3,by simpa using hk.1,fun k hk'=>?_⟩
 · exact Array.getElem?_setIfInBounds_ne (Ne.symm hk')
 · have hk':k<W0.heap.size:=by simpa using hk'
   show W.heap[k]? = (W0.heap.setIfInBounds H o)[k]?
   by_cases e:k=H
   · subst e
     rw [ho,Array.getElem?_setIfInBounds_self_of_lt hH]
   · rw [Array.getElem?_setIfInBounds_ne (Ne.symm e)]
     exact hk.2 k e hk'
theorem LS.grown {w W W1:World} {bv g:Nat→Value} {row:Option Nat} (h:LS w W bv g) (hg:W.grownBy W1 row) (hr:∀ r,row=some r→w.heap.size+2<r):LS w W1 bv g:=by
 have hlt:=h.lt
 have hc:∀ p:Addr,p.block≤w.heap.size+2→W1.cell? p=W.cell? p:=fun p hp=>hg.cell_far p (by omega) (fun e=>by have:=hr _ e.symm;omega)
 have hf:∀ p:Addr,p.block≤w.heap.size+2→W1.frozen? p=W.frozen? p:=fun p hp=>hg.frozen_far p (by omega) (fun e=>by have:=hr _ e.symm;omega)
 refine⟨h.bel.grown hg (by omega) (fun r e=>by have:=hr r e;omega),fun i hi=>(hc ⟨w.heap.size,i,none⟩ (by simp)).trans (h.bun i hi),fun i hi=>(hc ⟨w.heap.size+1,i,none⟩ (by simp)).trans (h.res i hi),fun i=>(hf ⟨w.heap.size+1,i,none⟩ (by simp)).trans (h.fro i),?_⟩
 exact⟨fun i hi=>(hc ⟨w.heap.size+2,i,none⟩ (Nat.le_refl _)).trans (h.ten.cel i hi),fun i hi=>(hc ⟨w.heap.size+2,i,none⟩ (Nat.le_refl _)).trans (h.ten.out i hi),fun i=>(hf ⟨w.heap.size+2,i,none⟩ (Nat.le_refl _)).trans (h.ten.fro i),h.ten.sli⟩
theorem sp_many (f:Nat→List UInt8) (i:Nat):(spF f i).length≤(f (1+i)).length+1:=by
 have e:(spF f i).length=(Pq.propOf (valsOf (2+i)) (linesIn (f (1+i)))).rows.length:=Pq.sorted_length _
 have h1:=Pq.prp_len (valsOf (2+i)) (linesIn (f (1+i))) []
 have h2:(linesIn (f (1+i))).length≤(f (1+i)).length+1:=by
  rw [←lines_pieces]
  have h1:=List.length_filterMap_le lineOf (numbered 1 (pieces (f (1+i))))
  rw [numbered_length] at h1
  have h2:=pieces_length (f (1+i))
  omega
 have h3:(Pq.propOf (valsOf (2+i)) (linesIn (f (1+i)))).rows.length≤([]:List Pq.Sp).length+(linesIn (f (1+i))).length:=h1
 simp at h3
 omega
def putL (L:Nat→List Int) (i:Nat) (l:List Int):Nat→List Int:=fun j=>if j=i then l else L j
theorem putL_at (L:Nat→List Int) (i:Nat) (l:List Int):putL L i l i=l:=if_pos rfl
theorem putL_else (L:Nat→List Int) {i j:Nat} (l:List Int) (h:j≠i):putL L i l j=L j:=if_neg h
structure LM (w W0 W:World) (bv g0 g:Nat→Value) (L:Nat→List Int):Prop where
 st:LS w W bv g
 kp:Kept (fun k=>k≠w.heap.size+2) W0 W
 fix:∀ i,i<7→g i=g0 i
 own:∀ i,7≤i→i<10→W.ownsRow W0.heap.size 3 1 (g i) (L i).length (nums .i64 (L i))
 ap:∀ i j k,7≤i→i<10→7≤j→j<10→i≠j→(g i).ownBlock=some k→(g j).ownBlock≠some k
theorem LM.below {w W0 W W':World} {bv g0 g:Nat→Value} {L:Nat→List Int} (h:LM w W0 W bv g0 g L) (hb:Below W.heap.size W W'):LM w W0 W' bv g0 g L:=
 ⟨h.st.below h.st.lt hb,h.kp.trans (Kept.of_below hb),h.fix,fun i h1 h2=>own_below (h.own i h1 h2) hb (Nat.le_refl _),h.ap⟩
theorem lm_start {w W0:World} {bv g0:Nat→Value} (h:LS w W0 bv g0) (hn:∀ i,7≤i→i<10→g0 i=.slice none 0 0):LM w W0 W0 bv g0 g0 (fun _=>[]):=
 ⟨h,Kept.refl _ _,fun _ _=>rfl,fun i h1 h2=>by rw [hn i h1 h2];exact World.ownsRow_nil _ _ _ _,fun i j k h1 h2 _ _ _ e=>by rw [hn i h1 h2] at e;simp [Value.ownBlock] at e⟩
theorem lm_app {w W0 W W1:World} {bv g0 g:Nat→Value} {L:Nat→List Int} {i q cap:Nat} {x:Int} (hB:w.heap.size+2<W0.heap.size) (h:LM w W0 W bv g0 g L) (h7:7≤i) (h10:i<10) (hg:W.grownBy W1 (g i).ownBlock)
 (ho:W1.ownsRow W0.heap.size 3 1 (.slice (some ⟨q,0,none⟩) ((L i).length+1) cap) ((L i).length+1) (nums .i64 (L i) ++ [.int .i64 x])) (hat:(g i).ownBlock=some q∨W.heap.size≤q):
 LM w W0 (W1.setCell ⟨w.heap.size+2,i,none⟩ (.slice (some ⟨q,0,none⟩) ((L i).length+1) cap)) bv g0 (put1 g i (.slice (some ⟨q,0,none⟩) ((L i).length+1) cap)) (putL L i (L i ++ [x])):=by
 have hrow:∀ r,(g i).ownBlock=some r→W0.heap.size≤r∧r<W.heap.size:=(h.own i h7 h10).lt
 have hq:=ho.lt q rfl
 have hother:∀ k,k≠w.heap.size+2→(W1.setCell ⟨w.heap.size+2,i,none⟩ (.slice (some ⟨q,0,none⟩) ((L i).length+1) cap)).heap[k]? = W1.heap[k]?:=fun k hk=>heap_setCell_other _ ⟨w.heap.size+2,i,none⟩ k _ (fun e=>hk (by simpa using e))
 refine⟨(h.st.grown hg (fun r e=>by have:=(hrow r e).1;omega)).set h10 _ _ _,⟨?_,fun k hk hl=>?_⟩,fun j hj=>(put1_else g _ (by omega)).trans (h.fix j hj),fun j j7 j10=>?_,fun j j' k j7 j10 j7' j10' hne e=>?_⟩
 · rw [World.size_setCell];exact Nat.le_trans h.kp.1 hg.size
 · rw [hother k hk]
   exact (hg.block k (Nat.lt_of_lt_of_le hl h.kp.1) (fun e=>by have:=(hrow k e.symm).1;omega)).trans (h.kp.2 k hk hl)
 · by_cases e:j=i
   · subst e
     rw [put1_at,putL_at,List.length_append,show nums .i64 (L j ++ [x])=nums .i64 (L j) ++ [.int .i64 x] from by simp [nums]]
     exact own_same ho (fun k ek=>hother k (by have:=(ho.lt k ek).1;omega))
   · rw [put1_else g _ e,putL_else L _ e]
     refine own_same (h.own j j7 j10) (fun k ek=>?_)
     have hk:=(h.own j j7 j10).lt k ek
     rw [hother k (by omega)]
     exact hg.block k hk.2 (fun e'=>h.ap j i k j7 j10 h7 h10 e ek e'.symm)
 · by_cases e1:j=i
   · subst e1
     rw [put1_at] at e
     rw [put1_else g _ (Ne.symm hne)]
     have e:q=k:=by simpa [Value.ownBlock] using e
     subst e
     intro e'
     rcases hat with h' | h'
     · exact h.ap j j' q j7 j10 j7' j10' hne h' e'
     · have:=((h.own j' j7' j10').lt q e').2;omega
   · rw [put1_else g _ e1] at e
     by_cases e2:j'=i
     · subst e2
       rw [put1_at]
       intro e'
       have e':q=k:=by simpa [Value.ownBlock] using e'
       subst e'
       rcases hat with h' | h'
       · exact h.ap j j' q j7 j10 j7' j10' hne e h'
       · have:=((h.own j j7 j10).lt q e).2;omega
     · rw [put1_else g _ e2]
       exact h.ap j j' k j7 j10 j7' j10' hne e
theorem lm_rd {w W0 W:World} {bv g0 g:Nat→Value} {L:Nat→List Int} {R:Option Addr} {n:Nat} {ls:List Uc.Rw} {ps:List Uc.Pr} {sp:Nat→List Pq.Sp} {cf:List Cf.Pp} {out:List (Int×Int×Int)}
 (h0:LQ w W0 bv g0 R n ls ps sp cf) (h:LM w W0 W bv g0 g L) (e7:L 7=out.map fun x=>x.1) (e8:L 8=out.map fun x=>x.2.1) (e9:L 9=out.map fun x=>x.2.2):RowsIn W R n ls ps∧RD W (w.heap.size+2) ps sp cf out:=by
 have hH:=h0.st.lt
 obtain⟨Wm,hc,hb⟩:=mid_world hH h.kp (h.st.bel.os.trans h0.st.bel.os.symm) (h.st.bel.tape.trans h0.st.bel.tape.symm) (h.st.bel.output.trans h0.st.bel.output.symm)
 have ht:=h0.st.ten
 have cc:∀ i v,i<7→W0.cell? ⟨w.heap.size+2,i,none⟩=some v→W.cell? ⟨w.heap.size+2,i,none⟩=some v:=fun i v hi hv=>by
  rw [h.st.ten.cel i (by omega),h.fix i hi,←ht.cel i (by omega),hv]
 have own:∀ i,7≤i→i<10→∃ A c,W.cell? ⟨w.heap.size+2,i,none⟩=some (.slice A (L i).length c)∧Vals W A (L i).length (nums .i64 (L i)):=fun i h1 h2=>by
  obtain⟨A,c,e,-,hv,-⟩:=own_vals (h.own i h1 h2)
  exact⟨A,c,by rw [h.st.ten.cel i h2,e],hv⟩
 refine⟨(rows_chg ht hc h0.rows).below hb,?_,fun i hi=>?_,?_,?_,?_,?_⟩
 · obtain⟨A,c,ls',h1,h2⟩:=h0.rd.rows
   exact⟨A,c,ls',cc 0 _ (by omega) h1,(rows_chg ht hc h2).below hb⟩
 · obtain⟨A,c,h1,h2⟩:=h0.rd.props i hi
   exact⟨A,c,cc _ _ (by omega) h1,(sat_chg ht hc h2).below hb⟩
 · obtain⟨A,c,qs,h1,h2,h3⟩:=h0.rd.conf
   exact⟨A,c,qs,cc 6 _ (by omega) h1,(pat_chg ht hc h2).below hb,(isps_chg ht hc h3).below hb⟩
 · have:=own 7 (by omega) (by omega);rw [e7,List.length_map] at this;exact this
 · have:=own 8 (by omega) (by omega);rw [e8,List.length_map] at this;exact this
 · have:=own 9 (by omega) (by omega);rw [e9,List.length_map] at this;exact this
def MrI (w W0:World) (bv g0:Nat→Value) (ps:List Uc.Pr) (sp:Nat→List Pq.Sp) (i:Value) (W:World):Prop:=
 ∃ (k:Nat) (out:List (Int×Int×Int)) (g:Nat→Value) (L:Nat→List Int),(i=.int .i64 k∧k≤ps.length)∧(mkP (sp 0) ps out (ps.drop k)=mkP (sp 0) ps [] ps∧out.length≤k)∧((L 7=out.map fun x=>x.1)∧(L 8=out.map fun x=>x.2.1)∧(L 9=out.map fun x=>x.2.2))∧LM w W0 W bv g0 g L
theorem mr_start {w W0:World} {bv g0:Nat→Value} {ps:List Uc.Pr} {sp:Nat→List Pq.Sp} (h:LS w W0 bv g0) (hn:∀ i,7≤i→i<10→g0 i=.slice none 0 0):MrI w W0 bv g0 ps sp (.int .i64 (0:Nat)) W0:=
 ⟨0,[],g0,fun _=>[],⟨rfl,Nat.zero_le _⟩,⟨rfl,Nat.le_refl _⟩,⟨rfl,rfl,rfl⟩,lm_start h hn⟩
theorem mkp_idle' {ex:List Pq.Sp} {ps:List Uc.Pr} {out:List (Int×Int×Int)} {r:Uc.Pr} {l:List Uc.Pr} (h:idle ex ps r):mkP ex ps out (r::l)=mkP ex ps out l:=by rw [mkP,if_pos h]
theorem mkp_add' {ex:List Pq.Sp} {ps:List Uc.Pr} {out:List (Int×Int×Int)} {r:Uc.Pr} {l:List Uc.Pr} (h:¬idle ex ps r) (hn:findM out (dec0 r) (dec1 r)=none):mkP ex ps out (r::l)=mkP ex ps (out ++ [(r.a,dec0 r,dec1 r)]) l:=by rw [mkP,if_neg h,if_pos hn]
theorem mkp_twice' {ex:List Pq.Sp} {ps:List Uc.Pr} {out:List (Int×Int×Int)} {r:Uc.Pr} {l:List Uc.Pr} (h:¬idle ex ps r) (hn:¬findM out (dec0 r) (dec1 r)=none):mkP ex ps out (r::l)=none:=by rw [mkP,if_neg h,if_neg hn]
theorem drop_at {ps:List Uc.Pr} {k:Nat} {r:Uc.Pr} (hr:ps[k]? = some r):ps.drop k=r::ps.drop (k+1):=by
 have h:=List.getElem?_eq_some_iff.1 hr
 rw [List.drop_eq_getElem_cons h.1,h.2]
theorem row_cells2 {W W5:World} {R:Option Addr} {n:Nat} {ls:List Uc.Rw} {ps:List Uc.Pr} (h:RowsIn W R n ls ps) (h5:RowsIn W5 R n ls ps) {k:Nat} {r:Uc.Pr} (hr:ps[k]? = some r):∃ b off s,R=some ⟨b,off,none⟩∧Uc.Is W s r ∧
 (W.cell? ⟨b,off+k*6,none⟩=some (.int .i64 s.a)∧W.cell? ⟨b,off+k*6+1,none⟩=some (.int .i64 s.b)∧W.cell? ⟨b,off+k*6+2,none⟩=some (.string (bs s.gc)) ∧
 W.cell? ⟨b,off+k*6+3,none⟩=some (.int .i64 s.ccc)∧W.cell? ⟨b,off+k*6+4,none⟩=some (.string (bs s.bd))∧W.cell? ⟨b,off+k*6+5,none⟩=some (.slice s.dp s.dm s.dc))∧(0<s.dm→∀ a,s.dp=some a→a.block<W5.heap.size):=by
 have hl:=h.2.len
 have hk:=(List.getElem?_eq_some_iff.1 hr).1
 obtain⟨b,off,e,-,hc⟩:=h.1.2 (by have:=h.1.1;omega)
 obtain⟨s,hs⟩:∃ s,ls[k]? = some s:=⟨_,List.getElem?_eq_getElem (by omega)⟩
 obtain⟨r',hr',hI⟩:=h.2.get hs
 obtain⟨r5,hr5,hI5⟩:=h5.2.get hs
 rw [hr] at hr'
 cases hr'
 refine⟨b,off,s,e,hI,hc k s hs,fun hp a ea=>?_⟩
 obtain⟨b',off',e',hlt,-⟩:=hI5.2.2.2.2.2.2.2 hp
 rw [ea] at e'
 cases e'
 exact hlt
theorem below_same {W:World} {b i:Nat} {v:Value} (n:Nat) (h:W.cell? ⟨b,i,none⟩=some v):Below n W (W.setCell ⟨b,i,none⟩ v):=by
 refine⟨rfl,rfl,rfl,by simp,fun k _=>?_⟩
 simp only [World.setCell,Array.getElem?_modify]
 split
 · rename_i e
   subst e
   unfold World.cell? at h
   cases hb:W.heap[b]? with
   | none=>rfl
   | some o=>
    rw [hb] at h
    cases o with
    | cells c t fr=>
     simp at h
     simp only [Option.map_some]
     congr 2
     simp
     apply Array.ext_getElem?
     intro j
     rw [Array.getElem?_setIfInBounds]
     split
     · rename_i e
       subst e
       split
       · exact h.symm
       · rename_i hj
         rw [Array.getElem?_eq_none (by omega)]
     · rfl
    | _=>rfl
 · rfl
theorem set_zero {w W:World} {bv g:Nat→Value} (h:LS w W bv g):Below W.heap.size W (setR w W 0 0 0):=by
 have hl:w.heap.size+1<W.heap.size:=by have:=h.lt;omega
 obtain⟨r0,r1,r2,-⟩:=h.rs
 have b1:=below_same W.heap.size r0
 have b2:=below_same W.heap.size ((b1.cell (p:=⟨w.heap.size+1,1,none⟩) hl).trans r1)
 exact (b1.trans b2).trans (below_same W.heap.size (((b1.trans b2).cell (p:=⟨w.heap.size+1,2,none⟩) hl).trans r2))
theorem ld_good {f:Nat→List UInt8} {w W0 W:World} {bv g0 g:Nat→Value} {L:Nat→List Int} {R:Option Addr} {n:Nat} {ls:List Uc.Rw} {ps:List Uc.Pr} {cf:List Cf.Pp} {out:List (Int×Int×Int)}
 (h0:LQ w W0 bv g0 R n ls ps (spF f) cf) (h:LM w W0 W bv g0 g L) (e:(L 7=out.map fun x=>x.1)∧(L 8=out.map fun x=>x.2.1)∧(L 9=out.map fun x=>x.2.2)) (hl:load5 ps (spF f) cf=loadOf f) (hm:mkP (spF f 0) ps [] ps=some out):
 LdPost f w (.returned (.tuple #[.pointer (some ⟨w.heap.size+1+1,0,none⟩),.agg #[.int .i64 0,.int .i64 0,.int .i64 0]])) (setR w W 0 0 0):=by
 have hb:=set_zero h.st
 refine⟨h.st.bel.trans (hb.mono h.st.bel.size),.inl ⟨⟨ps,spF f,cf,out⟩,w.heap.size+1+1,?_,rfl,(lm_rd h0 h e.1 e.2.1 e.2.2).2.below hb⟩⟩
 rw [←hl,load5,hm]
theorem ld_twice {f:Nat→List UInt8} {ps:List Uc.Pr} {cf:List Cf.Pp} (hl:load5 ps (spF f) cf=loadOf f) (hm:mkP (spF f 0) ps [] ps=none):loadOf f=(⟨1,0,15⟩,none):=by rw [←hl,load5,hm]
theorem lm_step {w W0 W w3:World} {bv g0 g:Nat→Value} {L:Nat→List Int} {i q cap:Nat} {x:Int} {o:Obj} (hB:w.heap.size+2<W0.heap.size) (h:LM w W0 W bv g0 g L) (h7:7≤i) (h10:i<10) (hg:((W.alloc o).drew).grownBy w3 (g i).ownBlock)
 (ho:w3.ownsRow W0.heap.size 3 1 (.slice (some ⟨q,0,none⟩) ((L i).length+1) cap) ((L i).length+1) (nums .i64 (L i) ++ [.int .i64 x])) (hat:(g i).ownBlock=some q∨q=W.heap.size+1):
 LM w W0 (w3.setCell ⟨w.heap.size+2,i,none⟩ (.slice (some ⟨q,0,none⟩) ((L i).length+1) cap)) bv g0 (put1 g i (.slice (some ⟨q,0,none⟩) ((L i).length+1) cap)) (putL L i (L i ++ [x])):=
 lm_app hB (h.below (below_drew ((Below.refl _ _).alloc (Nat.le_refl _) o))) h7 h10 hg ho (hat.imp id (fun e=>by rw [e];simp [World.drew]))
theorem mr_more {w W0 W:World} {bv g0 g:Nat→Value} {L:Nat→List Int} {ps:List Uc.Pr} {sp:Nat→List Pq.Sp} {k:Nat} {r:Uc.Pr} {out:List (Int×Int×Int)} {L2:Nat→List Int} (hr:ps[k]? = some r) (hi:¬idle (sp 0) ps r) (hn:findM out (dec0 r) (dec1 r)=none)
 (hmk:mkP (sp 0) ps out (ps.drop k)=mkP (sp 0) ps [] ps∧out.length≤k) (hL:(L 7=out.map fun x=>x.1)∧(L 8=out.map fun x=>x.2.1)∧(L 9=out.map fun x=>x.2.2)) (e2:L2=putL (putL (putL L 7 (L 7 ++ [r.a])) 8 (L 8 ++ [dec0 r])) 9 (L 9 ++ [dec1 r])) (h:LM w W0 W bv g0 g L2):MrI w W0 bv g0 ps sp (.int .i64 ((k:Int)+1)) W:=by
 subst e2
 refine⟨k+1,out ++ [(r.a,dec0 r,dec1 r)],g,_,⟨by go_num,(List.getElem?_eq_some_iff.1 hr).1⟩,⟨?_,by simp;omega⟩,⟨?_,?_,?_⟩,h⟩
 · rw [←hmk.1,drop_at hr,mkp_add' hi hn]
 · rw [putL_else _ _ (by omega),putL_else _ _ (by omega),putL_at,hL.1];simp
 · rw [putL_else _ _ (by omega),putL_at,hL.2.1];simp
 · rw [putL_at,hL.2.2];simp
theorem mr_idle {w W0 W:World} {bv g0 g:Nat→Value} {L:Nat→List Int} {ps:List Uc.Pr} {sp:Nat→List Pq.Sp} {k:Nat} {r:Uc.Pr} {out:List (Int×Int×Int)} (hr:ps[k]? = some r) (hi:idle (sp 0) ps r)
 (hmk:mkP (sp 0) ps out (ps.drop k)=mkP (sp 0) ps [] ps∧out.length≤k) (hL:(L 7=out.map fun x=>x.1)∧(L 8=out.map fun x=>x.2.1)∧(L 9=out.map fun x=>x.2.2)) (h:LM w W0 W bv g0 g L):MrI w W0 bv g0 ps sp (.int .i64 ((k:Int)+1)) W:=
 ⟨k+1,out,g,L,⟨by go_num,(List.getElem?_eq_some_iff.1 hr).1⟩,⟨by rw [←hmk.1,drop_at hr,mkp_idle' hi],by omega⟩,hL,h⟩
theorem grow_cell' {W w3:World} {ob:Obj} {row:Option Nat} {R i:Nat} {v:Value} (hg:((W.alloc ob).drew).grownBy w3 row) (hR:R<W.heap.size) (hne:row≠some R) (hc:W.cell? ⟨R,i,none⟩=some v):w3.cell? ⟨R,i,none⟩=some v:=by
 have e:=hg.block R (by simp [World.drew];omega) (fun e=>hne e.symm)
 exact (World.cell?_of_block (a:=⟨R,i,none⟩) (e.trans (Below.heap_alloc W ob R hR))).trans hc
theorem grow_frozen' {W w3:World} {ob:Obj} {row:Option Nat} {R i:Nat} (hg:((W.alloc ob).drew).grownBy w3 row) (hR:R<W.heap.size) (hne:row≠some R) (hc:W.frozen? ⟨R,i,none⟩=false):w3.frozen? ⟨R,i,none⟩=false:=by
 have e:=hg.block R (by simp [World.drew];omega) (fun e=>hne e.symm)
 exact (World.frozen?_of_block (a:=⟨R,i,none⟩) (e.trans (Below.heap_alloc W ob R hR))).trans hc
end Go.Proofs.YtmellioacefjjaaGreatDoor
