/- A part. -/
import Derived.Test.YtmellioacefjjaaGreatDoorQA01
import Derived.Shelf.Abstract
namespace Go.Proofs.YtmellioacefjjaaGreatDoor
open Go.RowKit
def Hold (A:World→Nat→Prop) (W W':World):Prop:=W.heap.size≤W'.heap.size∧∀ k,A W k→k<W.heap.size→W'.heap[k]? = W.heap[k]? ∧ A W' k
theorem Hold.refl (A:World→Nat→Prop) (W:World):Hold A W W:=⟨Nat.le_refl _,fun _ h _=>⟨rfl,h⟩⟩
theorem Hold.trans {A:World→Nat→Prop} {W W1 W2:World} (h:Hold A W W1) (k:Hold A W1 W2):Hold A W W2:=
 ⟨Nat.le_trans h.1 k.1,fun i hA hi=>have a:=h.2 i hA hi;have b:=k.2 i a.2 (Nat.lt_of_lt_of_le hi h.1);⟨b.1.trans a.1,b.2⟩⟩
def Lets (A:World→Nat→Prop):Prop:=∀ W W' row k,A W k→W.grownBy W' row→(∀ r,row=some r→∃ o:Obj,W.heap[r]? = some o∧o.isCells=false)→A W' k
theorem grown_below {w w':World} (h:Below w.heap.size w w'):w.grownBy w' none:=⟨h.os,h.tape,h.output,h.size,fun k hk _=>h.block k hk⟩
theorem Lets.below {A:World→Nat→Prop} (h:Lets A) {W W':World} {k:Nat} (ha:A W k) (hb:Below W.heap.size W W'):A W' k:=h W W' none k ha (grown_below hb) (fun r e=>by cases e)
theorem Lets.put {A:World→Nat→Prop} (h:Lets A) {W:World} {k l:Nat} {o o':Obj} (ha:A W k) (hl:W.heap[l]? = some o) (ho:o.isCells=false):A (W.putObj l o') k:=h W _ (some l) k ha (grownBy_putObj' W l o') (fun r e=>by cases e;exact⟨o,hl,ho⟩)
theorem Hold.of_below {A:World→Nat→Prop} (hL:Lets A) {W W':World} (h:Below W.heap.size W W'):Hold A W W':=⟨h.size,fun k ha hk=>⟨h.block k hk,hL.below ha h⟩⟩
theorem Hold.put {A:World→Nat→Prop} (hL:Lets A) {W:World} {l:Nat} {o o':Obj} (hl:W.heap[l]? = some o) (ho:o.isCells=false):Hold (fun W k=>A W k∧k≠l) W (W.putObj l o'):=
 ⟨(grownBy_putObj' W l o').size,fun _ ha _=>⟨World.putObj_heap_other ha.2,hL.put ha.1 hl ho,ha.2⟩⟩
theorem Hold.cell {A:World→Nat→Prop} {W W':World} {a:Addr} {v:Value} (h:Hold A W W') (hA:A W a.block) (hc:W.cell? a=some v):W'.cell? a=some v:=by
 obtain⟨o,ho,_⟩:=cells_of_cell hc
 exact (World.cell?_of_block (h.2 _ hA (Array.getElem?_eq_some_iff.1 ho).1).1).trans hc
theorem Lets.and {A:World→Nat→Prop} (h:Lets A) (p:Nat→Prop):Lets (fun W k=>A W k∧p k):=fun W W' row k ha hg hr=>⟨h W W' row k ha.1 hg hr,ha.2⟩
theorem Lets.abide {A:World→Nat→Prop} {β:Type} (h:Lets A) (k B:Nat):Abide 0 0 B (fun (_:β) W=>A W k):=fun _ W W' row ha hg hr=>h W W' row k ha hg (fun r e=>(hr r e).elim (fun h=>absurd h.2 (by omega)) (fun h=>h.2))
def SeqFree {α:Type} (F:Fence) (n:Nat) (P:Program) (g:Nat) (lb:Array Value) (encs:α → Array Value) (Rd:α → World→Prop) (A:World→Nat→Prop) (S Sp:List α → Prop) (N:Nat) (w:World):Prop:=
 ∀ (l:Nat) (J Jx:List α → World→Prop) (W:World),Below w.heap.size w W→W.heap.size=w.heap.size+2→Abide 0 0 W.heap.size J→Abide 0 0 W.heap.size Jx→(∀ s W,J s W→∀ k,W.heap.size≤k→A W k) →
  (∀ pre x W1,J pre W1→Rd x W1→pre.length<N→YieldAt F (n-1) P l (encs x) W1 fun e W'=>
   ((e=.returned (.bool true)∧J (pre ++ [x]) W')∨(e=.returned (.bool false)∧Jx (pre ++ [x]) W'))∧Hold (fun W k=>A W k∧k≠w.heap.size∧k≠w.heap.size+1) W1 W') →
  J [] W →
  CallsIn F n P g (#[.func (.yield l) #[] #[]]++lb) W fun e W'=>(∃ v,e=.returned v)∧((∃ xs,S xs∧J xs W')∨(∃ pre,Sp pre∧Jx pre W'))
def freeEnd {α:Type} (A:World→Nat→Prop) (I:List α → World→Prop) (Ix:Code→List α → World→Prop) (xs:List α) (W:World):Exit→Act→World→Prop
 | .normal,_,W'=>Hold A W W'∧I xs W'
 | .ret,_,W'=>Hold A W W'∧Ix .ret xs W'
 | .exit id,_,W'=>Hold A W W'∧Ix (.exit id) xs W'
 | .goto t,_,W'=>Hold A W W'∧Ix (.goto t) xs W'
 | .panic _,_,_=>False
 | .outgrown,_,_=>False
theorem Book.hold {lo:Nat} {r:Loop} {A:World→Nat→Prop} {W W':World} (h:Book lo r W) (hk:Hold A W W') (h0:A W lo) (h1:A W (lo+1)):Book lo r W'∧A W' lo∧A W' (lo+1):=
 have a:=hk.2 _ h1 (Array.getElem?_eq_some_iff.1 h.1).1
 have b:=hk.2 _ h0 (Array.getElem?_eq_some_iff.1 h.2).1
 ⟨⟨a.1.trans h.1,b.1.trans h.2⟩,b.2,a.2⟩
theorem range_free {F:Fence} {n:Nat} {P:Program} {α:Type} {g:Operand} {ps:Array Tmp} {assign body:Code} {Q:Exit→Act→World→Prop} {a:Act} {w:World}
 (hro:F.round=none) (hn:1≤n) {gf:Nat} {lb:Array Value} (hg:a.eval g=.func (.func gf) #[] lb) (hFg:F.fn gf) (eg:∀ args w,(callFunc gf args).run P w=.ok (.enter gf args) w)
 {encs:α → Array Value} {Rd:α → World→Prop} {A:World→Nat→Prop} {S Sp:List α → Prop} {N:Nat} (hseq:SeqFree F (n-1) P gf lb encs Rd A S Sp N w)
 (hL:Lets A) (hps:∀ x,(encs x).size=ps.size) (hRd:∀ x,Abide 0 0 w.heap.size (fun (_:Unit) W=>Rd x W))
 (I:List α → World→Prop) (Ix:Code→List α → World→Prop) (hI:Abide 0 0 w.heap.size I) (hIx:∀ c,Abide 0 0 w.heap.size (Ix c)) (hfr:∀ s W,I s W→∀ k,W.heap.size≤k→A W k) (h0:I [] w) (Ax:α → Act→World→Prop) (hAx:∀ x a',Abide 0 0 w.heap.size (fun (_:Unit) W=>Ax x a' W))
 (hassign:∀ (l:Nat) (pre:List α) (x:α) (W:World) (K:Act→World→Prop),I pre W→Rd x W→(∀ a' W',Hold A W W'→I pre W'→Rd x W'→Ax x a' W'→K a' W') →
  assign.wpIn (F.inRound l) (n-1-1) P (Exit.then K (fun _ _ _=>False)) { tmps:=(ps.zip (encs x)).foldl (fun t (p,v)=>t.setIfInBounds p v) a.tmps,defers:=[] } W)
 (hbody:∀ (l:Nat) (pre:List α) (x:α) (a':Act) (W:World),I pre W→Rd x W→Ax x a' W→pre.length<N→body.wpIn (F.inRound l) (n-1-1) P (freeEnd A I Ix (pre ++ [x]) W) a' W)
 (hdone:∀ (D:Nat) (xs:List α) (W:World),w.heap.size≤D→S xs→I xs W→W.heap[D]? = some (.deferred (some []))→Q .normal { a with defers:={ target:=.collected D,args:=#[] } :: a.defers } W)
 (hstop:∀ (D:Nat) (c:Code) (pre:List α) (W:World),w.heap.size≤D→Sp pre→Ix c pre W→W.heap[D]? = some (.deferred (some []))→c.wpIn F n P Q { a with defers:={ target:=.collected D,args:=#[] } :: a.defers } W):
 (Code.rangeFunc g ps assign body).wpIn F n P Q a w:=by
 refine wpIn_rangeFunc fun fn hfn=>?_
 rw [hro]
 generalize hlo:w.heap.size=lo at *
 have mk:∀ st pe,∃ r:Loop,r = { state:=st,pending:=pe,fn:=fn,tmps:=a.tmps,params:=ps,assign:=assign,body:=body,defers:=lo }:=fun _ _=>⟨_,rfl⟩
 obtain⟨r0,e0⟩:=mk .ready none
 have hbk:Book lo r0 ((w.alloc (.deferred (some []))).alloc (.loop r0)):=by
  have h1:=World.alloc_heap_new (w.alloc (.deferred (some []))) (.loop r0)
  rw [World.size_alloc,hlo] at h1
  have h2:=World.alloc_heap_new w (.deferred (some []))
  rw [hlo] at h2
  exact⟨h1,(Below.heap_alloc _ _ _ (by rw [World.size_alloc,hlo];omega)).trans h2⟩
 have hbw:Below w.heap.size w ((w.alloc (.deferred (some []))).alloc (.loop r0)):=((Below.refl _ w).alloc (Nat.le_refl _) _).alloc (by simp) _
 have hI1:I [] ((w.alloc (.deferred (some []))).alloc (.loop r0)):=hI.below h0 hbw
 have hA0:A ((w.alloc (.deferred (some []))).alloc (.loop r0)) lo:=hL.below (hfr _ _ h0 lo (by omega)) hbw
 have hA1:A ((w.alloc (.deferred (some []))).alloc (.loop r0)) (lo+1):=hL.below (hfr _ _ h0 (lo+1) (by omega)) hbw
 have hsz:((w.alloc (.deferred (some []))).alloc (.loop r0)).heap.size=lo+2:=by rw [World.size_alloc,World.size_alloc,hlo]
 have hent:(Instr.enterLoop fn a.tmps ps assign body none).run P w=.ok (lo+1,[{ target:=.collected lo,args:=#[] }]) ((w.alloc (.deferred (some []))).alloc (.loop r0)):=by
  rw [e0,←hlo];exact run_enterLoop_outer _ _ _ _ _
 generalize (w.alloc (.deferred (some []))).alloc (.loop r0)=W1 at hbk hbw hI1 hsz hent hA0 hA1
 refine⟨lo+1,_,W1,{ target:=.fn (.func gf) lb,args:=#[.func (.yield (lo+1)) #[] #[]] },W1,gf,#[.func (.yield (lo+1)) #[] #[]]++lb,W1,hent,?_,?_,?_,fun _=>hn,?_⟩
 · simp only [resolve,hg]
   simp [go_sem]
 · intro f' hf'
   simp [Target.leads] at hf'
   subst hf'
   exact hFg
 · simp [invoke,go_sem,eg]
 have hmn:∀ r,0≤r→r<0→0≤r∧r<0:=fun _ h h'=>⟨h,h'⟩
 have hle:lo≤W1.heap.size:=by omega
 have hs1:=hseq (lo+1) (fun pre W=>I pre W∧(Book lo r0 W∧(A W lo∧A W (lo+1)))) (fun pre W=>∃ c,Ix c pre W∧Book lo { r0 with state:=.done,pending:=some c } W) W1 hbw (by rw [hsz,hlo])
  ((hI.mono hmn hle).and ((Book.abide (Nat.zero_le _) (by omega) r0).and ((hL.abide lo _).and (hL.abide (lo+1) _))))
  (fun s X Y row hs hg hr=>by
   obtain⟨c,h1,h2⟩:=hs
   exact⟨c,(hIx c).mono hmn hle s X Y row h1 hg hr,Book.abide (β:=Unit) (Nat.zero_le _) (by omega) _ () X Y row h2 hg hr⟩) (fun s W hs=>hfr s W hs.1) ?_ ⟨hI1,hbk,hA0,hA1⟩
 · refine hs1.mono ?_
   rintro e W2 ⟨⟨v,rfl⟩,(⟨xs,hS,hi,hb,-⟩ | ⟨pre,hSp,c,hi,hb⟩)⟩
   · have he:=run_endLoop (P:=P) hb.1 (by rw [e0];simp)
     refine⟨none,_,by rw [he,e0],hdone lo xs _ (Nat.le_refl _) hS (hI.put hi (by omega) hb.1 rfl) (hb.put _).2⟩
   · have he:=run_endLoop (P:=P) hb.1 (by simp)
     exact⟨some c,_,he,hstop lo c pre _ (Nat.le_refl _) hSp ((hIx c).put hi (by omega) hb.1 rfl) (hb.put _).2⟩
 · rintro pre x W ⟨hi,hb,ha0,ha1⟩ hrd hlen
   have hy:=run_yield (P:=P) (args:=encs x) hb.1 (by rw [e0];exact hps x)
   refine⟨fn,_,assign,body,by rw [hy,e0],roundIn_of_wpIn hfn ?_⟩
   refine hassign _ pre x W _ hi hrd ?_
   intro a' Wa hka hia hrda hax
   obtain⟨hba,hc0,hc1⟩:=hb.hold hka ha0 ha1
   refine⟨_,run_beginRound hba.1 (by rw [e0]),?_⟩
   have hbb:=hba.put { r0 with state:=.busy }
   have low:∀ {X Y:World},Hold (fun W k=>A W k) X Y→Hold (fun W k=>A W k∧k≠lo∧k≠lo+1) X Y:=fun h=>⟨h.1,fun k ha hk=>have q:=h.2 k ha.1 hk;⟨q.1,q.2,ha.2⟩⟩
   have kput:∀ {X:World} {o':Obj},(∃ o:Obj,X.heap[lo+1]? = some o∧o.isCells=false)→Hold (fun W k=>A W k∧k≠lo∧k≠lo+1) X (X.putObj (lo+1) o'):=fun {X o'} ⟨o,h1,h2⟩=>
    have q:=Hold.put (A:=A) (o':=o') hL h1 h2
    ⟨q.1,fun k ha hk=>have p:=q.2 k ⟨ha.1,ha.2.2⟩ hk;⟨p.1,p.2.1,ha.2⟩⟩
   have kb:Hold (fun W k=>A W k∧k≠lo∧k≠lo+1) W (Wa.putObj (lo+1) (.loop { r0 with state:=.busy })):=(low hka).trans (kput ⟨_,hba.1,rfl⟩)
   have hd0:A (Wa.putObj (lo+1) (.loop { r0 with state:=.busy })) lo:=hL.put hc0 hba.1 rfl
   have hd1:A (Wa.putObj (lo+1) (.loop { r0 with state:=.busy })) (lo+1):=hL.put hc1 hba.1 rfl
   rw [hlo]
   refine wpIn_mono (hbody (lo+1) pre x a' _ (hI.put hia (by omega) hba.1 rfl) ((hRd x).put (s:=()) hrda (by omega) hba.1 rfl) ((hAx x a').put (s:=()) hax (by omega) hba.1 rfl) hlen) ?_
   generalize (Wa.putObj (lo+1) (.loop { r0 with state:=.busy }))=Wb at hbb kb hd0 hd1
   have fin:∀ (jump:Option Code) (W3:World),Hold A Wb W3 →
    (Instr.endRound (lo+1) jump).run P W3=.ok (.bool jump.isNone) (W3.putObj (lo+1) (.loop { r0 with state:=if jump.isNone then .ready else .done,pending:=jump })) ∧
    Book lo { r0 with state:=.busy } W3∧Book lo { r0 with state:=if jump.isNone then .ready else .done,pending:=jump } (W3.putObj (lo+1) (.loop { r0 with state:=if jump.isNone then .ready else .done,pending:=jump })) ∧
    Hold (fun W k=>A W k∧k≠lo∧k≠lo+1) W (W3.putObj (lo+1) (.loop { r0 with state:=if jump.isNone then .ready else .done,pending:=jump })) ∧
    A (W3.putObj (lo+1) (.loop { r0 with state:=if jump.isNone then .ready else .done,pending:=jump })) lo∧A (W3.putObj (lo+1) (.loop { r0 with state:=if jump.isNone then .ready else .done,pending:=jump })) (lo+1):=by
    intro jump W3 hk3
    obtain⟨hb3,q0,q1⟩:=hbb.hold hk3 hd0 hd1
    exact⟨run_endRound (P:=P) (r:={ r0 with state:=.busy }) jump hb3.1,hb3,hb3.put _,(kb.trans (low hk3)).trans (kput ⟨_,hb3.1,rfl⟩),hL.put q0 hb3.1 rfl,hL.put q1 hb3.1 rfl⟩
   rintro e a3 W3 hp
   cases e with
   | normal=>
    obtain⟨hk3,hi3⟩:=hp
    obtain⟨hr,hl3,hl4,hk4,q0,q1⟩:=fin none W3 hk3
    have e1:({ r0 with state:=if (none:Option Code).isNone then .ready else .done,pending:=none }:Loop)=r0:=by rw [e0];rfl
    refine⟨_,_,hr,.inl ⟨rfl,hI.put hi3 (by omega) hl3.1 rfl,?_,q0,q1⟩,hk4⟩
    rw [e1] at hl4 ⊢
    exact hl4
   | ret=>
    obtain⟨hk3,hi3⟩:=hp
    obtain⟨hr,hl3,hl4,hk4,-⟩:=fin (some .ret) W3 hk3
    exact⟨_,_,hr,.inr ⟨rfl,.ret,(hIx _).put hi3 (by omega) hl3.1 rfl,hl4⟩,hk4⟩
   | exit id=>
    obtain⟨hk3,hi3⟩:=hp
    obtain⟨hr,hl3,hl4,hk4,-⟩:=fin (some (.exit id)) W3 hk3
    exact⟨_,_,hr,.inr ⟨rfl,.exit id,(hIx _).put hi3 (by omega) hl3.1 rfl,hl4⟩,hk4⟩
   | goto t=>
    obtain⟨hk3,hi3⟩:=hp
    obtain⟨hr,hl3,hl4,hk4,-⟩:=fin (some (.goto t)) W3 hk3
    exact⟨_,_,hr,.inr ⟨rfl,.goto t,(hIx _).put hi3 (by omega) hl3.1 rfl,hl4⟩,hk4⟩
   | panic ch=>exact hp.elim
   | outgrown=>exact hp.elim
theorem range_free1 {F:Fence} {n:Nat} {P:Program} {α:Type} {g:Operand} {ps:Array Tmp} {assign body:Code} {Q:Exit→Act→World→Prop} {a:Act} {w:World}
 (hro:F.round=none) (hn:1≤n) {gf:Nat} {lb:Array Value} (hg:a.eval g=.func (.func gf) #[] lb) (hFg:F.fn gf) (eg:∀ args w,(callFunc gf args).run P w=.ok (.enter gf args) w)
 {encs:α → Array Value} {Rd:α → World→Prop} {A:World→Nat→Prop} {S Sp:List α → Prop} {N:Nat} (hseq:SeqFree F (n-1) P gf lb encs Rd A S Sp N w)
 (hL:Lets A) (hps:∀ x,(encs x).size=ps.size) (hRd:∀ x,Abide 0 0 w.heap.size (fun (_:Unit) W=>Rd x W))
 (I:List α → World→Prop) (Ix:Code→List α → World→Prop) (hI:Abide 0 0 w.heap.size I) (hIx:∀ c,Abide 0 0 w.heap.size (Ix c)) (hfr:∀ s W,I s W→∀ k,W.heap.size≤k→A W k) (h0:I [] w) (a₁:α → Act)
 (hassign:∀ (l:Nat) (x:α) (W:World) (K:Act→World→Prop),K (a₁ x) W →
  assign.wpIn (F.inRound l) (n-1-1) P (Exit.then K (fun _ _ _=>False)) { tmps:=(ps.zip (encs x)).foldl (fun t (p,v)=>t.setIfInBounds p v) a.tmps,defers:=[] } W)
 (hbody:∀ (l:Nat) (pre:List α) (x:α) (W:World),I pre W→Rd x W→pre.length<N→body.wpIn (F.inRound l) (n-1-1) P (freeEnd A I Ix (pre ++ [x]) W) (a₁ x) W)
 (hdone:∀ (D:Nat) (xs:List α) (W:World),w.heap.size≤D→S xs→I xs W→W.heap[D]? = some (.deferred (some []))→Q .normal { a with defers:={ target:=.collected D,args:=#[] } :: a.defers } W)
 (hstop:∀ (D:Nat) (c:Code) (pre:List α) (W:World),w.heap.size≤D→Sp pre→Ix c pre W→W.heap[D]? = some (.deferred (some []))→c.wpIn F n P Q { a with defers:={ target:=.collected D,args:=#[] } :: a.defers } W):
 (Code.rangeFunc g ps assign body).wpIn F n P Q a w:=
 range_free hro hn hg hFg eg hseq hL hps hRd I Ix hI hIx hfr h0 (fun x a' _=>a'=a₁ x) (fun x a'=>Abide.pure _ _ _ _) (fun l pre x W K hi hr h=>hassign l x W K (h _ _ (Hold.refl _ _) hi hr rfl))
  (fun l pre x a' W hi hr e hl=>by rw [e];exact hbody l pre x W hi hr hl) hdone hstop
theorem range_free2 {F:Fence} {n:Nat} {P:Program} {α:Type} {g:Operand} {ps:Array Tmp} {assign body:Code} {Q:Exit→Act→World→Prop} {a:Act} {w:World}
 (hro:F.round=none) (hn:1≤n) {gf:Nat} {lb:Array Value} (hg:a.eval g=.func (.func gf) #[] lb) (hFg:F.fn gf) (eg:∀ args w,(callFunc gf args).run P w=.ok (.enter gf args) w)
 {encs:α → Array Value} {Rd:α → World→Prop} {A:World→Nat→Prop} {S Sp:List α → Prop} {N:Nat} (hseq:SeqFree F (n-1) P gf lb encs Rd A S Sp N w)
 (hL:Lets A) (hps:∀ x,(encs x).size=ps.size) (hRd:∀ x,Abide 0 0 w.heap.size (fun (_:Unit) W=>Rd x W))
 (I:List α → World→Prop) (Ix:Code→List α → World→Prop) (hI:Abide 0 0 w.heap.size I) (hIx:∀ c,Abide 0 0 w.heap.size (Ix c)) (hfr:∀ s W,I s W→∀ k,W.heap.size≤k→A W k) (h0:I [] w) (Cx:α → Nat→World→Prop) (hCx:∀ x b,Abide 0 0 w.heap.size (fun (_:Unit) W=>Cx x b W)) (a₁:α → Nat→Act)
 (hassign:∀ (l:Nat) (pre:List α) (x:α) (W:World) (K:Act→World→Prop),I pre W→Rd x W→(∀ b W',Hold A W W'→I pre W'→Rd x W'→Cx x b W'→K (a₁ x b) W') →
  assign.wpIn (F.inRound l) (n-1-1) P (Exit.then K (fun _ _ _=>False)) { tmps:=(ps.zip (encs x)).foldl (fun t (p,v)=>t.setIfInBounds p v) a.tmps,defers:=[] } W)
 (hbody:∀ (l:Nat) (pre:List α) (x:α) (b:Nat) (W:World),I pre W→Rd x W→Cx x b W→pre.length<N→body.wpIn (F.inRound l) (n-1-1) P (freeEnd A I Ix (pre ++ [x]) W) (a₁ x b) W)
 (hdone:∀ (D:Nat) (xs:List α) (W:World),w.heap.size≤D→S xs→I xs W→W.heap[D]? = some (.deferred (some []))→Q .normal { a with defers:={ target:=.collected D,args:=#[] } :: a.defers } W)
 (hstop:∀ (D:Nat) (c:Code) (pre:List α) (W:World),w.heap.size≤D→Sp pre→Ix c pre W→W.heap[D]? = some (.deferred (some []))→c.wpIn F n P Q { a with defers:={ target:=.collected D,args:=#[] } :: a.defers } W):
 (Code.rangeFunc g ps assign body).wpIn F n P Q a w:=
 range_free hro hn hg hFg eg hseq hL hps hRd I Ix hI hIx hfr h0 (fun x a' W=>∃ b,a'=a₁ x b∧Cx x b W)
  (fun x a' s W W' row hs hg hr=>by obtain⟨b,e,h⟩:=hs;exact⟨b,e,hCx x b () W W' row h hg hr⟩)
  (fun l pre x W K hi hr h=>hassign l pre x W K hi hr (fun b W' hk hi' hr' hc=>h _ W' hk hi' hr' ⟨b,rfl,hc⟩))
  (fun l pre x a' W hi hr e hl=>by obtain⟨b,rfl,hc⟩:=e;exact hbody l pre x b W hi hr hc hl) hdone hstop
end Go.Proofs.YtmellioacefjjaaGreatDoor
