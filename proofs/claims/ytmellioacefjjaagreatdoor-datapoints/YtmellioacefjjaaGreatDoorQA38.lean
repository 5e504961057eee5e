/- A part. -/
import Derived.Test.YtmellioacefjjaaGreatDoorQA37
namespace Go.Proofs.YtmellioacefjjaaGreatDoor
open Go.RowKit
def SeqNf {α:Type} (F:Fence) (n:Nat) (P:Program) (g:Nat) (lb:Array Value) (encs:α → Array Value) (Rd:World → α → World→Prop) (A:Nat→Prop) (n₀ n₁:Nat) (S Sp:List α → Prop) (Nx:List α → α → Prop) (w:World):Prop:=
 ∀ (l:Nat) (J Jx:List α → World→Prop) (W:World),Below w.heap.size w W→W.heap.size=w.heap.size+2→Abide n₀ n₁ W.heap.size J→Abide n₀ n₁ W.heap.size Jx →
  (∀ pre x W0 W1,J pre W0→Below W0.heap.size W0 W1→Rd W0 x W1→Nx pre x→YieldAt F (n-1) P l (encs x) W1 fun e W'=>
   ((e=.returned (.bool true)∧J (pre ++ [x]) W')∨(e=.returned (.bool false)∧Jx (pre ++ [x]) W'))∧Kept (fun k=>A k∧k≠w.heap.size∧k≠w.heap.size+1) W1 W') →
  J [] W →
  CallsIn F n P g (#[.func (.yield l) #[] #[]]++lb) W fun e W'=>(∃ v,e=.returned v)∧((∃ xs,S xs∧J xs W')∨(∃ pre,Sp pre∧Jx pre W'))
theorem range_nf {F:Fence} {n:Nat} {P:Program} {α:Type} {g:Operand} {ps:Array Tmp} {assign body:Code} {Q:Exit→Act→World→Prop} {a:Act} {w:World}
 (hro:F.round=none) (hn:1≤n) {gf:Nat} {lb:Array Value} (hg:a.eval g=.func (.func gf) #[] lb) (hFg:F.fn gf) (eg:∀ args w,(callFunc gf args).run P w=.ok (.enter gf args) w)
 {encs:α → Array Value} {Rd:World → α → World→Prop} {A:Nat→Prop} {n₀ n₁:Nat} {S Sp:List α → Prop} {Nx:List α → α → Prop} (hseq:SeqNf F (n-1) P gf lb encs Rd A n₀ n₁ S Sp Nx w)
 (hn₁:n₁ ≤ w.heap.size) (hA0:A w.heap.size) (hA1:A (w.heap.size+1)) (hps:∀ x,(encs x).size=ps.size)
 (I:List α → World→Prop) (Y:List α → α → World→Prop) (hfr:∀ pre x W0 W,I pre W0→Below W0.heap.size W0 W→Rd W0 x W→Y pre x W) (hY:∀ pre x,Abide n₀ n₁ w.heap.size (fun (_:Unit) W=>Y pre x W)) (Ix:Code→List α → World→Prop) (hI:Abide n₀ n₁ w.heap.size I) (hIx:∀ c,Abide n₀ n₁ w.heap.size (Ix c)) (h0:I [] w) (Ax:α → Act→World→Prop) (hAx:∀ x a',Abide n₀ n₁ w.heap.size (fun (_:Unit) W=>Ax x a' W))
 (hassign:∀ (l:Nat) (pre:List α) (x:α) (W:World) (K:Act→World→Prop),Y pre x W→(∀ a' W',Kept A W W'→Y pre x W'→Ax x a' W'→K a' W') →
  assign.wpIn (F.inRound l) (n-1-1) P (Exit.then K (fun _ _ _=>False)) { tmps:=(ps.zip (encs x)).foldl (fun t (p,v)=>t.setIfInBounds p v) a.tmps,defers:=[] } W)
 (hbody:∀ (l:Nat) (pre:List α) (x:α) (a':Act) (W:World),Y pre x W→Ax x a' W→Nx pre x→body.wpIn (F.inRound l) (n-1-1) P (roundEnd A I Ix (pre ++ [x]) W) a' W)
 (hdone:∀ (D:Nat) (xs:List α) (W:World),w.heap.size≤D→S xs→I xs W→W.heap[D]? = some (.deferred (some []))→Q .normal { a with defers:={ target:=.collected D,args:=#[] } :: a.defers } W)
 (hstop:∀ (D:Nat) (c:Code) (pre:List α) (W:World),w.heap.size≤D→Sp pre→Ix c pre W→W.heap[D]? = some (.deferred (some []))→c.wpIn F n P Q { a with defers:={ target:=.collected D,args:=#[] } :: a.defers } W):
 (Code.rangeFunc g ps assign body).wpIn F n P Q a w:=by
 refine wpIn_rangeFunc fun fn hfn=>?_
 rw [hro]
 generalize hlo:w.heap.size=lo at *
 have mk:∀ st pe,∃ r:Loop,r = { state:=st,pending:=pe,fn:=fn,tmps:=a.tmps,params:=ps,assign:=assign,body:=body,defers:=lo }:=fun _ _=>⟨_,rfl⟩
 obtain⟨r0,e0⟩:=mk .ready none
 have hbk:Book lo r0 ((w.alloc (.deferred (some []))).alloc (.loop r0)):=by
  have h1:=World.alloc_heap_new (w.alloc (.deferred (some []))) (.loop r0)
  rw [World.size_alloc,hlo] at h1
  have h2:=World.alloc_heap_new w (.deferred (some []))
  rw [hlo] at h2
  exact⟨h1,(Below.heap_alloc _ _ _ (by rw [World.size_alloc,hlo];omega)).trans h2⟩
 have hbw:Below w.heap.size w ((w.alloc (.deferred (some []))).alloc (.loop r0)):=((Below.refl _ w).alloc (Nat.le_refl _) _).alloc (by simp) _
 have hI1:I [] ((w.alloc (.deferred (some []))).alloc (.loop r0)):=hI.below h0 hbw
 have hsz:((w.alloc (.deferred (some []))).alloc (.loop r0)).heap.size=lo+2:=by rw [World.size_alloc,World.size_alloc,hlo]
 have hent:(Instr.enterLoop fn a.tmps ps assign body none).run P w=.ok (lo+1,[{ target:=.collected lo,args:=#[] }]) ((w.alloc (.deferred (some []))).alloc (.loop r0)):=by
  rw [e0,←hlo];exact run_enterLoop_outer _ _ _ _ _
 generalize (w.alloc (.deferred (some []))).alloc (.loop r0)=W1 at hbk hbw hI1 hsz hent
 refine⟨lo+1,_,W1,{ target:=.fn (.func gf) lb,args:=#[.func (.yield (lo+1)) #[] #[]] },W1,gf,#[.func (.yield (lo+1)) #[] #[]]++lb,W1,hent,?_,?_,?_,fun _=>hn,?_⟩
 · simp only [resolve,hg]
   simp [go_sem]
 · intro f' hf'
   simp [Target.leads] at hf'
   subst hf'
   exact hFg
 · simp [invoke,go_sem,eg]
 have hmn:∀ r,n₀ ≤ r→r<n₁ → n₀ ≤ r∧r<n₁:=fun _ h h'=>⟨h,h'⟩
 have hle:lo≤W1.heap.size:=by omega
 have hs1:=hseq (lo+1) (fun pre W=>I pre W∧Book lo r0 W) (fun pre W=>∃ c,Ix c pre W∧Book lo { r0 with state:=.done,pending:=some c } W) W1 hbw (by rw [hsz,hlo])
  ((hI.mono hmn hle).and (Book.abide hn₁ (by omega) r0))
  (fun s X Y row hs hg hr=>by
   obtain⟨c,h1,h2⟩:=hs
   exact⟨c,(hIx c).mono hmn hle s X Y row h1 hg hr,Book.abide (β:=Unit) hn₁ (by omega) _ () X Y row h2 hg hr⟩) ?_ ⟨hI1,hbk⟩
 · refine hs1.mono ?_
   rintro e W2 ⟨⟨v,rfl⟩,(⟨xs,hS,hi,hb⟩ | ⟨pre,hSp,c,hi,hb⟩)⟩
   · have he:=run_endLoop (P:=P) hb.1 (by rw [e0];simp)
     refine⟨none,_,by rw [he,e0],hdone lo xs _ (Nat.le_refl _) hS (hI.put hi (by omega) hb.1 rfl) (hb.put _).2⟩
   · have he:=run_endLoop (P:=P) hb.1 (by simp)
     exact⟨some c,_,he,hstop lo c pre _ (Nat.le_refl _) hSp ((hIx c).put hi (by omega) hb.1 rfl) (hb.put _).2⟩
 · rintro pre x W0 W ⟨hi0,hb0⟩ hbel hrd hlen
   have hi:=hfr pre x W0 W hi0 hbel hrd
   have hb:=hb0.kept (A:=fun _=>True) (Kept.of_below hbel) trivial trivial
   have hy:=run_yield (P:=P) (args:=encs x) hb.1 (by rw [e0];exact hps x)
   refine⟨fn,_,assign,body,by rw [hy,e0],roundIn_of_wpIn hfn ?_⟩
   refine hassign _ pre x W _ hi ?_
   intro a' Wa hka hia hax
   have hba:=hb.kept hka hA0 hA1
   refine⟨_,run_beginRound hba.1 (by rw [e0]),?_⟩
   have hbb:=hba.put { r0 with state:=.busy }
   have kp:Kept (fun k=>A k∧k≠w.heap.size∧k≠w.heap.size+1) Wa (Wa.putObj (lo+1) (.loop { r0 with state:=.busy })):=Kept.putObj _ _ _ (by rw [hlo];omega)
   have kw:Kept (fun k=>A k∧k≠w.heap.size∧k≠w.heap.size+1) W Wa:=hka.mono (fun _ h=>h.1)
   have kb:=kw.trans kp
   refine wpIn_mono (hbody (lo+1) pre x a' _ ((hY pre x).put (s:=()) hia (by omega) hba.1 rfl) ((hAx x a').put (s:=()) hax (by omega) hba.1 rfl) hlen) ?_
   generalize (Wa.putObj (lo+1) (.loop { r0 with state:=.busy }))=Wb at hbb kb
   have fin:∀ (jump:Option Code) (W3:World),Kept A Wb W3 →
    (Instr.endRound (lo+1) jump).run P W3=.ok (.bool jump.isNone) (W3.putObj (lo+1) (.loop { r0 with state:=if jump.isNone then .ready else .done,pending:=jump })) ∧
    Book lo { r0 with state:=.busy } W3∧Book lo { r0 with state:=if jump.isNone then .ready else .done,pending:=jump } (W3.putObj (lo+1) (.loop { r0 with state:=if jump.isNone then .ready else .done,pending:=jump })) ∧
    Kept (fun k=>A k∧k≠w.heap.size∧k≠w.heap.size+1) W (W3.putObj (lo+1) (.loop { r0 with state:=if jump.isNone then .ready else .done,pending:=jump })):=by
    intro jump W3 hk3
    have hb3:=hbb.kept hk3 hA0 hA1
    exact⟨run_endRound (P:=P) (r:={ r0 with state:=.busy }) jump hb3.1,hb3,hb3.put _,(kb.trans (hk3.mono (fun _ h=>h.1))).trans (Kept.putObj _ _ _ (by rw [hlo];omega))⟩
   rintro e a3 W3 hp
   cases e with
   | normal=>
    obtain⟨hk3,hi3⟩:=hp
    obtain⟨hr,hl3,hl4,hk4⟩:=fin none W3 hk3
    refine⟨_,_,hr,.inl ⟨rfl,hI.put hi3 (by omega) hl3.1 rfl,?_⟩,hk4⟩
    have e1:({ r0 with state:=if (none:Option Code).isNone then .ready else .done,pending:=none }:Loop)=r0:=by rw [e0];rfl
    rw [e1] at hl4 ⊢
    exact hl4
   | ret=>
    obtain⟨hk3,hi3⟩:=hp
    obtain⟨hr,hl3,hl4,hk4⟩:=fin (some .ret) W3 hk3
    exact⟨_,_,hr,.inr ⟨rfl,.ret,(hIx _).put hi3 (by omega) hl3.1 rfl,hl4⟩,hk4⟩
   | exit id=>
    obtain⟨hk3,hi3⟩:=hp
    obtain⟨hr,hl3,hl4,hk4⟩:=fin (some (.exit id)) W3 hk3
    exact⟨_,_,hr,.inr ⟨rfl,.exit id,(hIx _).put hi3 (by omega) hl3.1 rfl,hl4⟩,hk4⟩
   | goto t=>
    obtain⟨hk3,hi3⟩:=hp
    obtain⟨hr,hl3,hl4,hk4⟩:=fin (some (.goto t)) W3 hk3
    exact⟨_,_,hr,.inr ⟨rfl,.goto t,(hIx _).put hi3 (by omega) hl3.1 rfl,hl4⟩,hk4⟩
   | panic ch=>exact hp.elim
   | outgrown=>exact hp.elim
theorem range_nf2 {F:Fence} {n:Nat} {P:Program} {α:Type} {g:Operand} {ps:Array Tmp} {assign body:Code} {Q:Exit→Act→World→Prop} {a:Act} {w:World}
 (hro:F.round=none) (hn:1≤n) {gf:Nat} {lb:Array Value} (hg:a.eval g=.func (.func gf) #[] lb) (hFg:F.fn gf) (eg:∀ args w,(callFunc gf args).run P w=.ok (.enter gf args) w)
 {encs:α → Array Value} {Rd:World → α → World→Prop} {A:Nat→Prop} {n₀ n₁:Nat} {S Sp:List α → Prop} {Nx:List α → α → Prop} (hseq:SeqNf F (n-1) P gf lb encs Rd A n₀ n₁ S Sp Nx w)
 (hn₁:n₁ ≤ w.heap.size) (hA0:A w.heap.size) (hA1:A (w.heap.size+1)) (hps:∀ x,(encs x).size=ps.size)
 (I:List α → World→Prop) (Y:List α → α → World→Prop) (hfr:∀ pre x W0 W,I pre W0→Below W0.heap.size W0 W→Rd W0 x W→Y pre x W) (hY:∀ pre x,Abide n₀ n₁ w.heap.size (fun (_:Unit) W=>Y pre x W)) (Ix:Code→List α → World→Prop) (hI:Abide n₀ n₁ w.heap.size I) (hIx:∀ c,Abide n₀ n₁ w.heap.size (Ix c)) (h0:I [] w) (Cx:α → Nat→World→Prop) (hCx:∀ x b,Abide n₀ n₁ w.heap.size (fun (_:Unit) W=>Cx x b W)) (a₁:α → Nat→Act)
 (hassign:∀ (l:Nat) (pre:List α) (x:α) (W:World) (K:Act→World→Prop),Y pre x W→(∀ b W',Kept A W W'→Y pre x W'→Cx x b W'→K (a₁ x b) W') →
  assign.wpIn (F.inRound l) (n-1-1) P (Exit.then K (fun _ _ _=>False)) { tmps:=(ps.zip (encs x)).foldl (fun t (p,v)=>t.setIfInBounds p v) a.tmps,defers:=[] } W)
 (hbody:∀ (l:Nat) (pre:List α) (x:α) (b:Nat) (W:World),Y pre x W→Cx x b W→Nx pre x→body.wpIn (F.inRound l) (n-1-1) P (roundEnd A I Ix (pre ++ [x]) W) (a₁ x b) W)
 (hdone:∀ (D:Nat) (xs:List α) (W:World),w.heap.size≤D→S xs→I xs W→W.heap[D]? = some (.deferred (some []))→Q .normal { a with defers:={ target:=.collected D,args:=#[] } :: a.defers } W)
 (hstop:∀ (D:Nat) (c:Code) (pre:List α) (W:World),w.heap.size≤D→Sp pre→Ix c pre W→W.heap[D]? = some (.deferred (some []))→c.wpIn F n P Q { a with defers:={ target:=.collected D,args:=#[] } :: a.defers } W):
 (Code.rangeFunc g ps assign body).wpIn F n P Q a w:=
 range_nf hro hn hg hFg eg hseq hn₁ hA0 hA1 hps I Y hfr hY Ix hI hIx h0 (fun x a' W=>∃ b,a'=a₁ x b∧Cx x b W)
  (fun x a' s W W' row hs hg hr=>by obtain⟨b,e,h⟩:=hs;exact⟨b,e,hCx x b () W W' row h hg hr⟩)
  (fun l pre x W K hi h=>hassign l pre x W K hi (fun b W' hk hi' hc=>h _ W' hk hi' ⟨b,rfl,hc⟩))
  (fun l pre x a' W hi e hl=>by obtain⟨b,rfl,hc⟩:=e;exact hbody l pre x b W hi hc hl) hdone hstop
end Go.Proofs.YtmellioacefjjaaGreatDoor
namespace Go.Proofs.YtmellioacefjjaaGreatDoor.Uc
open Go.RowKit Go.Shelf
attribute [local go_sem] Oper.semAt_some
def RwRf (N0:Nat) (W0:World) (x:RwP) (W:World):Prop:=Is W x.1 x.2∧N0≤W0.heap.size∧∀ a,x.1.dp=some a→W0.heap.size≤a.block
set_option maxRecDepth 100000 in
set_option maxHeartbeats 4000000 in
theorem fiter25 (m l b n c N0:Nat) (P0:Option Addr) (ls:List Rw) (ps:List Pr) (A:Nat→Prop) (hm:1≤m) (hn:n≤100000) (hdec:∀ p∈ps,p.dec.length≤1000) (J Jx:List RwP→World→Prop)
 (hY:∀ pre x W0 W,J pre W0→Below W0.heap.size W0 W→RwRf N0 W0 x W→NxR ps pre x→YieldAt Fence.wide (m-1) Tryz.prog l (rwArr x) W fun e W'=>
  ((e=.returned (.bool true)∧J (pre ++ [x]) W')∨(e=.returned (.bool false)∧Jx (pre ++ [x]) W'))∧Kept A W W')
 (W:World) (hBs:W.cell? ⟨b,0,none⟩=some (.slice P0 n c)) (hS:RAt W P0 n ls) (hI:Ist W ls ps) (hAb:A b) (hP:0<n→∀ a,P0=some a→A a.block) (hD:∀ t∈ls,0<t.dm→∀ a,t.dp=some a→A a.block) (hN0:N0≤W.heap.size) (h0:J [] W):
 CallsIn Fence.wide m Tryz.prog 53 #[.func (.yield l) #[] #[],.pointer (some ⟨b,0,none⟩)] W fun e W'=>(∃ v,e=.returned v) ∧
  ((∃ ys:List RwP,ys.map Prod.snd=ps∧J ys W')∨(∃ pre:List RwP,pre.map Prod.snd <+: ps∧Jx pre W')):=by
 have HLN:=Lib.hid hI.len
 have HYY:=Lib.hid hY
 have HL:=Lib.hid hS.1
 have HP:=Lib.hid hP
 have HD:=Lib.hid hD
 have HAB:=Lib.hid hAb
 have HDC:=Lib.hid hdec
 have H0:Hid (RVRel ls ps P0 b n c N0 J (.int .i64 (0:Nat)) W):=Lib.hid ⟨0,[],rfl,Nat.zero_le _,⟨rfl,rfl⟩,h0,hS,hI,hBs,hN0⟩
 clear hY hS h0 hP hN0 hD hI hAb hdec
 refine callsIn_of_wp Tryz.func53 rfl trivial ?_ rfl
 simp only [Tryz.ntmps53,List.size_toArray,List.length_cons,List.length_nil,Nat.reduceAdd,Nat.reduceSub,Array.replicate_succ,Array.replicate_zero,List.push_toArray,List.append_toArray,List.nil_append,List.cons_append]
 gi_wp2
 gi_loopw [7] (fun i wr=>RVRel ls ps P0 b n c N0 J i wr) (fun i _=>n-(intOf i).toNat)
 case atStart=>exact H0.out
 case round=>
  clear hBs H0
  obtain⟨k,xs,rfl,hkn,⟨hxs,hxl⟩,hJr,hSr,hIr,hbc,hNr⟩:=hrel
  by_cases hlt:k<n
  · obtain⟨b2,off,rfl,hb2,hc⟩:=hSr.2 (by omega)
    obtain⟨s,hs⟩:=getRw (ls:=ls) (k:=k) (by rw [HL.out];exact hlt)
    obtain⟨h1,h2,h3,h4,h5,h6⟩:=hc k s hs
    obtain⟨p,hp,hi⟩:=hIr.get hs
    have hdl:=HDC.out p (List.mem_of_getElem? hp)
    have hbb:b<wr.heap.size:=World.block_lt_of_cell? wr _ hbc
    have b1:∀ o,Below wr.heap.size wr (wr.alloc o):=fun o=>(Below.refl _ _).alloc (Nat.le_refl _) o
    have c26:=fun o=>callsIn_wide (n:=m-1) |>.2 (clone26 s.dp s.dm s.dc (p.dec.map fun c:Nat=>(c:Int)) (wr.alloc o) (hi.2.2.2.2.2.2.below (b1 o)) (by have:=hi.2.2.2.2.2.1;omega))
    have hall:∀ (o:Obj) (W2:World) (A2:Option Addr) (c2:Nat),Below (wr.alloc o).heap.size (wr.alloc o) W2→Hid (Vals W2 A2 s.dm (nums .i64 (p.dec.map fun c:Nat=>(c:Int)))∧∀ a,A2=some a→(wr.alloc o).heap.size≤a.block) →
     Below wr.heap.size wr (W2.setCell ⟨wr.heap.size,5,none⟩ (.slice A2 s.dm c2))∧YieldAt Fence.wide (m-1) Tryz.prog l #[rwV ⟨s.a,s.b,s.gc,s.ccc,s.bd,A2,s.dm,c2⟩] (W2.setCell ⟨wr.heap.size,5,none⟩ (.slice A2 s.dm c2)) fun e W'=>
      ((e=.returned (.bool true)∧J (xs ++ [(⟨s.a,s.b,s.gc,s.ccc,s.bd,A2,s.dm,c2⟩,p)]) W')∨(e=.returned (.bool false)∧Jx (xs ++ [(⟨s.a,s.b,s.gc,s.ccc,s.bd,A2,s.dm,c2⟩,p)]) W'))∧Kept A (W2.setCell ⟨wr.heap.size,5,none⟩ (.slice A2 s.dm c2)) W':=by
     intro o W2 A2 c2 hb hv
     have hbw:Below wr.heap.size wr (W2.setCell ⟨wr.heap.size,5,none⟩ (.slice A2 s.dm c2)):=((b1 o).trans (hb.mono (b1 o).size)).setCell (p:=⟨wr.heap.size,5,none⟩) (Nat.le_refl _) _
     refine⟨hbw,HYY.out xs (⟨s.a,s.b,s.gc,s.ccc,s.bd,A2,s.dm,c2⟩,p) wr _ hJr hbw ⟨⟨hi.1,hi.2.1,hi.2.2.1,hi.2.2.2.1,hi.2.2.2.2.1,hi.2.2.2.2.2.1,vals_set hv.out.1 (fun a e=>by have:=hv.out.2 a e;rw [World.size_alloc] at this;omega)⟩,hNr,fun a e=>Nat.le_trans (b1 o).size (hv.out.2 a e)⟩ ⟨by rw [take_sn hp hxs];exact List.take_prefix _ _,by omega⟩⟩
    have hend:∀ (X W3:World) (x:RwP),Below wr.heap.size wr X→x.2=p→Kept A X W3→J (xs ++ [x]) W3→RVRel ls ps (some ⟨b2,off,none⟩) b n c N0 J (.int .i64 ((k:Int)+1)) W3:=by
     rintro X W3 ⟨s',p'⟩ hbX rfl hk hj
     have hk':Kept A wr W3:=(Kept.of_below hbX).trans hk
     exact⟨k+1,_,by go_num,by omega,⟨take_sn hp hxs,by rw [List.length_append,List.length_singleton,hxl]⟩,hj,hSr.kept hk' HP.out,hIr.kept hk' HD.out,hk'.cell (a:=⟨b,0,none⟩) HAB.out hbc,Nat.le_trans hNr hk'.1⟩
    have HST:∀ s',Hid ((xs ++ [((s',p):RwP)]).map Prod.snd <+: ps):=fun s'=>Lib.hid (by rw [take_sn hp hxs];exact List.take_prefix _ _)
    have HSTH:=Lib.hid HST
    have HE:=Lib.hid hend
    have HA:=Lib.hid hall
    have C26:=Lib.hid c26
    obtain⟨T,hT⟩:∃ T,bs s.gc=T:=⟨_,rfl⟩
    obtain⟨U,hU⟩:∃ U,bs s.bd=U:=⟨_,rfl⟩
    unfold rwV at HA
    simp only [hT,hU] at HA
    rw [hT] at h3
    rw [hU] at h5
    clear hend hall c26 hc hs hJr hSr hIr hi hp hNr hT hU hdl hxs HST b1
    gi_wp2_with (refine⟨trivial,?_⟩;gi_at_call 54;refine ((C26.out _)).mono ?_;rintro e w2 ⟨A2,c2,rfl,hbw2,hV2⟩;obtain⟨⟨e0,e1,e2,e3,e4,e5⟩,ef⟩:=six_box hbw2;obtain⟨hbx,fn,tmps,assign,body,hy,hR⟩:=HA.out _ w2 A2 c2 hbw2 hV2)
    refine hR.mono ?_
    rintro e W3 ⟨⟨rfl,hJ3⟩ | ⟨rfl,hJx3⟩,hk3⟩
    · have R:=Lib.hid (HE.out _ W3 _ hbx rfl hk3 hJ3)
      clear HE
      gi_wp2
      go_roundw
      case rel=>exact R.out
      case measure=>simp [intOf];omega
    · gi_wp2
      refine bodyPost_ret (results_none rfl _ _ _) rfl ?_
      exact⟨⟨_,rfl⟩,.inr ⟨_,(HSTH.out _).out,hJx3⟩⟩
  · have hke:k=n:=by omega
    subst hke
    rw [List.take_of_length_le (by rw [←HLN.out,HL.out];exact Nat.le_refl _)] at hxs
    have HJ3:=Lib.hid hJr
    have HXS:=Lib.hid hxs
    clear hJr hSr hIr hxs hbc
    gi_wp2
    go_end0
    exact⟨⟨_,rfl⟩,.inl ⟨_,HXS.out,HJ3.out⟩⟩
theorem fseq25 (m b n c:Nat) (P0:Option Addr) (ls:List Rw) (ps:List Pr) (A:Nat→Prop) (w:World) (hm:1≤m) (hn:n≤100000) (hdec:∀ p∈ps,p.dec.length≤1000) (hb:b<w.heap.size) (hBs:w.cell? ⟨b,0,none⟩=some (.slice P0 n c)) (hS:RAt w P0 n ls) (hI:Ist w ls ps) (hA:∀ k,k<w.heap.size→(k=b∨(0<n∧∃ a,P0=some a∧a.block=k)∨∃ t∈ls,0<t.dm∧∃ a,t.dp=some a∧a.block=k)→A k):
 SeqNf Fence.wide m Tryz.prog 53 #[.pointer (some ⟨b,0,none⟩)] rwArr (RwRf (w.heap.size+2)) A 0 0 (fun ys=>ys.map Prod.snd=ps) (fun pre=>pre.map Prod.snd <+: ps) (NxR ps) w:=
 fun l J Jx W hW hsz _ _ hY h0=>
  fiter25 m l b n c (w.heap.size+2) P0 ls ps _ hm hn hdec J Jx (fun pre x W0 W1 hj hb hx hl=>hY pre x W0 W1 hj hb hx hl) W ((hW.cell (p:=⟨b,0,none⟩) hb).trans hBs) (hS.below hW) (hI.below hW)
   ⟨hA b hb (.inl rfl),by omega,by omega⟩
   (fun h a e=>have hlt:a.block<w.heap.size:=(by obtain⟨b',off,e',hl,-⟩:=hS.2 h;rw [e] at e';cases e';exact hl);⟨hA _ hlt (.inr (.inl ⟨h,a,e,rfl⟩)),by omega,by omega⟩)
   (fun t ht hd a e=>have hlt:a.block<w.heap.size:=(by obtain⟨p,-,hp⟩:=ist_mem hI ht;obtain⟨b',off,e',hl,-⟩:=hp.2.2.2.2.2.2.2 hd;rw [e] at e';cases e';exact hl);⟨hA _ hlt (.inr (.inr ⟨t,ht,hd,a,e,rfl⟩)),by omega,by omega⟩)
   (by omega) h0
end Go.Proofs.YtmellioacefjjaaGreatDoor.Uc
namespace Go.Proofs.YtmellioacefjjaaGreatDoor.Pq
open Go.RowKit
theorem frozen_new (w:World) (C:Array Value) (e:TypeId) (j:Nat):(w.alloc (.cells C e)).frozen? ⟨w.heap.size,j,none⟩=false:=by
 have h:=World.alloc_heap_new w (.cells C e)
 simp only [World.frozen?]
 rw [h]
 simp
theorem box_new (W:World) (v:Value) (t:TypeId):(W.alloc (.cells #[v] t)).cell? ⟨W.heap.size,0,none⟩=some v∧(W.alloc (.cells #[v] t)).frozen? ⟨W.heap.size,0,none⟩=false:=⟨by simp,frozen_new W _ _ _⟩
theorem box_cell {W:World} {a:Addr} {v:Value} (o:Obj) (h:W.cell? a=some v):(W.alloc o).cell? a=some v:=(World.cell?_alloc_lt _ _ _ (World.block_lt_of_cell? W a h)).trans h
theorem box_frozen {W:World} {a:Addr} {v:Value} (o:Obj) (h:W.cell? a=some v) (hf:W.frozen? a=false):(W.alloc o).frozen? a=false:=(World.frozen?_alloc_past _ _ _ (World.block_lt_of_cell? W a h)).trans hf
theorem cell_abide {β:Type} {B:Nat} (a:Addr) (v:Value):Abide 0 0 B (fun (_:β) W=>W.cell? a=some v):=by
 intro _ W W' row hs hg hr
 refine cell_kept hs hg (fun r e=>?_)
 rcases hr r e with h | ⟨_,h⟩
 · omega
 · exact h
theorem own_abide {β:Type} {B base:Nat} {v:Value} {n size:Nat} {xs:List Value} {e:TypeId}:Abide 0 0 B (fun (_:β) W=>W.ownsRow base e size v n xs):=by
 intro _ W W' row hs hg hr
 refine⟨hs.1,?_⟩
 rcases hs.2 with hn | ⟨g,cap,cur,rfl,hbg,hgg,rest⟩
 · exact .inl hn
 · refine .inr ⟨g,cap,cur,rfl,hbg,?_,rest⟩
   rw [hg.block g (Array.getElem?_eq_some_iff.1 hgg).1 (fun e=>?_)]
   · exact hgg
   · rcases hr g e.symm with h | ⟨_,o,ho,hc⟩
     · omega
     · rw [hgg] at ho;cases ho;cases hc
def GotI (w:World) (bo base:Nat) (e:TypeId) (size n:Nat) (xs:List Value) (W:World):Prop:=
 (∃ v,(W.cell? ⟨bo,0,none⟩=some v∧W.frozen? ⟨bo,0,none⟩=false)∧W.ownsRow base e size v n xs)∧Below w.heap.size w W
theorem got_abide {β:Type} (w:World) (bo base:Nat) (e:TypeId) (size B:Nat) (n:β → Nat) (xs:β → List Value) (hB:w.heap.size≤B):Abide 0 0 B (fun s W=>GotI w bo base e size (n s) (xs s) W):=by
 intro s W W' row hs hg hr
 obtain⟨⟨v,h2,h3⟩,h4⟩:=hs
 exact⟨⟨v,abide_cell (β:=Unit) (fun _=>⟨bo,0,none⟩) (fun _=>v) (fun _=>by omega) () W W' row h2 hg hr,own_abide (β:=Unit) () W W' row h3 hg hr⟩,abide_below (β:=Unit) w (.inr (by omega)) hB (Nat.le_refl _) () W W' row h4 hg hr⟩
theorem got_next {w W w2:World} {bo base:Nat} {e:TypeId} {size n:Nat} {xs us:List Value} {v v':Value} {o:Obj}
 (hv:W.cell? ⟨bo,0,none⟩=some v) (hf:W.frozen? ⟨bo,0,none⟩=false) (hown:W.ownsRow base e size v n xs) (hb:Below w.heap.size w W)
 (ho':w2.ownsRow base e size v' (n+1) (xs++us)) (hg:(W.alloc o).grownBy w2 v.ownBlock) (h1:w.heap.size≤bo) (h2:bo<base):
 Kept (fun k=>k≠bo∧k<base) W (w2.setCell ⟨bo,0,none⟩ v')∧GotI w bo base e size (n+1) (xs++us) (w2.setCell ⟨bo,0,none⟩ v')∧w2.cell? ⟨bo,0,none⟩=some v∧w2.frozen? ⟨bo,0,none⟩=false:=by
 have hgb:∀ g,v.ownBlock=some g→base≤g:=fun g e=>(hown.lt g e).1
 have hW2:bo<W.heap.size:=World.block_lt_of_cell? W _ hv
 have e0:w2.heap[bo]? = W.heap[bo]?:=by
  rw [hg.block bo (by simp;omega) (fun e=>by have:=hgb bo e.symm;omega)]
  exact Below.heap_alloc W o bo hW2
 have c0:w2.cell? ⟨bo,0,none⟩=some v:=(World.cell?_of_block e0).trans hv
 have f0:w2.frozen? ⟨bo,0,none⟩=false:=by
  unfold World.frozen? at hf ⊢
  rw [e0]
  exact hf
 have hb2:Below w.heap.size w w2:=(hb.alloc (by omega) o).grown hg (by simp;omega) (fun g e=>by have:=hgb g e;omega)
 have k1:Kept (fun k=>k≠bo∧k<base) W w2:=(Kept.alloc W o).trans (Kept.grown hg (fun r e=>by have:=hgb r e;omega))
 refine⟨k1.trans (Kept.setCell _ _ _ (by omega)),⟨⟨v',⟨?_,?_⟩,?_⟩,hb2.setCell (p:=⟨bo,0,none⟩) h1 _⟩,c0,f0⟩
 · exact World.cell?_setCell_same' _ _ _ (by rw [c0];rfl)
 · rw [World.frozen?_setCell];exact f0
 · refine⟨ho'.1,?_⟩
   rcases ho'.2 with hn | ⟨g,cap,cur,rfl,hbg,hgg,rest⟩
   · exact .inl hn
   · refine .inr ⟨g,cap,cur,rfl,hbg,?_,rest⟩
     rw [(grownBy_setCell' w2 bo _).block g (Array.getElem?_eq_some_iff.1 hgg).1 (fun e=>by cases e;omega)]
     exact hgg
theorem own_shape {w:World} {base n size:Nat} {e:TypeId} {v:Value} {xs:List Value} (h:w.ownsRow base e size v n xs):∃ A c,v=.slice A n c∧(A=none→c=0):=by
 rcases h.2 with ⟨rfl,h0⟩ | ⟨g,cap,cur,rfl,-⟩
 · exact⟨none,0,by rw [h0],fun _=>rfl⟩
 · exact⟨_,cap,rfl,fun h=>by cases h⟩
end Go.Proofs.YtmellioacefjjaaGreatDoor.Pq
namespace Go.Proofs.YtmellioacefjjaaGreatDoor
open Go.RowKit Go.Shelf
def intsN (l:List Nat):List Int:=l.map fun n:Nat=>(n:Int)
def keysL (l:List Uc.Pr):List Int:=(l.filter fun r=>decide (r.dec ≠ [])).map fun r=>r.a
def stepU (us:Int→List Int) (r:Uc.Pr):Int→List Int:=if r.dec = [] then us else addU us r.a (intsN r.dec)
def usL (l:List Uc.Pr):Int→List Int:=l.foldl stepU (fun _=>[])
theorem keys_yes {l:List Uc.Pr} {p:Uc.Pr} (h:p.dec ≠ []):keysL (l ++ [p])=keysL l ++ [p.a]:=by unfold keysL;rw [List.filter_append,List.map_append,List.filter_cons_of_pos (by simpa using h)];rfl
theorem keys_no {l:List Uc.Pr} {p:Uc.Pr} (h:p.dec = []):keysL (l ++ [p])=keysL l:=by unfold keysL;rw [List.filter_append,List.filter_cons_of_neg (by simpa using h)];simp
theorem us_yes {l:List Uc.Pr} {p:Uc.Pr} (h:p.dec ≠ []):usL (l ++ [p])=addU (usL l) p.a (intsN p.dec):=by unfold usL;rw [List.foldl_append];show stepU _ p=_;unfold stepU;rw [if_neg h]
theorem us_no {l:List Uc.Pr} {p:Uc.Pr} (h:p.dec = []):usL (l ++ [p])=usL l:=by unfold usL;rw [List.foldl_append];show stepU _ p=_;unfold stepU;rw [if_pos h]
theorem keys_mem {l:List Uc.Pr} {c:Int}:c∈keysL l↔∃ r∈l,r.dec ≠ []∧r.a=c:=by
 unfold keysL
 rw [List.mem_map]
 constructor
 · rintro⟨r,hr,e⟩
   rw [List.mem_filter] at hr
   exact⟨r,hr.1,of_decide_eq_true hr.2,e⟩
 · rintro⟨r,hr,hd,e⟩
   exact⟨r,List.mem_filter.2 ⟨hr,decide_eq_true hd⟩,e⟩
theorem keys_len (l:List Uc.Pr):(keysL l).length≤l.length:=by unfold keysL;rw [List.length_map];exact List.length_filter_le _ _
theorem addU_mono {us:Int→List Int} {c x d:Int}:∀ {ps:List Int},x∈us d→x∈addU us c ps d:=by
 intro ps
 induction ps generalizing us with
 | nil=>exact id
 | cons p ps ih=>
  intro h
  show x∈addU (putV us p (us p ++ [c])) c ps d
  refine ih ?_
  by_cases e:d=p
  · subst e;rw [putV_same];exact List.mem_append_left _ h
  · rw [putV_other _ _ e];exact h
theorem addU_mem {us:Int→List Int} {c d:Int}:∀ {ps:List Int},d∈ps→c∈addU us c ps d:=by
 intro ps
 induction ps generalizing us with
 | nil=>intro h;cases h
 | cons p ps ih=>
  intro h
  show c∈addU (putV us p (us p ++ [c])) c ps d
  rcases List.mem_cons.1 h with rfl | h
  · exact addU_mono (by rw [putV_same];simp)
  · exact ih h
theorem us_mem:∀ {l:List Uc.Pr} {us:Int→List Int} {r:Uc.Pr} {d:Int},r∈l→d∈intsN r.dec→r.a∈l.foldl stepU us d:=by
 have mono:∀ (l:List Uc.Pr) (us:Int→List Int) (x d:Int),x∈us d→x∈l.foldl stepU us d:=by
  intro l
  induction l with
  | nil=>exact fun us x d h=>h
  | cons q l ih=>
   intro us x d h
   rw [List.foldl_cons]
   refine ih _ _ _ ?_
   unfold stepU
   split
   · exact h
   · exact addU_mono h
 intro l
 induction l with
 | nil=>intro us r d h;cases h
 | cons q l ih=>
  intro us r d h hd
  rw [List.foldl_cons]
  rcases List.mem_cons.1 h with rfl | h
  · refine mono _ _ _ _ ?_
    unfold stepU
    rw [if_neg (fun e=>by rw [e] at hd;cases hd)]
    exact addU_mem hd
  · exact ih h hd
theorem us_len:∀ {l:List Uc.Pr} {us:Int→List Int} {N:Nat},(∀ r∈l,r.dec.length≤2)→(∀ d,(us d).length≤N)→∀ d,(l.foldl stepU us d).length≤N+2*l.length:=by
 intro l
 induction l with
 | nil=>intro us N _ h d;exact h d
 | cons q l ih=>
  intro us N h2 h d
  rw [List.foldl_cons]
  have hq:=h2 q (List.mem_cons_self ..)
  have h3:=ih (us:=stepU us q) (N:=N+2) (fun r hr=>h2 r (List.mem_cons_of_mem _ hr)) (fun x=>by
   unfold stepU
   split
   · have:=h x;omega
   · have:=addU_len us q.a h (intsN q.dec) x
     have e:(intsN q.dec).length=q.dec.length:=List.length_map _
     omega) d
  rw [List.length_cons]
  omega
theorem map_k {H:Type} {A:Nat→Prop} {w w':World} {P:Program} {k:TypeId} {R:Value→Option (DataW H×List MemPlace)} {M n:Nat} {D:DataW H} (h:w.ownsMap P k R M n D) (hk:Kept A w w') (hA:A M):w'.ownsMap P k R M n D:=by
 have hl:=h.lt
 obtain⟨es,clock,hb,F⟩:=h
 exact⟨es,clock,(hk.2 M hA hl).trans hb,F⟩
theorem f1_k {A:Nat→Prop} {w w':World} {M n:Nat} {D:DataW Value} {O:List Int} (h:F1 w M n D O) (hk:Kept A w w') (hA:A M):F1 w' M n D O:=⟨map_k h.1 hk hA,h.2⟩
theorem f3_k {A:Nat→Prop} {w w':World} {M n:Nat} {D:DataW Value} {sz:Int→Nat} (h:F3 w M n D sz) (hk:Kept A w w') (hA:A M):F3 w' M n D sz:=⟨map_k h.1 hk hA,h.2⟩
theorem row_k {A:Nat→Prop} {w w':World} {base:Nat} {e:TypeId} {s n:Nat} {v:Value} {xs:List Value} (h:w.ownsRow base e s v n xs) (hk:Kept A w w') (hA:∀ g,v.ownBlock=some g→A g):w'.ownsRow base e s v n xs:=by
 refine⟨h.1,?_⟩
 rcases h.2 with hn | ⟨g,cap,cur,rfl,hb,hg,rest⟩
 · exact .inl hn
 · exact .inr ⟨g,cap,cur,rfl,hb,(hk.2 g (hA g rfl) (Array.getElem?_eq_some_iff.1 hg).1).trans hg,rest⟩
theorem vals_k {S:Nat→Prop} {w w':World} {A:Option Addr} {n:Nat} {vs:List Value} (h:Vals w A n vs) (hk:Kept S w w') (hA:0<n→∀ a,A=some a→S a.block):Vals w' A n vs:=by
 refine⟨h.1,fun hn=>?_⟩
 obtain⟨b,off,rfl,hlt,hc⟩:=h.2 hn
 exact⟨b,off,rfl,Nat.lt_of_lt_of_le hlt hk.1,fun j v hj=>hk.cell (a:=⟨b,off+j,none⟩) (show S b from hA hn ⟨b,off,none⟩ rfl) (hc j v hj)⟩
theorem f2_k {A:Nat→Prop} {w w':World} {M n base:Nat} {D:DataW Value} {us:Int→List Int} {val:Int→Value} (h:F2 w M n base D us val) (hk:Kept A w w') (hM:A M) (hr:∀ c g,(val c).ownBlock=some g→A g):F2 w' M n base D us val:=
 ⟨map_k h.own hk hM,h.at2,fun c=>⟨row_k (h.row c).1 hk (hr c),(h.row c).2⟩,h.apt⟩
theorem vals_ne {W:World} {A:Option Addr} {n:Nat} {zs:List Int} {M:Nat} {o:Obj} (hn:0<n) (hv:Vals W A n (nums .i64 zs)) (hM:W.heap[M]? = some o) (hc:o.isCells=false):∀ a,A=some a→a.block≠M:=by
 intro a ha e
 obtain⟨b',off,e',-,hcc⟩:=hv.2 hn
 rw [ha] at e'
 cases e'
 obtain⟨z,hz⟩:∃ z,(nums .i64 zs)[0]? = some z:=⟨_,List.getElem?_eq_getElem (by have:=hv.1;omega)⟩
 obtain⟨o',ho',hc'⟩:=cells_of_cell (hcc 0 z hz)
 have e:b'=M:=e
 rw [e,hM] at ho'
 cases ho'
 rw [hc] at hc'
 cases hc'
theorem map_obj {H:Type} {W:World} {P:Program} {k:TypeId} {R:Value→Option (DataW H×List MemPlace)} {M n:Nat} {D:DataW H} (h:W.ownsMap P k R M n D):∃ o:Obj,W.heap[M]? = some o∧o.isCells=false:=by
 obtain⟨es,clock,hb,-⟩:=h
 exact⟨_,hb,rfl⟩
theorem vals_abide {β:Type} {B:Nat} {A:Option Addr} {n:Nat} {vs:List Value}:Abide 0 0 B (fun (_:β) W=>Vals W A n vs):=by
 intro s W W' row h hg hr
 refine⟨h.1,fun hn=>?_⟩
 obtain⟨b,off,rfl,hlt,hc⟩:=h.2 hn
 exact⟨b,off,rfl,Nat.lt_of_lt_of_le hlt hg.size,fun j v hj=>Pq.cell_abide (β:=Unit) (B:=B) _ _ () W W' row (hc j v hj) hg hr⟩
def NoB (base:Nat) (val:Int→Value) (wv:Value) (k:Nat):Prop:=k<base∨wv.ownBlock=some k∨∃ x,(val x).ownBlock=some k
structure CkS (H base:Nat) (dec:Int→List Int) (l:List Uc.Pr) (W:World) (n1 n2:Nat) (D1 D2:DataW Value) (val:Int→Value) (wv:Value):Prop where
 f1:F1 W H n1 D1 (keysL l)
 a1:A1 W D1 dec (keysL l) (NoB base val wv)
 f2:F2 W (H+1) n2 base D2 (usL l) val
 f3:F3 W (H+2) 0 (.map []) (fun _=>0)
 row:W.ownsRow base 3 1 wv (keysL l).length (nums .i64 (keysL l))
 sep:∀ c,(val c).ownBlock=none∨(val c).ownBlock≠wv.ownBlock
 cel:W.cell? ⟨H+3,0,none⟩=some (.map (some H))∧W.cell? ⟨H+3,1,none⟩=some (.map (some (H+1)))∧W.cell? ⟨H+3,2,none⟩=some (.map (some (H+2)))
 wbx:W.cell? ⟨H+4,0,none⟩=some wv∧W.frozen? ⟨H+4,0,none⟩=false
 few:n1≤l.length∧n2≤2*l.length
theorem cks_abide {H base B:Nat} {dec:Int→List Int} {l:List Uc.Pr} {n1 n2:Nat} {D1 D2:DataW Value} {val:Int→Value} {wv:Value} (hB:H+5≤B):Abide 0 0 B (fun (_:Unit) W=>CkS H base dec l W n1 n2 D1 D2 val wv):=by
 intro _ W W' row h hg hr
 have hM:∀ M,M<H+5→some M≠row:=fun M hM e=>by rcases hr M e.symm with h | h <;> omega
 refine⟨h.f1.kept hg (hM _ (by omega)),fun c hc=>?_,⟨h.f2.own.kept hg (hM _ (by omega)),h.f2.at2,fun c=>⟨Pq.own_abide (β:=Unit) (B:=B) () W W' row (h.f2.row c).1 hg hr,(h.f2.row c).2⟩,h.f2.apt⟩,h.f3.kept hg (hM _ (by omega)),Pq.own_abide (β:=Unit) (B:=B) () W W' row h.row hg hr,h.sep,⟨?_,?_,?_⟩,?_,h.few⟩
 · obtain⟨A,k,h1,h2,h3⟩:=h.a1 c hc
   exact⟨A,k,h1,vals_abide (β:=Unit) (B:=B) () W W' row h2 hg hr,fun a e=>⟨Nat.lt_of_lt_of_le (h3 a e).1 hg.size,(h3 a e).2⟩⟩
 · exact Pq.cell_abide (β:=Unit) (B:=B) _ _ () W W' row h.cel.1 hg hr
 · exact Pq.cell_abide (β:=Unit) (B:=B) _ _ () W W' row h.cel.2.1 hg hr
 · exact Pq.cell_abide (β:=Unit) (B:=B) _ _ () W W' row h.cel.2.2 hg hr
 · exact abide_cell (β:=Unit) (n₀:=0) (n₁:=0) (B:=B) (fun _=>⟨H+4,0,none⟩) (fun _=>wv) (fun _=>by omega) () W W' row h.wbx hg hr
def CkI (w:World) (base:Nat) (dec:Int→List Int) (pre:List Uc.RwP) (W:World):Prop:=
 ∃ (n1 n2:Nat) (D1 D2:DataW Value) (val:Int→Value) (wv:Value),CkS w.heap.size base dec (pre.map Prod.snd) W n1 n2 D1 D2 val wv∧Below w.heap.size w W
def CkY (w:World) (base:Nat) (dec:Int→List Int) (pre:List Uc.RwP) (x:Uc.RwP) (W:World):Prop:=
 ∃ (n1 n2:Nat) (D1 D2:DataW Value) (val:Int→Value) (wv:Value),(CkS w.heap.size base dec (pre.map Prod.snd) W n1 n2 D1 D2 val wv∧Below w.heap.size w W)∧(Uc.Is W x.1 x.2∧base≤W.heap.size)∧∀ a,x.1.dp=some a→¬NoB base val wv a.block
theorem cki_abide (w:World) (base B:Nat) (dec:Int→List Int) (hB:w.heap.size+5≤B):Abide 0 0 B (CkI w base dec):=by
 intro pre W W' row ⟨n1,n2,D1,D2,val,wv,h1,h2⟩ hg hr
 exact⟨n1,n2,D1,D2,val,wv,cks_abide hB () W W' row h1 hg hr,abide_below (β:=Unit) w (.inr (by omega)) (by omega) (Nat.le_refl _) () W W' row h2 hg hr⟩
theorem cky_abide (w:World) (base B:Nat) (dec:Int→List Int) (pre:List Uc.RwP) (x:Uc.RwP) (hB:w.heap.size+5≤B):Abide 0 0 B (fun (_:Unit) W=>CkY w base dec pre x W):=by
 intro _ W W' row ⟨n1,n2,D1,D2,val,wv,⟨h1,h2⟩,⟨h3,h4⟩,h5⟩ hg hr
 exact⟨n1,n2,D1,D2,val,wv,⟨cks_abide hB () W W' row h1 hg hr,abide_below (β:=Unit) w (.inr (by omega)) (by omega) (Nat.le_refl _) () W W' row h2 hg hr⟩,⟨⟨h3.1,h3.2.1,h3.2.2.1,h3.2.2.2.1,h3.2.2.2.2.1,h3.2.2.2.2.2.1,vals_abide (β:=Unit) (B:=B) () W W' row h3.2.2.2.2.2.2 hg hr⟩,Nat.le_trans h4 hg.size⟩,h5⟩
theorem ck_fresh {w:World} {base N0:Nat} {dec:Int→List Int} {pre:List Uc.RwP} {x:Uc.RwP} {W0 W:World} (hN:N0=base) (h:CkI w base dec pre W0) (hb:Below W0.heap.size W0 W) (hx:Uc.RwRf N0 W0 x W):CkY w base dec pre x W:=by
 obtain⟨n1,n2,D1,D2,val,wv,h1,h2⟩:=h
 have hs:w.heap.size+5≤W0.heap.size:=World.block_lt_of_cell? W0 _ h1.wbx.1
 refine⟨n1,n2,D1,D2,val,wv,⟨(cks_abide hs).below (s:=()) h1 hb,h2.trans (hb.mono h2.size)⟩,⟨hx.1,Nat.le_trans (hN▸hx.2.1) hb.size⟩,fun a e hno=>?_⟩
 have hge:=hx.2.2 a e
 have hge2:base≤W0.heap.size:=hN▸hx.2.1
 rcases hno with h | h | ⟨y,h⟩
 · omega
 · have:=(h1.row.lt _ h).2;omega
 · have:=((h1.f2.row y).1.lt _ h).2;omega
def CkA (H base k:Nat):Prop:=k<base∧k≠H∧k≠H+1∧k≠H+4
end Go.Proofs.YtmellioacefjjaaGreatDoor
