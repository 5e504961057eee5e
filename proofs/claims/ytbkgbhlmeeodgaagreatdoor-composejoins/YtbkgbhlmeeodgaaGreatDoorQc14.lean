/- A part. -/
import Derived.Test.YtbkgbhlmeeodgaaGreatDoorQc08
namespace Go.Proofs.YtbkgbhlmeeodgaaGreatDoor.Uc
open Go.RowKit
def Box6 (w:World) (b:Nat) (v0 v1 v2 v3 v4 v5:Value):Prop:=
 (w.cell? ⟨b,0,none⟩=some v0∧w.cell? ⟨b,1,none⟩=some v1∧w.cell? ⟨b,2,none⟩=some v2∧w.cell? ⟨b,3,none⟩=some v3∧w.cell? ⟨b,4,none⟩=some v4∧w.cell? ⟨b,5,none⟩=some v5)∧∀ i,w.frozen? ⟨b,i,none⟩=false
theorem Box6.below {w w':World} {b:Nat} {v0 v1 v2 v3 v4 v5:Value} (h:Box6 w b v0 v1 v2 v3 v4 v5) (hl:b<w.heap.size) (hb:Below w.heap.size w w'):Box6 w' b v0 v1 v2 v3 v4 v5:=
 ⟨⟨(hb.cell (p:=⟨b,0,none⟩) hl).trans h.1.1,(hb.cell (p:=⟨b,1,none⟩) hl).trans h.1.2.1,(hb.cell (p:=⟨b,2,none⟩) hl).trans h.1.2.2.1,(hb.cell (p:=⟨b,3,none⟩) hl).trans h.1.2.2.2.1,(hb.cell (p:=⟨b,4,none⟩) hl).trans h.1.2.2.2.2.1,(hb.cell (p:=⟨b,5,none⟩) hl).trans h.1.2.2.2.2.2⟩,fun i=>(hb.frozen (p:=⟨b,i,none⟩) hl).trans (h.2 i)⟩
theorem dec_err {l:List UInt8} (h:tagB l=false):decErr l=match seqOf l with | none=>13 | some cs=>if 2<cs.length then 16 else 0:=by unfold decErr;rw [if_neg (by rw [h];decide)];cases seqOf l <;> rfl
theorem seq_none {l:List UInt8} {w w':World} {e:Ending} (hs:seqOf l=none) (h:SeqPost l w e w'):e=.returned (.tuple #[.slice none 0 0,.int .i64 13])∧Below w.heap.size w w':=by
 rcases h.2 with ⟨cs,A,ca,h1,-⟩ | ⟨-,h2⟩
 · rw [hs] at h1;cases h1
 · exact⟨h2,h.1⟩
theorem seq_some {l:List UInt8} {w w':World} {e:Ending} {cs:List Nat} (hs:seqOf l=some cs) (h:SeqPost l w e w'):Below w.heap.size w w'∧∃ A ca,e=.returned (.tuple #[.slice A cs.length ca,.int .i64 0])∧Hid (Vals w' A cs.length (i64s cs)∧∀ a,A=some a→w.heap.size≤a.block):=by
 rcases h.2 with ⟨cs',A,ca,h1,h2,h3⟩ | ⟨h1,-⟩
 · rw [hs] at h1
   cases h1
   exact⟨h.1,A,ca,h2,Lib.hid h3⟩
 · rw [hs] at h1;cases h1
theorem vals_set {w:World} {A:Option Addr} {n b i:Nat} {vs:List Value} {v:Value} (h:Vals w A n vs) (hA:∀ a,A=some a→¬a.block=b):Vals (w.setCell ⟨b,i,none⟩ v) A n vs:=by
 refine⟨h.1,fun hn=>?_⟩
 obtain⟨b',off,rfl,hlt,hc⟩:=h.2 hn
 refine⟨b',off,rfl,by rw [World.size_setCell];exact hlt,fun j u hj=>?_⟩
 rw [World.cell?_setCell_other _ _ _ _ (by intro e;have:=hA _ rfl;injection e with e1;exact this e1.symm)]
 exact hc j u hj
theorem vals_set6 {w:World} {A:Option Addr} {n b:Nat} {vs:List Value} {v0 v1 v2 v3 v4 v5:Value} (h:Vals w A n vs) (hA:∀ a,A=some a→¬a.block=b):
 Vals ((((((w.setCell ⟨b,0,none⟩ v0).setCell ⟨b,1,none⟩ v1).setCell ⟨b,2,none⟩ v2).setCell ⟨b,3,none⟩ v3).setCell ⟨b,4,none⟩ v4).setCell ⟨b,5,none⟩ v5) A n vs:=
 vals_set (vals_set (vals_set (vals_set (vals_set (vals_set h hA) hA) hA) hA) hA) hA
theorem below_set {w v:World} {r:Nat} (h:Below w.heap.size w v) (hr:w.heap.size≤r) (i:Nat) (x:Value):Below w.heap.size w (v.setCell ⟨r,i,none⟩ x):=Below.setCell h hr _
end Go.Proofs.YtbkgbhlmeeodgaaGreatDoor.Uc
namespace Go.Proofs.YtbkgbhlmeeodgaaGreatDoor.Uc
open Go.RowKit Go.Shelf
attribute [local go_sem] Oper.semAt_some
def ClonedPost (n:Nat) (zs:List Int) (w:World) (e:Ending) (w':World):Prop:=∃ A2 c2,e=.returned (.slice A2 n c2)∧Below w.heap.size w w'∧Hid (Vals w' A2 n (nums .i64 zs)∧∀ a,A2=some a→w.heap.size≤a.block)
theorem clone26 (A:Option Addr) (n c:Nat) (zs:List Int) (w:World) (hV:Vals w A n (nums .i64 zs)) (hn:n≤1000000):Calls Tryz.prog 102 #[.slice A n c] w (ClonedPost n zs w):=by
 have hl:zs.length=n:=by have:=hV.1;unfold nums at this;rwa [List.length_map] at this
 cases A with
 | none=>
  have h0:n=0:=by
   rcases Nat.eq_zero_or_pos n with h | h
   · exact h
   · obtain⟨b,off,e,-⟩:=hV.2 h
     cases e
  subst h0
  obtain rfl:zs = []:=List.eq_nil_of_length_eq_zero hl
  refine (Tryz.slices_Clone_int_nil 0 c w).mono ?_
  rintro e w' ⟨rfl,rfl⟩
  exact⟨none,0,rfl,Below.refl _ _,Lib.hid ⟨Vals.nil _ _,fun a e=>by cases e⟩⟩
 | some ad=>
  have fin:∀ (v':Value) (w':World),w'.ownsRow w.heap.size 3 1 v' n (nums .i64 zs)→Below w.heap.size w w'→ClonedPost n zs w (.returned v') w':=by
   intro v' w' ho hb
   obtain⟨A2,c2,rfl,-,hV2,-⟩:=own_vals ho
   exact⟨A2,c2,rfl,hb,Lib.hid ⟨hV2,fun a e=>(ho.lt a.block (by rw [e];rfl)).1⟩⟩
  rcases Nat.eq_zero_or_pos n with h0 | hpos
  · subst h0
    obtain rfl:zs = []:=List.eq_nil_of_length_eq_zero hl
    refine (Tryz.slices_Clone_int_zero ad c w).mono ?_
    rintro e w' ⟨v',rfl,ho,-,hb⟩
    exact fin v' w' ho hb
  · obtain⟨b,off,e,hlt,hc⟩:=hV.2 hpos
    cases e
    refine (Tryz.slices_Clone_int b off n c zs w (by omega) (by omega) (fun j hj=>hc j _ (nums_get hj))).mono ?_
    rintro e w' ⟨v',rfl,ho,-,hb⟩
    rw [List.take_of_length_le (by omega)] at ho
    exact fin v' w' ho hb
set_option maxHeartbeats 1000000 in
theorem rows10 (p A:Option Addr) (c:Nat) (ls:List Rw) (w:World) (hT:TIn w p A c ls):Calls Tryz.prog 80 #[.pointer p] w fun e w'=>
 e=.returned (.func (.func 121) #[] #[.pointer (some ⟨w.heap.size,0,none⟩)])∧w'=w.alloc (.cells #[.slice A ls.length c] 84):=by
 have c24:=list24 p A c ls w hT
 clear hT
 go_enter Tryz.func80,Tryz.ntmps80
 go_wp2_with (go_at_call 84;(with_reducible refine c24.mono ?_);rintro e w1 ⟨rfl,rfl⟩)
 go_ret
 exact⟨rfl,rfl⟩
abbrev RwP:=Rw×Pr
def rwArr (x:RwP):Array Value:=#[rwV x.1]
theorem RAt.kept {A':Nat→Prop} {w w':World} {A:Option Addr} {n:Nat} {ls:List Rw} (h:RAt w A n ls) (hk:Kept A' w w') (hA:0<n→∀ a,A=some a→A' a.block):RAt w' A n ls:=by
 refine⟨h.1,fun hn=>?_⟩
 obtain⟨b,off,rfl,hlt,hc⟩:=h.2 hn
 have hb:=hA hn _ rfl
 refine⟨b,off,rfl,Nat.lt_of_lt_of_le hlt hk.1,fun j s hj=>?_⟩
 obtain⟨h1,h2,h3,h4,h5,h6⟩:=hc j s hj
 exact⟨hk.cell (a:=⟨b,_,none⟩) hb h1,hk.cell (a:=⟨b,_,none⟩) hb h2,hk.cell (a:=⟨b,_,none⟩) hb h3,hk.cell (a:=⟨b,_,none⟩) hb h4,hk.cell (a:=⟨b,_,none⟩) hb h5,hk.cell (a:=⟨b,_,none⟩) hb h6⟩
theorem Ist.kept {A':Nat→Prop} {w w':World} (hk:Kept A' w w'):∀ {ls:List Rw} {ps:List Pr},Ist w ls ps→(∀ t∈ls,0<t.dm→∀ a,t.dp=some a→A' a.block)→Ist w' ls ps
 | [],[],_,_=>trivial
 | t::_,_::_,hc,he=>⟨⟨hc.1.1,hc.1.2.1,hc.1.2.2.1,hc.1.2.2.2.1,hc.1.2.2.2.2.1,hc.1.2.2.2.2.2.1,⟨hc.1.2.2.2.2.2.2.1,fun hn=>by
  obtain⟨b,off,e,hlt,hcc⟩:=hc.1.2.2.2.2.2.2.2 hn
  exact⟨b,off,e,Nat.lt_of_lt_of_le hlt hk.1,fun j v hj=>hk.cell (a:=⟨b,off+j,none⟩) (he t (List.mem_cons_self ..) hn ⟨b,off,none⟩ e) (hcc j v hj)⟩⟩⟩,Ist.kept hk hc.2 fun u hu=>he u (List.mem_cons_of_mem _ hu)⟩
 | [],_::_,hc,_=>hc.elim
 | _::_,[],hc,_=>hc.elim
def RVRel (ls:List Rw) (ps:List Pr) (B:Option Addr) (b n c N0:Nat) (J:List RwP→World→Prop) (i:Value) (wr:World):Prop:=
 ∃ (k:Nat) (xs:List RwP),i=.int .i64 k∧k≤n∧(xs.map Prod.snd=ps.take k∧xs.length=k)∧J xs wr∧RAt wr B n ls∧Ist wr ls ps∧wr.cell? ⟨b,0,none⟩=some (.slice B n c)∧N0≤wr.heap.size
theorem take_sn {ps:List Pr} {k:Nat} {p:Pr} {xs:List RwP} {s:Rw} (hs:ps[k]? = some p) (h:xs.map Prod.snd=ps.take k):(xs ++ [(s,p)]).map Prod.snd=ps.take (k+1):=by
 have hlt:=(List.getElem?_eq_some_iff.1 hs).1
 have e:ps[k]=p:=(List.getElem?_eq_some_iff.1 hs).2
 rw [List.take_succ_eq_append_getElem hlt,e,List.map_append,h]
 rfl
def NxR (ps:List Pr) (pre:List RwP) (x:RwP):Prop:=(pre ++ [x]).map Prod.snd <+: ps∧pre.length<100001
end Go.Proofs.YtbkgbhlmeeodgaaGreatDoor.Uc
namespace Go.Proofs.YtbkgbhlmeeodgaaGreatDoor
open Go.RowKit
def SeqNf {α:Type} (F:Fence) (n:Nat) (P:Program) (g:Nat) (lb:Array Value) (encs:α → Array Value) (Rd:World → α → World→Prop) (A:Nat→Prop) (n₀ n₁:Nat) (S Sp:List α → Prop) (Nx:List α → α → Prop) (w:World):Prop:=
 ∀ (l:Nat) (J Jx:List α → World→Prop) (W:World),Below w.heap.size w W→W.heap.size=w.heap.size+2→Abide n₀ n₁ W.heap.size J→Abide n₀ n₁ W.heap.size Jx →
  (∀ pre x W0 W1,J pre W0→Below W0.heap.size W0 W1→Rd W0 x W1→Nx pre x→YieldAt F (n-1) P l (encs x) W1 fun e W'=>
   ((e=.returned (.bool true)∧J (pre ++ [x]) W')∨(e=.returned (.bool false)∧Jx (pre ++ [x]) W'))∧Kept (fun k=>A k∧k≠w.heap.size∧k≠w.heap.size+1) W1 W') →
  J [] W →
  CallsIn F n P g (#[.func (.yield l) #[] #[]]++lb) W fun e W'=>(∃ v,e=.returned v)∧((∃ xs,S xs∧J xs W')∨(∃ pre,Sp pre∧Jx pre W'))
theorem range_nf {F:Fence} {n:Nat} {P:Program} {α:Type} {g:Operand} {ps:Array Tmp} {assign body:Code} {Q:Exit→Act→World→Prop} {a:Act} {w:World}
 (hro:F.round=none) (hn:1≤n) {gf:Nat} {lb:Array Value} (hg:a.eval g=.func (.func gf) #[] lb) (hFg:F.fn gf) (eg:∀ args w,(callFunc gf args).run P w=.ok (.enter gf args) w)
 {encs:α → Array Value} {Rd:World → α → World→Prop} {A:Nat→Prop} {n₀ n₁:Nat} {S Sp:List α → Prop} {Nx:List α → α → Prop} (hseq:SeqNf F (n-1) P gf lb encs Rd A n₀ n₁ S Sp Nx w)
 (hn₁:n₁ ≤ w.heap.size) (hA0:A w.heap.size) (hA1:A (w.heap.size+1)) (hps:∀ x,(encs x).size=ps.size)
 (I:List α → World→Prop) (Y:List α → α → World→Prop) (hfr:∀ pre x W0 W,I pre W0→Below W0.heap.size W0 W→Rd W0 x W→Y pre x W) (hY:∀ pre x,Abide n₀ n₁ w.heap.size (fun (_:Unit) W=>Y pre x W)) (Ix:Code→List α → World→Prop) (hI:Abide n₀ n₁ w.heap.size I) (hIx:∀ c,Abide n₀ n₁ w.heap.size (Ix c)) (h0:I [] w) (Ax:α → Act→World→Prop) (hAx:∀ x a',Abide n₀ n₁ w.heap.size (fun (_:Unit) W=>Ax x a' W))
 (hassign:∀ (l:Nat) (pre:List α) (x:α) (W:World) (K:Act→World→Prop),Y pre x W→(∀ a' W',Kept A W W'→Y pre x W'→Ax x a' W'→K a' W') →
  assign.wpIn (F.inRound l) (n-1-1) P (Exit.then K (fun _ _ _=>False)) { tmps:=(ps.zip (encs x)).foldl (fun t (p,v)=>t.setIfInBounds p v) a.tmps,defers:=[] } W)
 (hbody:∀ (l:Nat) (pre:List α) (x:α) (a':Act) (W:World),Y pre x W→Ax x a' W→Nx pre x→body.wpIn (F.inRound l) (n-1-1) P (roundEnd A I Ix (pre ++ [x]) W) a' W)
 (hdone:∀ (D:Nat) (xs:List α) (W:World),w.heap.size≤D→S xs→I xs W→W.heap[D]? = some (.deferred (some []))→Q .normal { a with defers:={ target:=.collected D,args:=#[] } :: a.defers } W)
 (hstop:∀ (D:Nat) (c:Code) (pre:List α) (W:World),w.heap.size≤D→Sp pre→Ix c pre W→W.heap[D]? = some (.deferred (some []))→c.wpIn F n P Q { a with defers:={ target:=.collected D,args:=#[] } :: a.defers } W):
 (Code.rangeFunc g ps assign body).wpIn F n P Q a w:=by
 refine wpIn_rangeFunc fun fn hfn=>?_
 rw [hro]
 generalize hlo:w.heap.size=lo at *
 have mk:∀ st pe,∃ r:Loop,r = { state:=st,pending:=pe,fn:=fn,tmps:=a.tmps,params:=ps,assign:=assign,body:=body,defers:=lo }:=fun _ _=>⟨_,rfl⟩
 obtain⟨r0,e0⟩:=mk .ready none
 have hbk:Book lo r0 ((w.alloc (.deferred (some []))).alloc (.loop r0)):=by
  have h1:=World.alloc_heap_new (w.alloc (.deferred (some []))) (.loop r0)
  rw [World.size_alloc,hlo] at h1
  have h2:=World.alloc_heap_new w (.deferred (some []))
  rw [hlo] at h2
  exact⟨h1,(Below.heap_alloc _ _ _ (by rw [World.size_alloc,hlo];omega)).trans h2⟩
 have hbw:Below w.heap.size w ((w.alloc (.deferred (some []))).alloc (.loop r0)):=((Below.refl _ w).alloc (Nat.le_refl _) _).alloc (by simp) _
 have hI1:I [] ((w.alloc (.deferred (some []))).alloc (.loop r0)):=hI.below h0 hbw
 have hsz:((w.alloc (.deferred (some []))).alloc (.loop r0)).heap.size=lo+2:=by rw [World.size_alloc,World.size_alloc,hlo]
 have hent:(Instr.enterLoop fn a.tmps ps assign body none).run P w=.ok (lo+1,[{ target:=.collected lo,args:=#[] }]) ((w.alloc (.deferred (some []))).alloc (.loop r0)):=by
  rw [e0,←hlo];exact run_enterLoop_outer _ _ _ _ _
 generalize (w.alloc (.deferred (some []))).alloc (.loop r0)=W1 at hbk hbw hI1 hsz hent
 refine⟨lo+1,_,W1,{ target:=.fn (.func gf) lb,args:=#[.func (.yield (lo+1)) #[] #[]] },W1,gf,#[.func (.yield (lo+1)) #[] #[]]++lb,W1,hent,?_,?_,?_,fun _=>hn,?_⟩
 · simp only [resolve,hg]
   simp [go_sem]
 · intro f' hf'
   simp [Target.leads] at hf'
   subst hf'
   exact hFg
 · simp [invoke,go_sem,eg]
 have hmn:∀ r,n₀ ≤ r→r<n₁ → n₀ ≤ r∧r<n₁:=fun _ h h'=>⟨h,h'⟩
 have hle:lo≤W1.heap.size:=by omega
 have hs1:=hseq (lo+1) (fun pre W=>I pre W∧Book lo r0 W) (fun pre W=>∃ c,Ix c pre W∧Book lo { r0 with state:=.done,pending:=some c } W) W1 hbw (by rw [hsz,hlo])
  ((hI.mono hmn hle).and (Book.abide hn₁ (by omega) r0))
  (fun s X Y row hs hg hr=>by
   obtain⟨c,h1,h2⟩:=hs
   exact⟨c,(hIx c).mono hmn hle s X Y row h1 hg hr,Book.abide (β:=Unit) hn₁ (by omega) _ () X Y row h2 hg hr⟩) ?_ ⟨hI1,hbk⟩
 · refine hs1.mono ?_
   rintro e W2 ⟨⟨v,rfl⟩,(⟨xs,hS,hi,hb⟩ | ⟨pre,hSp,c,hi,hb⟩)⟩
   · have he:=run_endLoop (P:=P) hb.1 (by rw [e0];simp)
     refine⟨none,_,by rw [he,e0],hdone lo xs _ (Nat.le_refl _) hS (hI.put hi (by omega) hb.1 rfl) (hb.put _).2⟩
   · have he:=run_endLoop (P:=P) hb.1 (by simp)
     exact⟨some c,_,he,hstop lo c pre _ (Nat.le_refl _) hSp ((hIx c).put hi (by omega) hb.1 rfl) (hb.put _).2⟩
 · rintro pre x W0 W ⟨hi0,hb0⟩ hbel hrd hlen
   have hi:=hfr pre x W0 W hi0 hbel hrd
   have hb:=hb0.kept (A:=fun _=>True) (Kept.of_below hbel) trivial trivial
   have hy:=run_yield (P:=P) (args:=encs x) hb.1 (by rw [e0];exact hps x)
   refine⟨fn,_,assign,body,by rw [hy,e0],roundIn_of_wpIn hfn ?_⟩
   refine hassign _ pre x W _ hi ?_
   intro a' Wa hka hia hax
   have hba:=hb.kept hka hA0 hA1
   refine⟨_,run_beginRound hba.1 (by rw [e0]),?_⟩
   have hbb:=hba.put { r0 with state:=.busy }
   have kp:Kept (fun k=>A k∧k≠w.heap.size∧k≠w.heap.size+1) Wa (Wa.putObj (lo+1) (.loop { r0 with state:=.busy })):=Kept.putObj _ _ _ (by rw [hlo];omega)
   have kw:Kept (fun k=>A k∧k≠w.heap.size∧k≠w.heap.size+1) W Wa:=hka.mono (fun _ h=>h.1)
   have kb:=kw.trans kp
   refine wpIn_mono (hbody (lo+1) pre x a' _ ((hY pre x).put (s:=()) hia (by omega) hba.1 rfl) ((hAx x a').put (s:=()) hax (by omega) hba.1 rfl) hlen) ?_
   generalize (Wa.putObj (lo+1) (.loop { r0 with state:=.busy }))=Wb at hbb kb
   have fin:∀ (jump:Option Code) (W3:World),Kept A Wb W3 →
    (Instr.endRound (lo+1) jump).run P W3=.ok (.bool jump.isNone) (W3.putObj (lo+1) (.loop { r0 with state:=if jump.isNone then .ready else .done,pending:=jump })) ∧
    Book lo { r0 with state:=.busy } W3∧Book lo { r0 with state:=if jump.isNone then .ready else .done,pending:=jump } (W3.putObj (lo+1) (.loop { r0 with state:=if jump.isNone then .ready else .done,pending:=jump })) ∧
    Kept (fun k=>A k∧k≠w.heap.size∧k≠w.heap.size+1) W (W3.putObj (lo+1) (.loop { r0 with state:=if jump.isNone then .ready else .done,pending:=jump })):=by
    intro jump W3 hk3
    have hb3:=hbb.kept hk3 hA0 hA1
    exact⟨run_endRound (P:=P) (r:={ r0 with state:=.busy }) jump hb3.1,hb3,hb3.put _,(kb.trans (hk3.mono (fun _ h=>h.1))).trans (Kept.putObj _ _ _ (by rw [hlo];omega))⟩
   rintro e a3 W3 hp
   cases e with
   | normal=>
    obtain⟨hk3,hi3⟩:=hp
    obtain⟨hr,hl3,hl4,hk4⟩:=fin none W3 hk3
    refine⟨_,_,hr,.inl ⟨rfl,hI.put hi3 (by omega) hl3.1 rfl,?_⟩,hk4⟩
    have e1:({ r0 with state:=if (none:Option Code).isNone then .ready else .done,pending:=none }:Loop)=r0:=by rw [e0];rfl
    rw [e1] at hl4 ⊢
    exact hl4
   | ret=>
    obtain⟨hk3,hi3⟩:=hp
    obtain⟨hr,hl3,hl4,hk4⟩:=fin (some .ret) W3 hk3
    exact⟨_,_,hr,.inr ⟨rfl,.ret,(hIx _).put hi3 (by omega) hl3.1 rfl,hl4⟩,hk4⟩
   | exit id=>
    obtain⟨hk3,hi3⟩:=hp
    obtain⟨hr,hl3,hl4,hk4⟩:=fin (some (.exit id)) W3 hk3
    exact⟨_,_,hr,.inr ⟨rfl,.exit id,(hIx _).put hi3 (by omega) hl3.1 rfl,hl4⟩,hk4⟩
   | goto t=>
    obtain⟨hk3,hi3⟩:=hp
    obtain⟨hr,hl3,hl4,hk4⟩:=fin (some (.goto t)) W3 hk3
    exact⟨_,_,hr,.inr ⟨rfl,.goto t,(hIx _).put hi3 (by omega) hl3.1 rfl,hl4⟩,hk4⟩
   | panic ch=>exact hp.elim
   | outgrown=>exact hp.elim
theorem range_nf2 {F:Fence} {n:Nat} {P:Program} {α:Type} {g:Operand} {ps:Array Tmp} {assign body:Code} {Q:Exit→Act→World→Prop} {a:Act} {w:World}
 (hro:F.round=none) (hn:1≤n) {gf:Nat} {lb:Array Value} (hg:a.eval g=.func (.func gf) #[] lb) (hFg:F.fn gf) (eg:∀ args w,(callFunc gf args).run P w=.ok (.enter gf args) w)
 {encs:α → Array Value} {Rd:World → α → World→Prop} {A:Nat→Prop} {n₀ n₁:Nat} {S Sp:List α → Prop} {Nx:List α → α → Prop} (hseq:SeqNf F (n-1) P gf lb encs Rd A n₀ n₁ S Sp Nx w)
 (hn₁:n₁ ≤ w.heap.size) (hA0:A w.heap.size) (hA1:A (w.heap.size+1)) (hps:∀ x,(encs x).size=ps.size)
 (I:List α → World→Prop) (Y:List α → α → World→Prop) (hfr:∀ pre x W0 W,I pre W0→Below W0.heap.size W0 W→Rd W0 x W→Y pre x W) (hY:∀ pre x,Abide n₀ n₁ w.heap.size (fun (_:Unit) W=>Y pre x W)) (Ix:Code→List α → World→Prop) (hI:Abide n₀ n₁ w.heap.size I) (hIx:∀ c,Abide n₀ n₁ w.heap.size (Ix c)) (h0:I [] w) (Cx:α → Nat→World→Prop) (hCx:∀ x b,Abide n₀ n₁ w.heap.size (fun (_:Unit) W=>Cx x b W)) (a₁:α → Nat→Act)
 (hassign:∀ (l:Nat) (pre:List α) (x:α) (W:World) (K:Act→World→Prop),Y pre x W→(∀ b W',Kept A W W'→Y pre x W'→Cx x b W'→K (a₁ x b) W') →
  assign.wpIn (F.inRound l) (n-1-1) P (Exit.then K (fun _ _ _=>False)) { tmps:=(ps.zip (encs x)).foldl (fun t (p,v)=>t.setIfInBounds p v) a.tmps,defers:=[] } W)
 (hbody:∀ (l:Nat) (pre:List α) (x:α) (b:Nat) (W:World),Y pre x W→Cx x b W→Nx pre x→body.wpIn (F.inRound l) (n-1-1) P (roundEnd A I Ix (pre ++ [x]) W) (a₁ x b) W)
 (hdone:∀ (D:Nat) (xs:List α) (W:World),w.heap.size≤D→S xs→I xs W→W.heap[D]? = some (.deferred (some []))→Q .normal { a with defers:={ target:=.collected D,args:=#[] } :: a.defers } W)
 (hstop:∀ (D:Nat) (c:Code) (pre:List α) (W:World),w.heap.size≤D→Sp pre→Ix c pre W→W.heap[D]? = some (.deferred (some []))→c.wpIn F n P Q { a with defers:={ target:=.collected D,args:=#[] } :: a.defers } W):
 (Code.rangeFunc g ps assign body).wpIn F n P Q a w:=
 range_nf hro hn hg hFg eg hseq hn₁ hA0 hA1 hps I Y hfr hY Ix hI hIx h0 (fun x a' W=>∃ b,a'=a₁ x b∧Cx x b W)
  (fun x a' s W W' row hs hg hr=>by obtain⟨b,e,h⟩:=hs;exact⟨b,e,hCx x b () W W' row h hg hr⟩)
  (fun l pre x W K hi h=>hassign l pre x W K hi (fun b W' hk hi' hc=>h _ W' hk hi' ⟨b,rfl,hc⟩))
  (fun l pre x a' W hi e hl=>by obtain⟨b,rfl,hc⟩:=e;exact hbody l pre x b W hi hc hl) hdone hstop
end Go.Proofs.YtbkgbhlmeeodgaaGreatDoor
namespace Go.Proofs.YtbkgbhlmeeodgaaGreatDoor.Uc
open Go.RowKit Go.Shelf
attribute [local go_sem] Oper.semAt_some
def RwRf (N0:Nat) (W0:World) (x:RwP) (W:World):Prop:=Is W x.1 x.2∧N0≤W0.heap.size∧∀ a,x.1.dp=some a→W0.heap.size≤a.block
set_option maxRecDepth 100000 in
set_option maxHeartbeats 4000000 in
theorem fiter25 (m l b n c N0:Nat) (P0:Option Addr) (ls:List Rw) (ps:List Pr) (A:Nat→Prop) (hm:1≤m) (hn:n≤100000) (hdec:∀ p∈ps,p.dec.length≤1000) (J Jx:List RwP→World→Prop)
 (hY:∀ pre x W0 W,J pre W0→Below W0.heap.size W0 W→RwRf N0 W0 x W→NxR ps pre x→YieldAt Fence.wide (m-1) Tryz.prog l (rwArr x) W fun e W'=>
  ((e=.returned (.bool true)∧J (pre ++ [x]) W')∨(e=.returned (.bool false)∧Jx (pre ++ [x]) W'))∧Kept A W W')
 (W:World) (hBs:W.cell? ⟨b,0,none⟩=some (.slice P0 n c)) (hS:RAt W P0 n ls) (hI:Ist W ls ps) (hAb:A b) (hP:0<n→∀ a,P0=some a→A a.block) (hD:∀ t∈ls,0<t.dm→∀ a,t.dp=some a→A a.block) (hN0:N0≤W.heap.size) (h0:J [] W):
 CallsIn Fence.wide m Tryz.prog 121 #[.func (.yield l) #[] #[],.pointer (some ⟨b,0,none⟩)] W fun e W'=>(∃ v,e=.returned v) ∧
  ((∃ ys:List RwP,ys.map Prod.snd=ps∧J ys W')∨(∃ pre:List RwP,pre.map Prod.snd <+: ps∧Jx pre W')):=by
 have HLN:=Lib.hid hI.len
 have HYY:=Lib.hid hY
 have HL:=Lib.hid hS.1
 have HP:=Lib.hid hP
 have HD:=Lib.hid hD
 have HAB:=Lib.hid hAb
 have HDC:=Lib.hid hdec
 have H0:Hid (RVRel ls ps P0 b n c N0 J (.int .i64 (0:Nat)) W):=Lib.hid ⟨0,[],rfl,Nat.zero_le _,⟨rfl,rfl⟩,h0,hS,hI,hBs,hN0⟩
 clear hY hS h0 hP hN0 hD hI hAb hdec
 refine callsIn_of_wp Tryz.func121 rfl trivial ?_ rfl
 simp only [Tryz.ntmps121,List.size_toArray,List.length_cons,List.length_nil,Nat.reduceAdd,Nat.reduceSub,Array.replicate_succ,Array.replicate_zero,List.push_toArray,List.append_toArray,List.nil_append,List.cons_append]
 gi_wp2
 gi_loopw [7] (fun i wr=>RVRel ls ps P0 b n c N0 J i wr) (fun i _=>n-(intOf i).toNat)
 case atStart=>exact H0.out
 case round=>
  clear hBs H0
  obtain⟨k,xs,rfl,hkn,⟨hxs,hxl⟩,hJr,hSr,hIr,hbc,hNr⟩:=hrel
  by_cases hlt:k<n
  · obtain⟨b2,off,rfl,hb2,hc⟩:=hSr.2 (by omega)
    obtain⟨s,hs⟩:=getRw (ls:=ls) (k:=k) (by rw [HL.out];exact hlt)
    obtain⟨h1,h2,h3,h4,h5,h6⟩:=hc k s hs
    obtain⟨p,hp,hi⟩:=hIr.get hs
    have hdl:=HDC.out p (List.mem_of_getElem? hp)
    have hbb:b<wr.heap.size:=World.block_lt_of_cell? wr _ hbc
    have b1:∀ o,Below wr.heap.size wr (wr.alloc o):=fun o=>(Below.refl _ _).alloc (Nat.le_refl _) o
    have c26:=fun o=>callsIn_wide (n:=m-1) |>.2 (clone26 s.dp s.dm s.dc (p.dec.map fun c:Nat=>(c:Int)) (wr.alloc o) (hi.2.2.2.2.2.2.below (b1 o)) (by have:=hi.2.2.2.2.2.1;omega))
    have hall:∀ (o:Obj) (W2:World) (A2:Option Addr) (c2:Nat),Below (wr.alloc o).heap.size (wr.alloc o) W2→Hid (Vals W2 A2 s.dm (nums .i64 (p.dec.map fun c:Nat=>(c:Int)))∧∀ a,A2=some a→(wr.alloc o).heap.size≤a.block) →
     Below wr.heap.size wr (W2.setCell ⟨wr.heap.size,5,none⟩ (.slice A2 s.dm c2))∧YieldAt Fence.wide (m-1) Tryz.prog l #[rwV ⟨s.a,s.b,s.gc,s.ccc,s.bd,A2,s.dm,c2⟩] (W2.setCell ⟨wr.heap.size,5,none⟩ (.slice A2 s.dm c2)) fun e W'=>
      ((e=.returned (.bool true)∧J (xs ++ [(⟨s.a,s.b,s.gc,s.ccc,s.bd,A2,s.dm,c2⟩,p)]) W')∨(e=.returned (.bool false)∧Jx (xs ++ [(⟨s.a,s.b,s.gc,s.ccc,s.bd,A2,s.dm,c2⟩,p)]) W'))∧Kept A (W2.setCell ⟨wr.heap.size,5,none⟩ (.slice A2 s.dm c2)) W':=by
     intro o W2 A2 c2 hb hv
     have hbw:Below wr.heap.size wr (W2.setCell ⟨wr.heap.size,5,none⟩ (.slice A2 s.dm c2)):=((b1 o).trans (hb.mono (b1 o).size)).setCell (p:=⟨wr.heap.size,5,none⟩) (Nat.le_refl _) _
     refine⟨hbw,HYY.out xs (⟨s.a,s.b,s.gc,s.ccc,s.bd,A2,s.dm,c2⟩,p) wr _ hJr hbw ⟨⟨hi.1,hi.2.1,hi.2.2.1,hi.2.2.2.1,hi.2.2.2.2.1,hi.2.2.2.2.2.1,vals_set hv.out.1 (fun a e=>by have:=hv.out.2 a e;rw [World.size_alloc] at this;omega)⟩,hNr,fun a e=>Nat.le_trans (b1 o).size (hv.out.2 a e)⟩ ⟨by rw [take_sn hp hxs];exact List.take_prefix _ _,by omega⟩⟩
    have hend:∀ (X W3:World) (x:RwP),Below wr.heap.size wr X→x.2=p→Kept A X W3→J (xs ++ [x]) W3→RVRel ls ps (some ⟨b2,off,none⟩) b n c N0 J (.int .i64 ((k:Int)+1)) W3:=by
     rintro X W3 ⟨s',p'⟩ hbX rfl hk hj
     have hk':Kept A wr W3:=(Kept.of_below hbX).trans hk
     exact⟨k+1,_,by go_num,by omega,⟨take_sn hp hxs,by rw [List.length_append,List.length_singleton,hxl]⟩,hj,hSr.kept hk' HP.out,hIr.kept hk' HD.out,hk'.cell (a:=⟨b,0,none⟩) HAB.out hbc,Nat.le_trans hNr hk'.1⟩
    have HST:∀ s',Hid ((xs ++ [((s',p):RwP)]).map Prod.snd <+: ps):=fun s'=>Lib.hid (by rw [take_sn hp hxs];exact List.take_prefix _ _)
    have HSTH:=Lib.hid HST
    have HE:=Lib.hid hend
    have HA:=Lib.hid hall
    have C26:=Lib.hid c26
    obtain⟨T,hT⟩:∃ T,bs s.gc=T:=⟨_,rfl⟩
    obtain⟨U,hU⟩:∃ U,bs s.bd=U:=⟨_,rfl⟩
    unfold rwV at HA
    simp only [hT,hU] at HA
    rw [hT] at h3
    rw [hU] at h5
    clear hend hall c26 hc hs hJr hSr hIr hi hp hNr hT hU hdl hxs HST b1
    gi_wp2_with (refine⟨trivial,?_⟩;gi_at_call 102;refine ((C26.out _)).mono ?_;rintro e w2 ⟨A2,c2,rfl,hbw2,hV2⟩;obtain⟨⟨e0,e1,e2,e3,e4,e5⟩,ef⟩:=six_box hbw2;obtain⟨hbx,fn,tmps,assign,body,hy,hR⟩:=HA.out _ w2 A2 c2 hbw2 hV2)
    refine hR.mono ?_
    rintro e W3 ⟨⟨rfl,hJ3⟩ | ⟨rfl,hJx3⟩,hk3⟩
    · have R:=Lib.hid (HE.out _ W3 _ hbx rfl hk3 hJ3)
      clear HE
      gi_wp2
      go_roundw
      case rel=>exact R.out
      case measure=>simp [intOf];omega
    · gi_wp2
      refine bodyPost_ret (results_none rfl _ _ _) rfl ?_
      exact⟨⟨_,rfl⟩,.inr ⟨_,(HSTH.out _).out,hJx3⟩⟩
  · have hke:k=n:=by omega
    subst hke
    rw [List.take_of_length_le (by rw [←HLN.out,HL.out];exact Nat.le_refl _)] at hxs
    have HJ3:=Lib.hid hJr
    have HXS:=Lib.hid hxs
    clear hJr hSr hIr hxs hbc
    gi_wp2
    go_end0
    exact⟨⟨_,rfl⟩,.inl ⟨_,HXS.out,HJ3.out⟩⟩
theorem fseq25 (m b n c:Nat) (P0:Option Addr) (ls:List Rw) (ps:List Pr) (A:Nat→Prop) (w:World) (hm:1≤m) (hn:n≤100000) (hdec:∀ p∈ps,p.dec.length≤1000) (hb:b<w.heap.size) (hBs:w.cell? ⟨b,0,none⟩=some (.slice P0 n c)) (hS:RAt w P0 n ls) (hI:Ist w ls ps) (hA:∀ k,k<w.heap.size→(k=b∨(0<n∧∃ a,P0=some a∧a.block=k)∨∃ t∈ls,0<t.dm∧∃ a,t.dp=some a∧a.block=k)→A k):
 SeqNf Fence.wide m Tryz.prog 121 #[.pointer (some ⟨b,0,none⟩)] rwArr (RwRf (w.heap.size+2)) A 0 0 (fun ys=>ys.map Prod.snd=ps) (fun pre=>pre.map Prod.snd <+: ps) (NxR ps) w:=
 fun l J Jx W hW hsz _ _ hY h0=>
  fiter25 m l b n c (w.heap.size+2) P0 ls ps _ hm hn hdec J Jx (fun pre x W0 W1 hj hb hx hl=>hY pre x W0 W1 hj hb hx hl) W ((hW.cell (p:=⟨b,0,none⟩) hb).trans hBs) (hS.below hW) (hI.below hW)
   ⟨hA b hb (.inl rfl),by omega,by omega⟩
   (fun h a e=>have hlt:a.block<w.heap.size:=(by obtain⟨b',off,e',hl,-⟩:=hS.2 h;rw [e] at e';cases e';exact hl);⟨hA _ hlt (.inr (.inl ⟨h,a,e,rfl⟩)),by omega,by omega⟩)
   (fun t ht hd a e=>have hlt:a.block<w.heap.size:=(by obtain⟨p,-,hp⟩:=ist_mem hI ht;obtain⟨b',off,e',hl,-⟩:=hp.2.2.2.2.2.2.2 hd;rw [e] at e';cases e';exact hl);⟨hA _ hlt (.inr (.inr ⟨t,ht,hd,a,e,rfl⟩)),by omega,by omega⟩)
   (by omega) h0
end Go.Proofs.YtbkgbhlmeeodgaaGreatDoor.Uc
namespace Go.Proofs.YtbkgbhlmeeodgaaGreatDoor.Uc
open Go.RowKit
theorem bs_emp (l:List UInt8):(bs l).toList.isEmpty=decide (l = []):=by
 have e:(bs l).toList=l:=by rw [Lib.toList_data,bs_data]
 rw [e,Bool.eq_iff_iff,decide_eq_true_eq,List.isEmpty_iff]
theorem flds {w:World} {F:Option Addr} {f:List (List UInt8)} {n:Nat} (h:Vals w F n (strs f)) (hn:n=15):∃ b off,F=some ⟨b,off,none⟩∧b<w.heap.size∧w.cell? ⟨b,off,none⟩=some (.string (bs (fld f 0)))∧w.cell? ⟨b,off+1,none⟩=some (.string (bs (fld f 1)))∧w.cell? ⟨b,off+2,none⟩=some (.string (bs (fld f 2)))∧w.cell? ⟨b,off+3,none⟩=some (.string (bs (fld f 3)))∧w.cell? ⟨b,off+4,none⟩=some (.string (bs (fld f 4)))∧w.cell? ⟨b,off+5,none⟩=some (.string (bs (fld f 5))):=by
 have hl:f.length=n:=by have:=h.1;rwa [strs_length] at this
 obtain⟨b,off,rfl,hlt,hc⟩:=h.2 (by omega)
 exact⟨b,off,rfl,hlt,hc 0 _ (strs_get (by omega)),hc 1 _ (strs_get (by omega)),hc 2 _ (strs_get (by omega)),hc 3 _ (strs_get (by omega)),hc 4 _ (strs_get (by omega)),hc 5 _ (strs_get (by omega))⟩
theorem fld_len {f:List (List UInt8)} (h:∀ x∈f,x.length≤4000) (k:Nat):(fld f k).length≤4000:=by
 unfold fld
 rw [List.getD_eq_getElem?_getD]
 cases hk:f[k]? with
 | none=>simp
 | some x=>exact h x (List.mem_of_getElem? hk)
theorem decv_ge:∀ (l:List UInt8) (a b:Nat),decv a l=some b→a≤b
 | [],a,b,h=>by simp [decv] at h;omega
 | x::l,a,b,h=>by
  unfold decv at h
  split at h
  · have:=decv_ge l _ _ h;omega
  · cases h
def cccP (l:List UInt8):Value:=if 0≤cccOf l then .tuple #[.int .i64 (cccOf l),.bool true] else .tuple #[.int .i64 0,.bool false]
theorem cccP_no {l:List UInt8} (h:cccOf l = -1):cccP l=.tuple #[.int .i64 0,.bool false]:=by unfold cccP;rw [h];rfl
theorem cccP_yes {l:List UInt8} {a:Nat} (h:cccOf l=a):cccP l=.tuple #[.int .i64 a,.bool true]:=by unfold cccP;rw [h,if_pos (by omega)]
theorem ccc_more {l:List UInt8} {k a:Nat} (h:decv 0 l=decv a (l.drop k)) (ha:254<a):cccOf l = -1:=by
 cases hd:decv a (l.drop k) with
 | none=>rw [hd] at h;exact ccc_none h
 | some b=>
  have:=decv_ge _ _ _ hd
  rw [hd] at h
  exact ccc_big h (by omega)
theorem ccc_full {l:List UInt8} {a:Nat} (h0:l.length=1∨(1<l.length∧¬oct l 0=48∧10 ^ (l.length-1)≤a)) (h:decv 0 l=some a) (ha:a≤254):cccOf l=a:=by
 refine ccc_yes a ?_ h (by omega)
 rcases h0 with h1 | ⟨h1,h2,h3⟩
 · omega
 · have:l.length≤3:=by
    rcases Nat.lt_or_ge 3 l.length with h | h
    · have:(10:Nat) ^ 3≤10 ^ (l.length-1):=Nat.pow_le_pow_right (by decide) (by omega)
      omega
    · exact h
   omega
set_option maxRecDepth 100000 in
set_option maxHeartbeats 4000000 in
theorem ccc57 (l:List UInt8) (w:World) (hl:l.length≤1000000):Calls Tryz.prog 174 #[.string (bs l)] w fun e w'=>e=.returned (cccP l)∧Below w.heap.size w w':=by
 by_cases hne:l = []
 · have hc:cccOf l = -1:=ccc_out (Or.inl (by rw [hne];decide))
   have HP:=Lib.hid (cccP_no hc)
   subst hne
   rw [bs_nil]
   clear hc
   go_enter Tryz.func174,Tryz.ntmps174
   go_wp2
   go_ret2
   exact⟨by rw [HP.out];rfl,Below.refl _ _⟩
 have hlen:0<l.length:=List.length_pos_iff.2 hne
 have hsz:=bs_size l
 have hemp:=bs_some hne
 have htl:=bs_toList' l
 have HNE:=Lib.hid hne
 clear hne
 obtain⟨n,hn⟩:∃ n,l.length=n:=⟨_,rfl⟩
 have hz:=bs_oct l 0
 have hzr:=oct_range l 0
 have HX:=Lib.hid (fun k=>bs_oct l k)
 rw [hn] at hsz hl hlen
 have HN:=Lib.hid hn
 clear hn
 obtain⟨Z,hZ⟩:∃ Z,oct l 0=Z:=⟨_,rfl⟩
 rw [hZ] at hz hzr
 have HZ:=Lib.hid hZ
 clear hZ
 obtain⟨hz0,hz1⟩:=hzr
 obtain⟨S,hS⟩:∃ S,bs l=S:=⟨_,rfl⟩
 rw [hS] at hsz hemp htl hz HX ⊢
 have HS:=Lib.hid hS
 clear hS
 by_cases hbad:Z=48∧¬l = [48]
 · obtain⟨rfl,hl1⟩:=hbad
   have hq:(S.toList == [48])=false:=by rw [htl];exact beq_false_of_ne hl1
   have hc:cccOf l = -1:=by
    refine ccc_out (Or.inr (Or.inr ⟨?_,HZ.out⟩))
    have h1:=HN.out
    rcases Nat.lt_or_ge 1 n with h | h
    · omega
    · exfalso
      obtain⟨x,hx⟩:=List.length_eq_one_iff.1 (show l.length=1 by omega)
      subst hx
      have:=HZ.out
      unfold oct at this
      have e:x=48:=UInt8.toNat_inj.1 (by have h2:(x.toNat:Int)=48:=this;show x.toNat=48;omega)
      exact hl1 (by rw [e])
   have HP:=Lib.hid (cccP_no hc)
   clear hl1 htl hc HX
   go_enter Tryz.func174,Tryz.ntmps174
   go_wp2
   go_ret2
   exact⟨by rw [HP.out];rfl,Below.refl _ _⟩
 have hfirst:n=1∨¬Z=48:=by
  by_cases h48:Z=48
  · refine .inl ?_
    have h1:=HN.out
    by_cases hl1:l = [48]
    · rw [hl1] at h1;simp at h1;omega
    · exact absurd ⟨h48,hl1⟩ hbad
  · exact .inr h48
 have hY:∀ a:Nat,decv 0 l=some a→a≤254→(n=1∨(1≤n∧10 ^ (n-1)≤a))→cccP l=.tuple #[.int .i64 a,.bool true]:=fun a h ha h10=>by
  refine cccP_yes (ccc_full ?_ h ha)
  rw [HN.out,HZ.out]
  omega
 have HF:=Lib.hid hfirst
 have HY:=Lib.hid hY
 have htest:(Z=48∧(S.toList == [48])=true)∨(Z==48)=false:=by
  by_cases h48:Z=48
  · by_cases hl1:l = [48]
    · exact .inl ⟨h48,by rw [htl,hl1];rfl⟩
    · exact absurd ⟨h48,hl1⟩ hbad
  · exact .inr (beq_false_of_ne h48)
 clear hbad hfirst hY htl
 rcases htest with ⟨rfl,hq⟩ | hq
 all_goals
  go_enter Tryz.func174,Tryz.ntmps174
  go_wp2
  clear hz hq hemp
  go_loopw [4] (fun c wr=>∃ (k a:Nat),c=.int .i64 a∧wr=w.iter S k∧k≤n∧a≤254∧decv 0 l=decv a (l.drop k)∧(n=1∨(k=0∧a=0)∨(1≤k∧10 ^ (k-1)≤a))) (fun _ wr=>n-wr.iterPos w.heap.size)
  case atStart=>exact⟨0,0,rfl,rfl,Nat.zero_le _,by decide,rfl,.inr (.inl ⟨rfl,rfl⟩)⟩
  case round=>
   obtain⟨k,a,rfl,rfl,hkn,ha,hv,h10⟩:=hrel
   have H10:=Lib.hid h10
   clear h10
   by_cases hlt:k<n
   · have hlt':k<l.length:=by rw [HN.out];exact hlt
     have hx:=HX.out k
     have hxr:=oct_range l k
     have hk0:k=0→oct l k=oct l 0:=fun h=>by rw [h]
     rw [HZ.out] at hk0
     rw [decv_drop hlt'] at hv
     obtain⟨X,hX⟩:∃ X,oct l k=X:=⟨_,rfl⟩
     rw [hX] at hx hv hxr hk0
     clear hX hlt'
     obtain⟨hx0,hx1⟩:=hxr
     have HK0:=Lib.hid hk0
     clear hk0
     have hks:k<S.size:=by rw [hsz];exact hlt
     by_cases hasc:X<128
     · have hnx:=next_low (P:=Tryz.prog) (w:=w) hks hx hasc
       clear hx hks
       by_cases g1:X<48
       · rw [if_neg (by omega)] at hv
         have HV:=Lib.hid (cccP_no (ccc_none hv))
         clear hv
         go_wp2
         go_ret2
         exact⟨by rw [HV.out];rfl,below_iter w S _⟩
       by_cases g2:57<X
       · rw [if_neg (by omega)] at hv
         have HV:=Lib.hid (cccP_no (ccc_none hv))
         clear hv
         go_wp2
         go_ret2
         exact⟨by rw [HV.out];rfl,below_iter w S _⟩
       rw [if_pos (by omega)] at hv
       have hg2:X≤57:=by omega
       have hg1:48≤X:=by omega
       by_cases hbig:254<a*10+(X-48).toNat
       · have HP:=Lib.hid (cccP_no (ccc_more hv hbig))
         have hbi:254<10*(a:Int)+(X-48):=by omega
         clear hv hbig
         go_wp2
         go_ret2
         exact⟨by rw [HP.out];rfl,below_iter w S _⟩
       · have HV:=Lib.hid hv
         have hbi:10*(a:Int)+(X-48)≤254:=by omega
         clear hv
         go_wp2
         go_roundw
         case rel=>
          refine⟨k+1,a*10+(X-48).toNat,val_int (by omega),rfl,by omega,by omega,HV.out,?_⟩
          rcases H10.out with h | ⟨h,h'⟩ | ⟨h,h'⟩
          · exact .inl h
          · rcases HF.out with h1 | h1
            · exact .inl h1
            · have:=HK0.out h
              refine .inr (.inr ⟨by omega,?_⟩)
              have hX48:¬X=48:=by rw [this];first | exact h1 | exact absurd trivial h1
              rw [h,h']
              have e:(X-48).toNat≥1:=by omega
              show 1≤0*10+(X-48).toNat
              omega
          · refine .inr (.inr ⟨by omega,?_⟩)
            obtain⟨j,rfl⟩:∃ j,k=j+1:=⟨k-1,by omega⟩
            rw [Nat.add_sub_cancel] at h' ⊢
            rw [Nat.pow_succ]
            omega
         case measure=>simp;omega
     · obtain⟨R,d,hR1,hR2,hnx⟩:=next_high (P:=Tryz.prog) (w:=w) hks hx hasc
       rw [if_neg (by omega)] at hv
       have HV:=Lib.hid (cccP_no (ccc_none hv))
       clear hv hx hks
       go_wp2
       go_ret2
       exact⟨by rw [HV.out];rfl,below_iter w S _⟩
   · have hke:k=n:=by omega
     subst hke
     rw [List.drop_of_length_le (by rw [HN.out];exact Nat.le_refl _)] at hv
     have HP:=Lib.hid (HY.out a hv ha (by have:=H10.out;rcases this with h | h | h;exact .inl h;omega;exact .inr h))
     have hks:¬k<S.size:=by rw [hsz];exact hlt
     have hnx:∀ ty,(Instr.next (.pointer (some ⟨w.heap.size,0,none⟩)) true ty).run Tryz.prog (w.iter S k)=.ok (.tuple #[.bool false]) (w.iter S k):=fun ty=>run_next_end w S k ty hks
     clear hv hks hlt
     go_wp2
     go_ret2
     exact⟨by rw [HP.out];rfl,below_iter w S _⟩
end Go.Proofs.YtbkgbhlmeeodgaaGreatDoor.Uc
