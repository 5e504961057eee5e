/- A part. -/
import Derived.Test.YtmellioacefjjaaGreatDoorQA00
import Derived.BigQuiet
import Derived.RangeFuncNested
import Derived.RangeFuncBound
import Derived.RangeFuncCalls
import Derived.RangeFuncLeaves
import Derived.Lib.FrozenHead
import Derived.Laws.OwnMore
import Derived.OwnWalkIn
namespace Go.Proofs.YtmellioacefjjaaGreatDoor
open Go.RowKit
theorem front (x:UInt8) (m:List UInt8):(bs (x::m)).size=m.length+1∧(∀ h,(((bs (x::m))[0]'h).toNat:Int)=x.toNat)∧(bs (x::m)).extract 1 (m.length+1)=bs m:=by
 refine⟨by rw [bs_size];rfl,fun h=>by rw [bs_get];rfl,?_⟩
 rw [bs_ext]
 simp
theorem back (x:UInt8) (m:List UInt8):(bs (m ++ [x])).size=m.length+1∧(∀ h,(((bs (m ++ [x]))[m.length]'h).toNat:Int)=x.toNat)∧(bs (m ++ [x])).extract 0 m.length=bs m:=by
 refine⟨by rw [bs_size];simp,fun h=>by rw [bs_get];simp,?_⟩
 rw [bs_ext]
 simp
theorem sp_pos {x:UInt8} (h:sp x=true):(x.toNat:Int)=32∨(x.toNat:Int)=9:=by
 simp [sp] at h
 rcases h with rfl | rfl
 · left;rfl
 · right;rfl
theorem sp_neg {x:UInt8} (h:sp x=false):((x.toNat:Int)==32)=false∧((x.toNat:Int)==9)=false:=by
 simp [sp] at h
 refine⟨beq_false_of_ne fun e=>h.1 ?_,beq_false_of_ne fun e=>h.2 ?_⟩
 · exact (u8_int x 32).1 e
 · exact (u8_int x 9).1 e
set_option maxHeartbeats 1000000 in
theorem trim21 (l:List UInt8) (w:World) (hl:l.length≤1000000):
 Calls Tryz.prog 101 #[.string (bs l)] w fun e w'=>e=.returned (.string (bs (trim l)))∧w=w':=by
 go_enter Tryz.func101,Tryz.ntmps101
 go_wp2
 go_loop [0] (fun v=>∃ m,v=.string (bs m)∧ltrim m=ltrim l∧m.length≤l.length) (fun v=>Lib.strSize v)
 case atStart=>exact⟨l,rfl,rfl,Nat.le_refl _⟩
 case round=>
  obtain⟨m,rfl,hm,hml⟩:=hrel
  have HM:=Lib.hid hm
  clear hm
  have step:(∃ x m',m=x::m'∧sp x=true)∨(ltrim m=m∧((bs m).size=0∨∃ n,(bs m).size=n+1∧∃ X:Int,(∀ h,(((bs m)[0]'h).toNat:Int)=X)∧(X==32)=false∧(X==9)=false)):=by
   rcases m with - | ⟨x,m⟩
   · exact .inr ⟨rfl,.inl rfl⟩
   · cases hs:sp x with
     | true=>exact .inl ⟨x,m,rfl,hs⟩
     | false=>exact .inr ⟨ltrim_cons_neg hs,.inr ⟨m.length,(front x m).1,_,(front x m).2.1,sp_neg hs⟩⟩
  rcases step with ⟨x,m,rfl,hs⟩ | ⟨hfix,hstop⟩
  · obtain⟨h1,h2,h3⟩:=front x m
    simp only [List.length_cons] at hml
    have HM2:Hid (ltrim m=ltrim l):=by rw [←HM.out,ltrim_cons_pos hs];rfl
    obtain⟨t,ht⟩:∃ t,bs (x::m)=t:=⟨_,rfl⟩
    rw [ht] at h1 h2 h3 ⊢
    have hst:Lib.strSize (.string t)=m.length+1:=by rw [Lib.strSize_string,h1]
    clear ht HM
    rcases sp_pos hs with hx | hx
    all_goals
     rw [hx] at h2
     clear hx hs
     go_wp2
     go_round
     case rel=>exact⟨m,rfl,HM2.out,by omega⟩
     case measure=>rw [hst,Lib.strSize_string,bs_size];omega
  · have HT:Hid (rtrim m=trim l):=by unfold trim;rw [←HM.out,hfix];rfl
    have HT0:Hid (∃ m2,(Value.string (bs m))=.string (bs m2)∧rtrim m2=trim l∧m2.length≤l.length):=⟨m,rfl,HT.out,hml⟩
    clear HM hfix HT
    obtain⟨t,ht⟩:∃ t,bs m=t:=⟨_,rfl⟩
    rw [ht] at hstop HT0 ⊢
    clear ht
    rcases hstop with h0 | ⟨n,h0,X,hX,hX1,hX2⟩
    all_goals
     go_wp2
     clear h0
     try clear hX hX1 hX2
     go_loop [0] (fun v=>∃ m2,v=.string (bs m2)∧rtrim m2=trim l∧m2.length≤l.length) (fun v=>Lib.strSize v)
     case atStart=>exact HT0.out
     case round=>
      clear HT0
      obtain⟨m2,rfl,hm2,hm2l⟩:=hrel
      have HM2:=Lib.hid hm2
      clear hm2
      have step2:(∃ x m',m2=m' ++ [x]∧sp x=true)∨(rtrim m2=m2∧((bs m2).size=0∨∃ n,(bs m2).size=n+1∧n<1000000∧∃ X:Int,(∀ h,(((bs m2)[n]'h).toNat:Int)=X)∧(X==32)=false∧(X==9)=false)):=by
       rcases List.eq_nil_or_concat m2 with rfl | ⟨m',x,rfl⟩
       · exact .inr ⟨rfl,.inl rfl⟩
       · rw [List.concat_eq_append] at hm2l ⊢
         cases hs:sp x with
         | true=>exact .inl ⟨x,m',rfl,hs⟩
         | false=>exact .inr ⟨rtrim_snoc_neg hs,.inr ⟨m'.length,(back x m').1,by simp at hm2l;omega,_,(back x m').2.1,sp_neg hs⟩⟩
      rcases step2 with ⟨x,m',rfl,hs⟩ | ⟨hfix,hstop⟩
      · obtain⟨h1,h2,h3⟩:=back x m'
        simp only [List.length_append,List.length_cons,List.length_nil] at hm2l
        have HM3:Hid (rtrim m'=trim l):=by rw [←HM2.out,rtrim_snoc_pos hs];rfl
        obtain⟨t2,ht⟩:∃ t,bs (m' ++ [x])=t:=⟨_,rfl⟩
        rw [ht] at h1 h2 h3 ⊢
        have hst:Lib.strSize (.string t2)=m'.length+1:=by rw [Lib.strSize_string,h1]
        clear ht HM2
        obtain⟨N,hN⟩:∃ N,m'.length=N:=⟨_,rfl⟩
        rw [hN] at h1 h2 h3 hst hm2l
        have HN:=Lib.hid hN
        clear hN
        rcases sp_pos hs with hx | hx
        all_goals
         rw [hx] at h2
         clear hx hs
         go_wp2
         go_round
         case rel=>exact⟨m',rfl,HM3.out,by rw [HN.out];omega⟩
         case measure=>rw [hst,Lib.strSize_string,bs_size,HN.out];omega
      · have HR:Hid (bs m2=bs (trim l)):=by rw [←HM2.out,hfix];rfl
        clear HM2 hfix
        obtain⟨t2,ht⟩:∃ t,bs m2=t:=⟨_,rfl⟩
        rw [ht] at hstop HR ⊢
        clear ht
        rcases hstop with h0 | ⟨n,h0,hn,X,hX,hX1,hX2⟩
        all_goals
         go_wp2
         go_ret
         exact⟨ret_str HR.out,rfl⟩
def Kept (A:Nat→Prop) (W W':World):Prop:=W.heap.size≤W'.heap.size∧∀ k,A k→k<W.heap.size→W'.heap[k]? = W.heap[k]?
theorem Kept.refl (A:Nat→Prop) (W:World):Kept A W W:=⟨Nat.le_refl _,fun _ _ _=>rfl⟩
theorem Kept.trans {A:Nat→Prop} {W W1 W2:World} (h:Kept A W W1) (k:Kept A W1 W2):Kept A W W2:=
 ⟨Nat.le_trans h.1 k.1,fun i hA hi=>(k.2 i hA (Nat.lt_of_lt_of_le hi h.1)).trans (h.2 i hA hi)⟩
theorem Kept.mono {A A':Nat→Prop} {W W':World} (h:Kept A W W') (hA:∀ k,A' k→A k):Kept A' W W':=⟨h.1,fun i hi hl=>h.2 i (hA i hi) hl⟩
theorem Kept.of_below {A:Nat→Prop} {W W':World} (h:Below W.heap.size W W'):Kept A W W':=⟨h.size,fun k _ hk=>h.block k hk⟩
theorem Kept.alloc {A:Nat→Prop} (W:World) (o:Obj):Kept A W (W.alloc o):=.of_below ((Below.refl _ _).alloc (Nat.le_refl _) _)
theorem Kept.grown {A:Nat→Prop} {W W':World} {row:Option Nat} (h:W.grownBy W' row) (hr:∀ r,row=some r→¬A r):Kept A W W':=⟨h.size,fun k hA hk=>h.block k hk (fun e=>hr k e.symm hA)⟩
theorem Kept.setCell {A:Nat→Prop} (W:World) (b:Nat) (v:Value) (hb:¬A b):Kept A W (W.setCell ⟨b,0,none⟩ v):=
 .grown (grownBy_setCell' W b v) (fun r e=>by cases e;exact hb)
theorem Kept.putObj {A:Nat→Prop} (W:World) (l:Nat) (o:Obj) (hb:¬A l):Kept A W (W.putObj l o):=
 .grown (grownBy_putObj' W l o) (fun r e=>by cases e;exact hb)
theorem Kept.cell {A:Nat→Prop} {W W':World} {a:Addr} {v:Value} (h:Kept A W W') (hA:A a.block) (hc:W.cell? a=some v):W'.cell? a=some v:=by
 obtain⟨o,ho,_⟩:=cells_of_cell hc
 exact (World.cell?_of_block (h.2 _ hA (Array.getElem?_eq_some_iff.1 ho).1)).trans hc
def Abide {β:Type} (n₀ n₁ B:Nat) (J:β → World→Prop):Prop:=
 ∀ s W W' row,J s W→W.grownBy W' row→(∀ r,row=some r→(n₀ ≤ r∧r<n₁)∨(B≤r∧∃ o:Obj,W.heap[r]? = some o∧o.isCells=false))→J s W'
theorem Abide.mono {β:Type} {n₀ n₁ m₀ m₁ B C:Nat} {J:β → World→Prop} (h:Abide n₀ n₁ B J) (hm:∀ r,m₀ ≤ r→r<m₁ → n₀ ≤ r∧r<n₁) (hB:B≤C):Abide m₀ m₁ C J:=
 fun s W W' row hs hg hr=>h s W W' row hs hg (fun r e=>(hr r e).elim (fun h=>.inl (hm r h.1 h.2)) (fun h=>.inr ⟨Nat.le_trans hB h.1,h.2⟩))
theorem Abide.and {β:Type} {n₀ n₁ B:Nat} {J K:β → World→Prop} (h:Abide n₀ n₁ B J) (k:Abide n₀ n₁ B K):Abide n₀ n₁ B (fun s W=>J s W∧K s W):=
 fun s W W' row hs hg hr=>⟨h s W W' row hs.1 hg hr,k s W W' row hs.2 hg hr⟩
theorem Abide.pure {β:Type} (n₀ n₁ B:Nat) (p:β → Prop):Abide n₀ n₁ B (fun s (_:World)=>p s):=fun _ _ _ _ hs _ _=>hs
theorem Abide.below {β:Type} {n₀ n₁ B:Nat} {J:β → World→Prop} (h:Abide n₀ n₁ B J) {s:β} {W W':World} (hs:J s W) (hb:Below W.heap.size W W'):J s W':=
 h s W W' none hs ⟨hb.os,hb.tape,hb.output,hb.size,fun k hk _=>hb.block k hk⟩ (fun r e=>by cases e)
theorem Abide.put {β:Type} {n₀ n₁ B:Nat} {J:β → World→Prop} (h:Abide n₀ n₁ B J) {s:β} {W:World} {l:Nat} {o o':Obj} (hs:J s W) (hB:B≤l) (hl:W.heap[l]? = some o) (ho:o.isCells=false):J s (W.putObj l o'):=
 h s W _ (some l) hs (grownBy_putObj' W l o') (fun r e=>by cases e;exact .inr ⟨hB,o,hl,ho⟩)
theorem abide_cell {β:Type} {n₀ n₁ B:Nat} (a:β → Addr) (v:β → Value) (ha:∀ s,¬(n₀ ≤ (a s).block∧(a s).block<n₁)):Abide n₀ n₁ B (fun s W=>W.cell? (a s)=some (v s)∧W.frozen? (a s)=false):=by
 intro s W W' row hs hg hr
 obtain⟨o,ho,hc⟩:=cells_of_cell hs.1
 have hblk:W'.heap[(a s).block]? = W.heap[(a s).block]?:=hg.block _ (Array.getElem?_eq_some_iff.1 ho).1 (fun e=>by
  rcases hr _ e.symm with h | ⟨_,o',ho',hc'⟩
  · exact ha s h
  · rw [ho] at ho';cases ho';rw [hc] at hc';cases hc')
 refine⟨(World.cell?_of_block hblk).trans hs.1,?_⟩
 have:=hs.2
 unfold World.frozen? at this ⊢
 rw [hblk]
 exact this
theorem abide_below {β:Type} {n₀ n₁ B n:Nat} (w₀:World) (h0:n≤n₀ ∨ n₁ ≤ n₀) (hB:n≤B) (hn:n≤w₀.heap.size):Abide n₀ n₁ B (fun (_:β) W=>Below n w₀ W):=by
 intro _ W W' row hs hg hr
 refine hs.grown hg (Nat.le_trans hn hs.size) (fun r e=>?_)
 rcases hr r e with h | ⟨h,_⟩ <;> omega
def SeqOwn {α:Type} (F:Fence) (n:Nat) (P:Program) (g:Nat) (lb:Array Value) (encs:α → Array Value) (Rd:α → World→Prop) (A:Nat→Prop) (n₀ n₁:Nat) (S Sp:List α → Prop) (N:Nat) (w:World):Prop:=
 ∀ (l:Nat) (J Jx:List α → World→Prop) (W:World),Below w.heap.size w W→W.heap.size=w.heap.size+2→Abide n₀ n₁ W.heap.size J→Abide n₀ n₁ W.heap.size Jx →
  (∀ pre x W1,J pre W1→Rd x W1→pre.length<N→YieldAt F (n-1) P l (encs x) W1 fun e W'=>
   ((e=.returned (.bool true)∧J (pre ++ [x]) W')∨(e=.returned (.bool false)∧Jx (pre ++ [x]) W'))∧Kept (fun k=>A k∧k≠w.heap.size∧k≠w.heap.size+1) W1 W') →
  J [] W →
  CallsIn F n P g (#[.func (.yield l) #[] #[]]++lb) W fun e W'=>(∃ v,e=.returned v)∧((∃ xs,S xs∧J xs W')∨(∃ pre,Sp pre∧Jx pre W'))
def roundEnd {α:Type} (A:Nat→Prop) (I:List α → World→Prop) (Ix:Code→List α → World→Prop) (xs:List α) (W:World):Exit→Act→World→Prop
 | .normal,_,W'=>Kept A W W'∧I xs W'
 | .ret,_,W'=>Kept A W W'∧Ix .ret xs W'
 | .exit id,_,W'=>Kept A W W'∧Ix (.exit id) xs W'
 | .goto t,_,W'=>Kept A W W'∧Ix (.goto t) xs W'
 | .panic _,_,_=>False
 | .outgrown,_,_=>False
def Book (lo:Nat) (r:Loop) (W:World):Prop:=W.heap[lo+1]? = some (.loop r)∧W.heap[lo]? = some (.deferred (some []))
theorem Book.put {lo:Nat} {r:Loop} {W:World} (h:Book lo r W) (r':Loop):Book lo r' (W.putObj (lo+1) (.loop r')):=
 ⟨World.putObj_heap_same (Array.getElem?_eq_some_iff.1 h.1).1,(World.putObj_heap_other (by omega)).trans h.2⟩
theorem Book.kept {lo:Nat} {r:Loop} {A:Nat→Prop} {W W':World} (h:Book lo r W) (hk:Kept A W W') (h0:A lo) (h1:A (lo+1)):Book lo r W':=
 ⟨(hk.2 _ h1 (Array.getElem?_eq_some_iff.1 h.1).1).trans h.1,(hk.2 _ h0 (Array.getElem?_eq_some_iff.1 h.2).1).trans h.2⟩
theorem Book.abide {β:Type} {lo n₀ n₁ B:Nat} (hn:n₁ ≤ lo) (hB:lo+2≤B) (r:Loop):Abide n₀ n₁ B (fun (_:β) W=>Book lo r W):=by
 intro _ W W' row hs hg hr
 have key:∀ k,lo≤k→k<lo+2→k<W.heap.size→W'.heap[k]? = W.heap[k]?:=fun k h1 h2 h3=>hg.block k h3 (fun e=>by
  rcases hr k e.symm with h | ⟨h,_⟩ <;> omega)
 exact⟨(key _ (by omega) (by omega) (Array.getElem?_eq_some_iff.1 hs.1).1).trans hs.1,(key _ (by omega) (by omega) (Array.getElem?_eq_some_iff.1 hs.2).1).trans hs.2⟩
theorem range_own {F:Fence} {n:Nat} {P:Program} {α:Type} {g:Operand} {ps:Array Tmp} {assign body:Code} {Q:Exit→Act→World→Prop} {a:Act} {w:World}
 (hro:F.round=none) (hn:1≤n) {gf:Nat} {lb:Array Value} (hg:a.eval g=.func (.func gf) #[] lb) (hFg:F.fn gf) (eg:∀ args w,(callFunc gf args).run P w=.ok (.enter gf args) w)
 {encs:α → Array Value} {Rd:α → World→Prop} {A:Nat→Prop} {n₀ n₁:Nat} {S Sp:List α → Prop} {N:Nat} (hseq:SeqOwn F (n-1) P gf lb encs Rd A n₀ n₁ S Sp N w)
 (hn₁:n₁ ≤ w.heap.size) (hA0:A w.heap.size) (hA1:A (w.heap.size+1)) (hps:∀ x,(encs x).size=ps.size) (hRd:∀ x,Abide n₀ n₁ w.heap.size (fun (_:Unit) W=>Rd x W))
 (I:List α → World→Prop) (Ix:Code→List α → World→Prop) (hI:Abide n₀ n₁ w.heap.size I) (hIx:∀ c,Abide n₀ n₁ w.heap.size (Ix c)) (h0:I [] w) (Ax:α → Act→World→Prop) (hAx:∀ x a',Abide n₀ n₁ w.heap.size (fun (_:Unit) W=>Ax x a' W))
 (hassign:∀ (l:Nat) (pre:List α) (x:α) (W:World) (K:Act→World→Prop),I pre W→Rd x W→(∀ a' W',Kept A W W'→I pre W'→Rd x W'→Ax x a' W'→K a' W') →
  assign.wpIn (F.inRound l) (n-1-1) P (Exit.then K (fun _ _ _=>False)) { tmps:=(ps.zip (encs x)).foldl (fun t (p,v)=>t.setIfInBounds p v) a.tmps,defers:=[] } W)
 (hbody:∀ (l:Nat) (pre:List α) (x:α) (a':Act) (W:World),I pre W→Rd x W→Ax x a' W→pre.length<N→body.wpIn (F.inRound l) (n-1-1) P (roundEnd A I Ix (pre ++ [x]) W) a' W)
 (hdone:∀ (D:Nat) (xs:List α) (W:World),w.heap.size≤D→S xs→I xs W→W.heap[D]? = some (.deferred (some []))→Q .normal { a with defers:={ target:=.collected D,args:=#[] } :: a.defers } W)
 (hstop:∀ (D:Nat) (c:Code) (pre:List α) (W:World),w.heap.size≤D→Sp pre→Ix c pre W→W.heap[D]? = some (.deferred (some []))→c.wpIn F n P Q { a with defers:={ target:=.collected D,args:=#[] } :: a.defers } W):
 (Code.rangeFunc g ps assign body).wpIn F n P Q a w:=by
 refine wpIn_rangeFunc fun fn hfn=>?_
 rw [hro]
 generalize hlo:w.heap.size=lo at *
 have mk:∀ st pe,∃ r:Loop,r = { state:=st,pending:=pe,fn:=fn,tmps:=a.tmps,params:=ps,assign:=assign,body:=body,defers:=lo }:=fun _ _=>⟨_,rfl⟩
 obtain⟨r0,e0⟩:=mk .ready none
 have hbk:Book lo r0 ((w.alloc (.deferred (some []))).alloc (.loop r0)):=by
  have h1:=World.alloc_heap_new (w.alloc (.deferred (some []))) (.loop r0)
  rw [World.size_alloc,hlo] at h1
  have h2:=World.alloc_heap_new w (.deferred (some []))
  rw [hlo] at h2
  exact⟨h1,(Below.heap_alloc _ _ _ (by rw [World.size_alloc,hlo];omega)).trans h2⟩
 have hbw:Below w.heap.size w ((w.alloc (.deferred (some []))).alloc (.loop r0)):=((Below.refl _ w).alloc (Nat.le_refl _) _).alloc (by simp) _
 have hI1:I [] ((w.alloc (.deferred (some []))).alloc (.loop r0)):=hI.below h0 hbw
 have hsz:((w.alloc (.deferred (some []))).alloc (.loop r0)).heap.size=lo+2:=by rw [World.size_alloc,World.size_alloc,hlo]
 have hent:(Instr.enterLoop fn a.tmps ps assign body none).run P w=.ok (lo+1,[{ target:=.collected lo,args:=#[] }]) ((w.alloc (.deferred (some []))).alloc (.loop r0)):=by
  rw [e0,←hlo];exact run_enterLoop_outer _ _ _ _ _
 generalize (w.alloc (.deferred (some []))).alloc (.loop r0)=W1 at hbk hbw hI1 hsz hent
 refine⟨lo+1,_,W1,{ target:=.fn (.func gf) lb,args:=#[.func (.yield (lo+1)) #[] #[]] },W1,gf,#[.func (.yield (lo+1)) #[] #[]]++lb,W1,hent,?_,?_,?_,fun _=>hn,?_⟩
 · simp only [resolve,hg]
   simp [go_sem]
 · intro f' hf'
   simp [Target.leads] at hf'
   subst hf'
   exact hFg
 · simp [invoke,go_sem,eg]
 have hmn:∀ r,n₀ ≤ r→r<n₁ → n₀ ≤ r∧r<n₁:=fun _ h h'=>⟨h,h'⟩
 have hle:lo≤W1.heap.size:=by omega
 have hs1:=hseq (lo+1) (fun pre W=>I pre W∧Book lo r0 W) (fun pre W=>∃ c,Ix c pre W∧Book lo { r0 with state:=.done,pending:=some c } W) W1 hbw (by rw [hsz,hlo])
  ((hI.mono hmn hle).and (Book.abide hn₁ (by omega) r0))
  (fun s X Y row hs hg hr=>by
   obtain⟨c,h1,h2⟩:=hs
   exact⟨c,(hIx c).mono hmn hle s X Y row h1 hg hr,Book.abide (β:=Unit) hn₁ (by omega) _ () X Y row h2 hg hr⟩) ?_ ⟨hI1,hbk⟩
 · refine hs1.mono ?_
   rintro e W2 ⟨⟨v,rfl⟩,(⟨xs,hS,hi,hb⟩ | ⟨pre,hSp,c,hi,hb⟩)⟩
   · have he:=run_endLoop (P:=P) hb.1 (by rw [e0];simp)
     refine⟨none,_,by rw [he,e0],hdone lo xs _ (Nat.le_refl _) hS (hI.put hi (by omega) hb.1 rfl) (hb.put _).2⟩
   · have he:=run_endLoop (P:=P) hb.1 (by simp)
     exact⟨some c,_,he,hstop lo c pre _ (Nat.le_refl _) hSp ((hIx c).put hi (by omega) hb.1 rfl) (hb.put _).2⟩
 · rintro pre x W ⟨hi,hb⟩ hrd hlen
   have hy:=run_yield (P:=P) (args:=encs x) hb.1 (by rw [e0];exact hps x)
   refine⟨fn,_,assign,body,by rw [hy,e0],roundIn_of_wpIn hfn ?_⟩
   refine hassign _ pre x W _ hi hrd ?_
   intro a' Wa hka hia hrda hax
   have hba:=hb.kept hka hA0 hA1
   refine⟨_,run_beginRound hba.1 (by rw [e0]),?_⟩
   have hbb:=hba.put { r0 with state:=.busy }
   have kp:Kept (fun k=>A k∧k≠w.heap.size∧k≠w.heap.size+1) Wa (Wa.putObj (lo+1) (.loop { r0 with state:=.busy })):=Kept.putObj _ _ _ (by rw [hlo];omega)
   have kw:Kept (fun k=>A k∧k≠w.heap.size∧k≠w.heap.size+1) W Wa:=hka.mono (fun _ h=>h.1)
   have kb:=kw.trans kp
   refine wpIn_mono (hbody (lo+1) pre x a' _ (hI.put hia (by omega) hba.1 rfl) ((hRd x).put (s:=()) hrda (by omega) hba.1 rfl) ((hAx x a').put (s:=()) hax (by omega) hba.1 rfl) hlen) ?_
   generalize (Wa.putObj (lo+1) (.loop { r0 with state:=.busy }))=Wb at hbb kb
   have fin:∀ (jump:Option Code) (W3:World),Kept A Wb W3 →
    (Instr.endRound (lo+1) jump).run P W3=.ok (.bool jump.isNone) (W3.putObj (lo+1) (.loop { r0 with state:=if jump.isNone then .ready else .done,pending:=jump })) ∧
    Book lo { r0 with state:=.busy } W3∧Book lo { r0 with state:=if jump.isNone then .ready else .done,pending:=jump } (W3.putObj (lo+1) (.loop { r0 with state:=if jump.isNone then .ready else .done,pending:=jump })) ∧
    Kept (fun k=>A k∧k≠w.heap.size∧k≠w.heap.size+1) W (W3.putObj (lo+1) (.loop { r0 with state:=if jump.isNone then .ready else .done,pending:=jump })):=by
    intro jump W3 hk3
    have hb3:=hbb.kept hk3 hA0 hA1
    exact⟨run_endRound (P:=P) (r:={ r0 with state:=.busy }) jump hb3.1,hb3,hb3.put _,(kb.trans (hk3.mono (fun _ h=>h.1))).trans (Kept.putObj _ _ _ (by rw [hlo];omega))⟩
   rintro e a3 W3 hp
   cases e with
   | normal=>
    obtain⟨hk3,hi3⟩:=hp
    obtain⟨hr,hl3,hl4,hk4⟩:=fin none W3 hk3
    refine⟨_,_,hr,.inl ⟨rfl,hI.put hi3 (by omega) hl3.1 rfl,?_⟩,hk4⟩
    have e1:({ r0 with state:=if (none:Option Code).isNone then .ready else .done,pending:=none }:Loop)=r0:=by rw [e0];rfl
    rw [e1] at hl4 ⊢
    exact hl4
   | ret=>
    obtain⟨hk3,hi3⟩:=hp
    obtain⟨hr,hl3,hl4,hk4⟩:=fin (some .ret) W3 hk3
    exact⟨_,_,hr,.inr ⟨rfl,.ret,(hIx _).put hi3 (by omega) hl3.1 rfl,hl4⟩,hk4⟩
   | exit id=>
    obtain⟨hk3,hi3⟩:=hp
    obtain⟨hr,hl3,hl4,hk4⟩:=fin (some (.exit id)) W3 hk3
    exact⟨_,_,hr,.inr ⟨rfl,.exit id,(hIx _).put hi3 (by omega) hl3.1 rfl,hl4⟩,hk4⟩
   | goto t=>
    obtain⟨hk3,hi3⟩:=hp
    obtain⟨hr,hl3,hl4,hk4⟩:=fin (some (.goto t)) W3 hk3
    exact⟨_,_,hr,.inr ⟨rfl,.goto t,(hIx _).put hi3 (by omega) hl3.1 rfl,hl4⟩,hk4⟩
   | panic ch=>exact hp.elim
   | outgrown=>exact hp.elim
theorem range_own1 {F:Fence} {n:Nat} {P:Program} {α:Type} {g:Operand} {ps:Array Tmp} {assign body:Code} {Q:Exit→Act→World→Prop} {a:Act} {w:World}
 (hro:F.round=none) (hn:1≤n) {gf:Nat} {lb:Array Value} (hg:a.eval g=.func (.func gf) #[] lb) (hFg:F.fn gf) (eg:∀ args w,(callFunc gf args).run P w=.ok (.enter gf args) w)
 {encs:α → Array Value} {Rd:α → World→Prop} {A:Nat→Prop} {n₀ n₁:Nat} {S Sp:List α → Prop} {N:Nat} (hseq:SeqOwn F (n-1) P gf lb encs Rd A n₀ n₁ S Sp N w)
 (hn₁:n₁ ≤ w.heap.size) (hA0:A w.heap.size) (hA1:A (w.heap.size+1)) (hps:∀ x,(encs x).size=ps.size) (hRd:∀ x,Abide n₀ n₁ w.heap.size (fun (_:Unit) W=>Rd x W))
 (I:List α → World→Prop) (Ix:Code→List α → World→Prop) (hI:Abide n₀ n₁ w.heap.size I) (hIx:∀ c,Abide n₀ n₁ w.heap.size (Ix c)) (h0:I [] w) (a₁:α → Act)
 (hassign:∀ (l:Nat) (x:α) (W:World) (K:Act→World→Prop),K (a₁ x) W →
  assign.wpIn (F.inRound l) (n-1-1) P (Exit.then K (fun _ _ _=>False)) { tmps:=(ps.zip (encs x)).foldl (fun t (p,v)=>t.setIfInBounds p v) a.tmps,defers:=[] } W)
 (hbody:∀ (l:Nat) (pre:List α) (x:α) (W:World),I pre W→Rd x W→pre.length<N→body.wpIn (F.inRound l) (n-1-1) P (roundEnd A I Ix (pre ++ [x]) W) (a₁ x) W)
 (hdone:∀ (D:Nat) (xs:List α) (W:World),w.heap.size≤D→S xs→I xs W→W.heap[D]? = some (.deferred (some []))→Q .normal { a with defers:={ target:=.collected D,args:=#[] } :: a.defers } W)
 (hstop:∀ (D:Nat) (c:Code) (pre:List α) (W:World),w.heap.size≤D→Sp pre→Ix c pre W→W.heap[D]? = some (.deferred (some []))→c.wpIn F n P Q { a with defers:={ target:=.collected D,args:=#[] } :: a.defers } W):
 (Code.rangeFunc g ps assign body).wpIn F n P Q a w:=
 range_own hro hn hg hFg eg hseq hn₁ hA0 hA1 hps hRd I Ix hI hIx h0 (fun x a' _=>a'=a₁ x) (fun x a'=>Abide.pure _ _ _ _) (fun l pre x W K hi hr h=>hassign l x W K (h _ _ (Kept.refl _ _) hi hr rfl))
  (fun l pre x a' W hi hr e hl=>by rw [e];exact hbody l pre x W hi hr hl) hdone hstop
def Vals (w:World) (A:Option Addr) (n:Nat) (vs:List Value):Prop:=
 vs.length=n∧(0<n→∃ b off,A=some ⟨b,off,none⟩∧b<w.heap.size∧∀ j v,vs[j]? = some v→w.cell? ⟨b,off+j,none⟩=some v)
theorem Vals.below {w w':World} {A:Option Addr} {n:Nat} {vs:List Value} (h:Vals w A n vs) (hb:Below w.heap.size w w'):Vals w' A n vs:=by
 refine⟨h.1,fun hn=>?_⟩
 obtain⟨b,off,rfl,hlt,hc⟩:=h.2 hn
 exact⟨b,off,rfl,Nat.lt_of_lt_of_le hlt hb.size,fun j v hj=>(hb.cell (p:=⟨b,off+j,none⟩) hlt).trans (hc j v hj)⟩
theorem Vals.nil (w:World) (A:Option Addr):Vals w A 0 []:=⟨rfl,fun h=>absurd h (by omega)⟩
def nums (k:IntKind) (zs:List Int):List Value:=zs.map (Value.int k)
def strs (ls:List (List UInt8)):List Value:=ls.map fun l=>Value.string (bs l)
theorem strs_length (ls:List (List UInt8)):(strs ls).length=ls.length:=List.length_map _
theorem strs_get {ls:List (List UInt8)} {j:Nat} (h:j<ls.length):(strs ls)[j]? = some (.string (bs (ls.getD j []))):=by
 unfold strs
 rw [List.getElem?_map,List.getElem?_eq_getElem h]
 simp [List.getD_eq_getElem?_getD,List.getElem?_eq_getElem h]
theorem nums_get {k:IntKind} {zs:List Int} {j:Nat} (h:j<zs.length):(nums k zs)[j]? = some (.int k (zs.getD j 0)):=by
 unfold nums
 rw [List.getElem?_map,List.getElem?_eq_getElem h]
 simp [List.getD_eq_getElem?_getD,List.getElem?_eq_getElem h]
theorem own_below {w w':World} {base B:Nat} {e:TypeId} {size n:Nat} {v:Value} {xs:List Value} (h:w.ownsRow base e size v n xs) (hb:Below B w w') (hB:w.heap.size≤B):w'.ownsRow base e size v n xs:=by
 refine⟨h.1,?_⟩
 rcases h.2 with hn | ⟨g,cap,cur,rfl,hg,hgg,rest⟩
 · exact .inl hn
 · refine .inr ⟨g,cap,cur,rfl,hg,?_,rest⟩
   have hlt:=(Array.getElem?_eq_some_iff.1 hgg).1
   rw [hb.block g (by omega)]
   exact hgg
theorem add_at (g j:Nat):(⟨g,0,none⟩:Addr).add j=⟨g,0+j,none⟩:=by unfold Addr.add;split <;> simp_all
theorem own_vals {w:World} {base:Nat} {e:TypeId} {n:Nat} {v:Value} {vs:List Value} (h:w.ownsRow base e 1 v n vs):∃ A c,v=.slice A n c∧n≤c∧Vals w A n vs∧(A=none→c=0):=by
 have hl:vs.length=n:=by have:=h.1;simpa using this
 rcases h.2 with ⟨rfl,rfl⟩ | ⟨g,cap,cur,rfl,_,hg,hc,_⟩
 · exact⟨none,0,rfl,Nat.le_refl _,⟨hl,fun h0=>absurd h0 (by omega)⟩,fun _=>rfl⟩
 · refine⟨some ⟨g,0,none⟩,cap,rfl,hc,⟨hl,fun _=>⟨g,0,rfl,(Array.getElem?_eq_some_iff.1 hg).1,fun j v hj=>?_⟩⟩,fun h=>by cases h⟩
   have:=h.cells (g:=g) rfl j v hj
   rwa [add_at] at this
def Grew (base:Nat) (w w':World):Prop:=∀ B w0,Below B w0 w→B≤base→Below B w0 w'
theorem grew_of {w w':World} {base:Nat} {o:Obj} {e:TypeId} {size n:Nat} {v:Value} {xs:List Value} (ho:w.ownsRow base e size v n xs) (hbase:base≤w.heap.size) (hg:(w.alloc o).grownBy w' v.ownBlock):Grew base w w':=
 fun B w0 h hB=>(h.alloc (Nat.le_trans hB hbase) o).grown hg (by simp;omega) (fun g hgv=>Nat.le_trans hB (ho.lt g hgv).1)
theorem lit_cells (w:World) (us:List Value) (e:TypeId):∀ j u,us[j]? = some u→(w.alloc (.cells us.toArray e)).cell? ((⟨w.heap.size,0,none⟩:Addr).add j)=some u:=by
 intro j u hj
 rw [add_at,Nat.zero_add]
 simp [hj]
theorem append_lit {P:Program} {w:World} {ops:Array Oper} {rest:List Oper} {o:Oper} {a:Act} {Q:Exit→Act→World→Prop} (hgd:o.guard=none) (s x:Operand) (t:TypeId)
 (ho:o.op=.call { callee:=.builtin .append,args:=#[s,x],argTypes:=#[t,t] })
 (base:Nat) (e:TypeId) (i:TypeInfo) (z:Value) (size bytes:Nat) (ht:P.underlying t=some (.slice e)) (hi:P.info? e=some i) (hz:i.zero=some z)
 (hsize:i.size=size) (hby:i.bytes=bytes) (hzs:z.cells.size=size) (hsz:0<size)
 (v:Value) (n:Nat) (xs:List Value) (hs:a.eval s=v) (hown:w.ownsRow base e size v n xs) (us:List Value) (hus:us.length=size) (hone:∀ u∈us,u.oneCell'=true)
 (hx:a.eval x=.slice (some ⟨w.heap.size,0,none⟩) 1 1) (h63:n+1≤maxLen) (hbytes:(n+1)*bytes≤140737488355328) (hbase:base≤w.heap.size)
 (h:∀ v' w',w'.ownsRow base e size v' (n+1) (xs++us)→Grew base w w'→wpList P ops Q rest (a.put o.dst v') w'):wpList P ops Q (o::rest) a (w.alloc (.cells us.toArray e)):=
 wpList_append_own _ hgd s x t ho base e i z size bytes ht hi hz hsize hby hzs hsz v n xs hs (hown.alloc _) ⟨w.heap.size,0,none⟩ 1 1 us hx (by rw [hus,Nat.one_mul]) (lit_cells w us e) hone h63 hbytes (by simp;omega)
  (fun v' w' h1 h2 _=>h v' w' h1 (grew_of hown hbase h2))
theorem append_lit2 {P:Program} {w:World} {ops:Array Oper} {rest:List Oper} {o:Oper} {a:Act} {Q:Exit→Act→World→Prop} (hgd:o.guard=none) (s x:Operand) (t:TypeId)
 (ho:o.op=.call { callee:=.builtin .append,args:=#[s,x],argTypes:=#[t,t] })
 (base:Nat) (e:TypeId) (i:TypeInfo) (z:Value) (size bytes:Nat) (ht:P.underlying t=some (.slice e)) (hi:P.info? e=some i) (hz:i.zero=some z)
 (hsize:i.size=size) (hby:i.bytes=bytes) (hzs:z.cells.size=size) (hsz:0<size)
 (v:Value) (n:Nat) (xs:List Value) (hs:a.eval s=v) (hown:w.ownsRow base e size v n xs) (us:List Value) (hus:us.length=size) (hone:∀ u∈us,u.oneCell'=true)
 (hx:a.eval x=.slice (some ⟨w.heap.size,0,none⟩) 1 1) (h63:n+1≤maxLen) (hbytes:(n+1)*bytes≤140737488355328) (hbase:base≤w.heap.size)
 (h:∀ v' w',w'.ownsRow base e size v' (n+1) (xs++us)→(w.alloc (.cells us.toArray e)).grownBy w' v.ownBlock→wpList P ops Q rest (a.put o.dst v') w'):wpList P ops Q (o::rest) a (w.alloc (.cells us.toArray e)):=
 wpList_append_own _ hgd s x t ho base e i z size bytes ht hi hz hsize hby hzs hsz v n xs hs (hown.alloc _) ⟨w.heap.size,0,none⟩ 1 1 us hx (by rw [hus,Nat.one_mul]) (lit_cells w us e) hone h63 hbytes (by simp;omega)
  (fun v' w' h1 h2 _=>h v' w' h1 h2)
theorem append_lit_in {F:Fence} {m:Nat} {P:Program} {w:World} {ops:Array Oper} {rest:List Oper} {o:Oper} {a:Act} {Q:Exit→Act→World→Prop} (hgd:o.guard=none) (s x:Operand) (t:TypeId)
 (ho:o.op=.call { callee:=.builtin .append,args:=#[s,x],argTypes:=#[t,t] })
 (base:Nat) (e:TypeId) (i:TypeInfo) (z:Value) (size bytes:Nat) (ht:P.underlying t=some (.slice e)) (hi:P.info? e=some i) (hz:i.zero=some z)
 (hsize:i.size=size) (hby:i.bytes=bytes) (hzs:z.cells.size=size) (hsz:0<size)
 (v:Value) (n:Nat) (xs:List Value) (hs:a.eval s=v) (hown:w.ownsRow base e size v n xs) (us:List Value) (hus:us.length=size) (hone:∀ u∈us,u.oneCell'=true)
 (hx:a.eval x=.slice (some ⟨w.heap.size,0,none⟩) 1 1) (h63:n+1≤maxLen) (hbytes:(n+1)*bytes≤140737488355328) (hbase:base≤w.heap.size)
 (h:∀ v' w',w'.ownsRow base e size v' (n+1) (xs++us)→(w.alloc (.cells us.toArray e)).grownBy w' v.ownBlock→Grew base w w'→wpListIn F m P ops Q rest (a.put o.dst v') w'):wpListIn F m P ops Q (o::rest) a (w.alloc (.cells us.toArray e)):=
 wpListIn_append_own _ hgd s x t ho base e i z size bytes ht hi hz hsize hby hzs hsz v n xs hs (hown.alloc _) ⟨w.heap.size,0,none⟩ 1 1 us hx (by rw [hus,Nat.one_mul]) (lit_cells w us e) hone h63 hbytes (by simp;omega)
  (fun v' w' h1 h2 _=>h v' w' h1 h2 (grew_of hown hbase h2))
theorem info9:(Tryz.prog.info? 9).map (fun i=>(i.zero,i.size,i.bytes))=some (some (.string ⟨#[]⟩),1,16):=by kernel_rfl
theorem strs_snoc (out:List (List UInt8)) (p:List UInt8):strs out ++ [Value.string (bs p)]=strs (out ++ [p]):=by simp [strs]
theorem strs_len_snoc (out:List (List UInt8)) (p:List UInt8):out.length+1=(out ++ [p]).length:=by simp
def CutRel (c:UInt8) (l:List UInt8) (w:World) (v f i:Value) (wr:World):Prop:=
 Below w.heap.size w wr∧∃ out:List (List UInt8),wr.ownsRow w.heap.size 9 1 v out.length (strs out) ∧
  ((∃ k g:Nat,i=.int .i64 k∧f=.int .i64 g∧g≤k∧k≤l.length∧out.length≤k∧out++glue ((l.drop g).take (k-g)) (cutAll c (l.drop k))=cutAll c l) ∨
   (i=.int .i64 ((l.length:Int)+1)∧out=cutAll c l))
theorem cut_end {c:UInt8} {l out:List (List UInt8)} {p:List UInt8} {s:List UInt8} (h:out++glue p (cutAll c s)=l) (hs:s = []):out ++ [p]=l:=by
 subst hs
 rw [←h]
 simp [cutAll,glue]
theorem cut_hit {c:UInt8} {l:List UInt8} {out r:List (List UInt8)} {p:List UInt8} {k:Nat} (hk:k<l.length) (hc:l.getD k 0=c) (h:out++glue p (cutAll c (l.drop k))=r):(out ++ [p])++glue ((l.drop (k+1)).take (k+1-(k+1))) (cutAll c (l.drop (k+1)))=r:=by
 rw [←h,cutAll_at c l k hk,if_pos hc,Nat.sub_self,List.take_zero,glue_nil (cutAll_ne _ _)]
 simp [glue]
theorem cut_miss {c:UInt8} {l:List UInt8} {out r:List (List UInt8)} {g k:Nat} (hk:k<l.length) (hg:g≤k) (hc:¬l.getD k 0=c) (h:out++glue ((l.drop g).take (k-g)) (cutAll c (l.drop k))=r):out++glue ((l.drop g).take (k+1-g)) (cutAll c (l.drop (k+1)))=r:=by
 have e:(l.drop g).take (k+1-g)=(l.drop g).take (k-g) ++ [l.getD k 0]:=by
  rw [show k+1-g=(k-g)+1 by omega,List.take_succ_eq_append_getElem (by simp;omega)]
  congr 2
  rw [List.getElem_drop,List.getD_eq_getElem?_getD,List.getElem?_eq_getElem hk]
  simp [show g+(k-g)=k by omega]
 rw [←h,cutAll_at c l k hk,if_neg hc,glue_glue _ _ (cutAll_ne _ _),e]
def CutPost (c:UInt8) (l:List UInt8) (w:World) (e:Ending) (w':World):Prop:=
 Below w.heap.size w w'∧∃ A ca,e=.returned (.slice A (cutAll c l).length ca)∧Vals w' A (cutAll c l).length (strs (cutAll c l))
set_option maxRecDepth 100000 in
set_option maxHeartbeats 1000000 in
theorem cut20 (c:UInt8) (l:List UInt8) (w:World) (hl:l.length≤1000000):
 Calls Tryz.prog 100 #[.string (bs l),.int .u8 c.toNat] w (CutPost c l w):=by
 obtain⟨i0,hi,hz0,hz1,hz2⟩:=info_parts info9
 have hsz:=bs_size l
 obtain⟨n,hn⟩:∃ n,l.length=n:=⟨_,rfl⟩
 rw [hn] at hl hsz
 have HN:=Lib.hid hn
 clear hn
 go_enter Tryz.func100,Tryz.ntmps100
 go_wp2
 go_loopw [5,6,7] (fun v f i wr=>CutRel c l w v f i wr) (fun _ _ i _=>n+1-(intOf i).toNat)
 case atStart=>exact⟨Below.refl _ _,[],World.ownsRow_nil _ _ _ _,.inl ⟨0,0,rfl,rfl,by omega,by omega,Nat.le_refl _,by simp [glue_nil (cutAll_ne c l)]⟩⟩
 case round=>
  obtain⟨hbel,out,hown,⟨k,g,rfl,rfl,hgk,hkl,hok,hcut⟩ | ⟨rfl,hout⟩⟩:=hrel
  · have hbase:=hbel.size
    have hx:=bs_oct l k
    have hext:=bs_ext l g k
    have hk':k≤n:=by rw [←HN.out];exact hkl
    clear hkl
    have h63:out.length+1≤maxLen:=by unfold maxLen;omega
    have h47:(out.length+1)*16≤140737488355328:=by omega
    obtain⟨p,hp⟩:∃ p,(l.drop g).take (k-g)=p:=⟨_,rfl⟩
    by_cases hlt:k<n
    · have hlt':k<l.length:=by rw [HN.out];exact hlt
      by_cases hc:l.getD k 0=c
      · have hX:oct l k=c.toNat:=by unfold oct;rw [hc]
        rw [hX] at hx
        rw [hp] at hext hcut
        have HC:=Lib.hid (cut_hit hlt' hc hcut)
        clear hcut hc hp hX hlt'
        go_wp2_with (at_builtin;refine append_lit rfl _ _ 102 rfl w.heap.size 9 i0 (.string ⟨#[]⟩) 1 16 Tryz.underlying102 hi hz0 hz1 hz2 rfl (by decide) _ _ _ rfl hown [.string (bs p)] rfl (by simp [Value.oneCell']) rfl h63 h47 hbase ?_;intro v' w2 hown' hg')
        go_roundw
        case rel=>
         rw [strs_snoc,strs_len_snoc out p] at hown'
         exact⟨hg' _ _ hbel (Nat.le_refl _),out ++ [p],hown',.inl ⟨k+1,k+1,by go_num,by go_num,Nat.le_refl _,by rw [HN.out];omega,by simp;omega,HC.out⟩⟩
        case measure=>simp [intOf];omega
      · have hX:((oct l k)==(c.toNat:Int))=false:=beq_false_of_ne fun e=>hc ((u8_int _ _).1 e)
        have HC:=Lib.hid (cut_miss hlt' hgk hc hcut)
        obtain⟨X,hXX⟩:∃ X,oct l k=X:=⟨_,rfl⟩
        rw [hXX] at hX hx
        clear hcut hc hp hext hlt' hXX
        go_wp2
        go_roundw
        case rel=>exact⟨hbel,out,hown,.inl ⟨k+1,g,by go_num,rfl,by omega,by rw [HN.out];omega,by omega,HC.out⟩⟩
        case measure=>simp [intOf];omega
    · have hke:k=n:=by omega
      subst hke
      rw [hp] at hext hcut
      have HC:=Lib.hid (cut_end hcut (List.drop_of_length_le (by rw [HN.out];exact Nat.le_refl _)))
      clear hcut hp hx
      go_wp2_with (at_builtin;refine append_lit rfl _ _ 102 rfl w.heap.size 9 i0 (.string ⟨#[]⟩) 1 16 Tryz.underlying102 hi hz0 hz1 hz2 rfl (by decide) _ _ _ rfl hown [.string (bs p)] rfl (by simp [Value.oneCell']) rfl h63 h47 hbase ?_;intro v' w2 hown' hg')
      go_roundw
      case rel=>
       rw [strs_snoc,strs_len_snoc out p] at hown'
       exact⟨hg' _ _ hbel (Nat.le_refl _),out ++ [p],hown',.inr ⟨by rw [HN.out],HC.out⟩⟩
      case measure=>simp [intOf]
  · have hN:(l.length:Int)=n:=by rw [HN.out]
    rw [hN]
    have HO:=Lib.hid hout
    clear hout hN
    go_wp2
    go_ret
    obtain⟨A,ca,rfl,_,hV,_⟩:=own_vals hown
    rw [HO.out] at hV ⊢
    exact⟨hbel,A,ca,rfl,hV⟩
end Go.Proofs.YtmellioacefjjaaGreatDoor
