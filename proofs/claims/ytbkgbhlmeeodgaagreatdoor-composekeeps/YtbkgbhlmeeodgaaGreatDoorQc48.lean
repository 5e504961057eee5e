/- A part. -/
import Derived.Test.YtbkgbhlmeeodgaaGreatDoorQc47
import Derived.Lib.SmallJoins
import Derived.Test.YtbkgbhlmeeodgaaGreatDoorRows
import Derived.Lib.LaidU8T
import Derived.ProofKit
import Derived.OpenShut
import Derived.ShutString
import Derived.ChangeOld
import Derived.ChangeMaps5
import Derived.Below
import Derived.LaidSub
import Derived.MakeChecks
import Derived.Deep.DeepHandedRow
import Derived.SizedLaws
namespace Go.Proofs.YtbkgbhlmeeodgaaGreatDoor
open Go.RowKit Go.Shelf
attribute [local go_sem] Oper.semAt_some
def BnB (w W:World) (v0 v1 v2 v3 v4 v5 v6:Value):Prop:=
 (W.cell? ⟨w.heap.size,0,none⟩=some v0∧W.cell? ⟨w.heap.size,1,none⟩=some v1∧W.cell? ⟨w.heap.size,2,none⟩=some v2∧W.cell? ⟨w.heap.size,3,none⟩=some v3∧W.cell? ⟨w.heap.size,4,none⟩=some v4∧W.cell? ⟨w.heap.size,5,none⟩=some v5∧W.cell? ⟨w.heap.size,6,none⟩=some v6)∧Below w.heap.size w W
theorem BnB.lt {w W:World} {v0 v1 v2 v3 v4 v5 v6:Value} (h:BnB w W v0 v1 v2 v3 v4 v5 v6):w.heap.size<W.heap.size:=World.block_lt_of_cell? W _ h.1.1
theorem BnB.below {w W W':World} {v0 v1 v2 v3 v4 v5 v6:Value} (h:BnB w W v0 v1 v2 v3 v4 v5 v6) (hb:Below W.heap.size W W'):BnB w W' v0 v1 v2 v3 v4 v5 v6:=by
 have hl:=h.lt
 obtain⟨⟨h0,h1,h2,h3,h4,h5,h6⟩,h9⟩:=h
 have c:∀ i,W'.cell? ⟨w.heap.size,i,none⟩=W.cell? ⟨w.heap.size,i,none⟩:=fun i=>hb.cell (p:=⟨w.heap.size,i,none⟩) hl
 exact⟨⟨(c _).trans h0,(c _).trans h1,(c _).trans h2,(c _).trans h3,(c _).trans h4,(c _).trans h5,(c _).trans h6⟩,h9.trans (hb.mono h9.size)⟩
theorem bnb_new (w:World) (v0 v1 v2 v3 v4 v5 v6:Value):BnB w (w.alloc (.cells #[v0,v1,v2,v3,v4,v5,v6] 24)) v0 v1 v2 v3 v4 v5 v6:=by
 have o:∀ i,(w.alloc (.cells #[v0,v1,v2,v3,v4,v5,v6] 24)).cell? ⟨w.heap.size,i,none⟩=(#[v0,v1,v2,v3,v4,v5,v6]:Array Value)[i]?:=fun i=>new_at _ _ _ _ _ rfl
 exact⟨⟨by rw [o];rfl,by rw [o];rfl,by rw [o];rfl,by rw [o];rfl,by rw [o];rfl,by rw [o];rfl,by rw [o];rfl⟩,(Below.refl _ _).alloc (Nat.le_refl _) _⟩
end Go.Proofs.YtbkgbhlmeeodgaaGreatDoor
namespace Go.Proofs.YtbkgbhlmeeodgaaGreatDoor
open Go.RowKit Go.Shelf
def Hd (w W:World) (b:Nat) (ps:List Uc.Pr):Prop:=Below w.heap.size w W∧DdR W b ps
theorem Hd.on {w W W':World} {b:Nat} {ps:List Uc.Pr} (h:Hd w W b ps) (hb:Below W.heap.size W W'):Hd w W' b ps:=⟨h.1.trans (hb.mono h.1.size),h.2.below hb⟩
theorem load_zero {f:Nat→List UInt8} {d:Dt} {x:Wh} (h:loadOf f=(x,some d)):x=⟨0,0,0⟩:=by
 rcases read_load f with ⟨h1,h2⟩ | ⟨h1,h2⟩
 · rw [h2] at h
   rcases load2_join (uF f).rows (spF f) (cfF f).rows with ⟨-,ms,-,h3⟩ | ⟨h3,h4⟩
   · rw [h3] at h;injection h with h _;exact h.symm
   · rw [h4] at h;injection h with _ h;cases h
 · rw [h2] at h;injection h with _ h;cases h
theorem own_now {W:World} {A:Option Addr} {n c:Nat} {zs:List Int} {base:Nat} (h:W.ownsRow base 3 1 (.slice A n c) n (nums .i64 zs)):Vals W A n (nums .i64 zs):=by
 obtain⟨A',c',e,-,hv,-⟩:=own_vals h
 cases e
 exact hv
theorem app_post {W w':World} {base n m:Nat} {v v':Value} {T zs:List Int} (ho:W.ownsRow base 3 1 v n (nums .i64 T)) (hbase:base≤W.heap.size) (h1:w'.ownsRow base 3 1 v' (n+m) (nums .i64 T++nums .i64 zs)) (h2:W.grownBy w' v.ownBlock):
 ∃ A' c',v'=.slice A' (n+m) c'∧Hid (w'.ownsRow base 3 1 (.slice A' (n+m) c') (n+m) (nums .i64 (T++zs))∧Below base W w'):=by
 obtain⟨A',c',rfl,-⟩:=own_vals h1
 exact⟨A',c',rfl,Lib.hid ⟨by rw [napp];exact h1,(Below.refl base W).grown h2 hbase (fun g hgv=>(ho.lt g hgv).1)⟩⟩
theorem own_empty (W:World) {base:Nat} (hb:base≤W.heap.size):(W.alloc (.cells #[] 3)).ownsRow base 3 1 (.slice (some ⟨W.heap.size,0,none⟩) 0 0) 0 (nums .i64 []):=
 ⟨rfl,.inr ⟨W.heap.size,0,#[],rfl,hb,World.alloc_heap_new W _,Nat.le_refl _,Nat.zero_le _,rfl,rfl⟩⟩
def AppH (w0 w:World) (v:Value) (n:Nat) (T:List Int) (A:Option Addr) (m:Nat) (zs:List Int):Prop:=w.ownsRow w0.heap.size 3 1 v n (nums .i64 T)∧Vals w A m (nums .i64 zs)∧Below w0.heap.size w0 w
def AppR (w0 w:World) (A:Option Addr) (n c:Nat) (T:List Int):Prop:=w.ownsRow w0.heap.size 3 1 (.slice A n c) n (nums .i64 T)∧Below w0.heap.size w0 w
theorem run_app9 {w0 w:World} {v:Value} {n m c:Nat} {T zs:List Int} {A:Option Addr} (ty:TypeId) (H:AppH w0 w v n T A m zs) {N:Nat} (hN:n+m=N) (hN2:N≤100000):
 ∃ A' c' w',(Builtin.append_ #[25,25] ty #[v,.slice A m c]).run Tryz.prog w=.ok (.slice A' N c') w'∧Hid (AppR w0 w' A' N c' (T++zs)):=by
 obtain⟨i0,hi,hz0,hz1,hz2⟩:=infoI'
 obtain⟨h1,h2,h3⟩:=H
 subst hN
 cases A with
 | none=>
  have hm:m=0:=by
   rcases Nat.eq_zero_or_pos m with h0 | h0
   · exact h0
   · obtain⟨b,off,e,_⟩:=h2.2 h0
     cases e
  subst hm
  obtain rfl:zs = []:=List.eq_nil_of_length_eq_zero (by have:=h2.1;rwa [nums_len] at this)
  obtain⟨A',c',rfl,-⟩:=own_vals h1
  exact⟨A',c',w,run_append_nil w0.heap.size 25 ty 3 i0 1 c Tryz.underlying25 hi _ n _ h1,Lib.hid ⟨by rw [List.append_nil];exact h1,h3⟩⟩
 | some ad=>
  obtain⟨v',w',hr,q2,q3,-,-⟩:=run_append_own_at (P:=Tryz.prog) w w0.heap.size 25 ty 3 i0 (.int .i64 0) 1 8 Tryz.underlying25 hi hz0 hz1 hz2 rfl (by decide) v n _ h1 ad m c (nums .i64 zs) (by rw [nums_len,Nat.mul_one];have:=h2.1;rwa [nums_len] at this) (vals_cells h2) nums_one' (by unfold maxLen;omega) (by omega) h3.size
  obtain⟨A',c',rfl,q4⟩:=app_post h1 h3.size q2 q3
  exact⟨A',c',w',hr,Lib.hid ⟨q4.out.1,h3.trans q4.out.2⟩⟩
theorem wp_app9 {o:Oper} {a:Act} {K:Act→World→Prop} {Q:Exit→Act→World→Prop} {w:World} (w0:World) (s x:Operand)
 (ho:o.op=.call { callee:=.builtin .append,args:=#[s,x],argTypes:=#[25,25] })
 (v:Value) (n:Nat) (T:List Int) (hs:a.eval s=v) (A:Option Addr) (m c:Nat) (zs:List Int) (hx:a.eval x=.slice A m c) (H:AppH w0 w v n T A m zs) (N:Nat) (hN:n+m=N) (hN2:N≤100000)
 (h:∀ A' c' w',Hid (AppR w0 w' A' N c' (T++zs))→K (a.put o.dst (.slice A' N c')) w'):o.wp Tryz.prog a w K Q:=by
 obtain⟨A',c',w',hr,h2⟩:=run_app9 (c:=c) o.type H hN hN2
 unfold Oper.wp execOp
 simp only [ho,resolve,invoke,builtin,Sem.run_bind,Sem.run_pure,Result.andThen_ok,List.map_toArray,List.map_cons,List.map_nil,hs,hx,hr]
 exact h A' c' w' h2
theorem list_app9 {ops:Array Oper} {rest:List Oper} {o:Oper} {a:Act} {Q:Exit→Act→World→Prop} {w:World} (w0:World) (hgd:o.guard=none) (s x:Operand)
 (ho:o.op=.call { callee:=.builtin .append,args:=#[s,x],argTypes:=#[25,25] })
 (v:Value) (n:Nat) (T:List Int) (hs:a.eval s=v) (A:Option Addr) (m c:Nat) (zs:List Int) (hx:a.eval x=.slice A m c) (H:AppH w0 w v n T A m zs) (N:Nat) (hN:n+m=N) (hN2:N≤100000)
 (h:∀ A' c' w',Hid (AppR w0 w' A' N c' (T++zs))→wpList Tryz.prog ops Q rest (a.put o.dst (.slice A' N c')) w'):wpList Tryz.prog ops Q (o::rest) a w:=
 wpList_plain hgd fun _ hK=>wp_app9 w0 s x ho v n T hs A m c zs hx H N hN hN2 fun A' c' w' q=>hK _ _ (h A' c' w' q)
def Two (w0 w:World) (v1:Value) (n1:Nat) (T1:List Int) (v2:Value) (n2:Nat) (T2:List Int):Prop:=
 w.ownsRow w0.heap.size 3 1 v1 n1 (nums .i64 T1)∧w.ownsRow w0.heap.size 3 1 v2 n2 (nums .i64 T2)∧(v2.ownBlock=none∨v2.ownBlock≠v1.ownBlock)∧Below w0.heap.size w0 w
theorem Two.turn {w0 w:World} {v1 v2:Value} {n1 n2:Nat} {T1 T2:List Int} (h:Two w0 w v1 n1 T1 v2 n2 T2):Two w0 w v2 n2 T2 v1 n1 T1:=
 ⟨h.2.1,h.1,by
  cases h1:v1.ownBlock with
  | none=>exact .inl rfl
  | some g=>
   rcases h.2.2.1 with h2 | h2
   · exact .inr (by rw [h2];simp)
   · exact .inr (by rw [←h1];exact Ne.symm h2),h.2.2.2⟩
theorem Two.on {w0 w w':World} {v1 v2:Value} {n1 n2:Nat} {T1 T2:List Int} (h:Two w0 w v1 n1 T1 v2 n2 T2) (hb:Below w.heap.size w w'):Two w0 w' v1 n1 T1 v2 n2 T2:=
 ⟨own_below h.1 hb (Nat.le_refl _),own_below h.2.1 hb (Nat.le_refl _),h.2.2.1,h.2.2.2.trans (hb.mono h.2.2.2.size)⟩
theorem run_two {w0 w:World} {v1 v2:Value} {n1 n2:Nat} {T1 T2:List Int} (ty:TypeId) (u:Int) (H:Two w0 w v1 n1 T1 v2 n2 T2) {N:Nat} (hN:n1+1=N) (hN2:N≤100000):
 ∃ A' c' w',(Builtin.append_ #[25,25] ty #[v1,.slice (some ⟨w.heap.size,0,none⟩) 1 1]).run Tryz.prog (w.alloc (.cells #[.int .i64 u] 3))=.ok (.slice A' N c') w'∧Hid (Two w0 w' (.slice A' N c') N (T1 ++ [u]) v2 n2 T2):=by
 obtain⟨i0,hi,hz0,hz1,hz2⟩:=infoI'
 have ha:Below w.heap.size w (w.alloc (.cells #[.int .i64 u] 3)):=(Below.refl _ _).alloc (Nat.le_refl _) _
 obtain⟨h1,h2,h3,h4⟩:=H.on ha
 subst hN
 obtain⟨v',w',hr,q2,q3,-,q5⟩:=run_append_own_at (P:=Tryz.prog) (w.alloc (.cells #[.int .i64 u] 3)) w0.heap.size 25 ty 3 i0 (.int .i64 0) 1 8 Tryz.underlying25 hi hz0 hz1 hz2 rfl (by decide) v1 n1 _ h1 ⟨w.heap.size,0,none⟩ 1 1 (nums .i64 [u]) rfl (lit_cells w (nums .i64 [u]) 3) nums_one' (by unfold maxLen;omega) (by omega) h4.size
 obtain⟨A',c',rfl,q4⟩:=app_post h1 h4.size q2 q3
 refine⟨A',c',w',hr,Lib.hid ⟨q4.out.1,h2.kept q3 h3,?_,h4.trans q4.out.2⟩⟩
 rcases q5 with q5 | q5
 · rw [q5];exact h3
 · cases hb:v2.ownBlock with
   | none=>exact .inl rfl
   | some g=>
    refine .inr (fun e=>?_)
    rw [q5] at e
    injection e with e
    have:=(h2.lt g hb).2
    omega
theorem list_two {ops:Array Oper} {rest:List Oper} {o:Oper} {a:Act} {Q:Exit→Act→World→Prop} {w:World} (w0:World) (hgd:o.guard=none) (s x:Operand)
 (ho:o.op=.call { callee:=.builtin .append,args:=#[s,x],argTypes:=#[25,25] })
 (v1:Value) (n1:Nat) (T1:List Int) (v2:Value) (n2:Nat) (T2:List Int) (u:Int) (hs:a.eval s=v1) (hx:a.eval x=.slice (some ⟨w.heap.size,0,none⟩) 1 1) (H:Two w0 w v1 n1 T1 v2 n2 T2) (N:Nat) (hN:n1+1=N) (hN2:N≤100000)
 (h:∀ A' c' w',Hid (Two w0 w' (.slice A' N c') N (T1 ++ [u]) v2 n2 T2)→wpList Tryz.prog ops Q rest (a.put o.dst (.slice A' N c')) w'):wpList Tryz.prog ops Q (o::rest) a (w.alloc (.cells #[.int .i64 u] 3)):=
 wpList_plain hgd fun K hK=>by
  obtain⟨A',c',w',hr,h2⟩:=run_two o.type u H hN hN2
  unfold Oper.wp execOp
  simp only [ho,resolve,invoke,builtin,Sem.run_bind,Sem.run_pure,Result.andThen_ok,List.map_toArray,List.map_cons,List.map_nil,hs,hx,hr]
  exact hK _ _ (h A' c' w' h2)
end Go.Proofs.YtbkgbhlmeeodgaaGreatDoor
namespace Go.Proofs.YtbkgbhlmeeodgaaGreatDoor
open Go.RowKit Go.Joins Go.WideShapes Go.ChangeShapes Go.ChangeAt Go.Deep
section
variable {H:Type} {enc:TypeId×Value→H} {P:Program} {w:World} {base:Nat} {spare:Nat→Bool} {held:Bool}
theorem array7 {α:Type} {cs:Array α} (h:cs.size=7):∃ c0 c1 c2 c3 c4 c5 c6,cs=#[c0,c1,c2,c3,c4,c5,c6]:=by
 obtain⟨l⟩:=cs
 match l,h with
 | [c0,c1,c2,c3,c4,c5,c6],_=>exact⟨c0,c1,c2,c3,c4,c5,c6,rfl⟩
end
end Go.Proofs.YtbkgbhlmeeodgaaGreatDoor
namespace Go.Proofs.YtbkgbhlmeeodgaaGreatDoor
open Go.ChangeShapes Go.WideShapes Go.ChangeAt Go.RowKit
theorem own:ownKnob Tryz.prog.godebug=none:=by kernel_rfl
theorem laidOut:laidOutB Tryz.prog=true:=by kernel_rfl
def layCells (zs:List Int):Obj→Obj
 | .cells _ t fz=>.cells (zs.map (Value.int .u8)).toArray t fz
 | o=>o
def layHan:Obj→Obj
 | .cells _ t fz=>.cells #[.int .i64 4352,.int .i64 4370,.int .i64 4449,.int .i64 4469,.int .i64 4520,.int .i64 4546,.int .i64 44032,.int .i64 55203] t fz
 | o=>o
noncomputable def laidWorld (os:Os):World:=
 { World.holding Tryz.prog os ⟨#[],#[],[]⟩ with
  heap:=(((World.holding Tryz.prog os ⟨#[],#[],[]⟩).heap.modify 0 layHan).modify 2 (layCells Lib.firstTab)).modify 3 (layCells ((List.range 16).flatMap fun i=>[(Lib.accLo i:Int),(Lib.accHi i:Int)])) }
def IsRow (k:IntKind) (w:World) (a:Option Addr) (len cap:Nat) (zs:List Int):Prop:=
 (a=none∧len=0∧cap=0∧zs = []) ∨
 ∃ x,a=some x∧len≤cap∧cap≤maxLen∧zs.length=cap∧(∀ i,i<zs.length→w.cell? (x.add i)=some (.int k (zs.getD i 0)))∧∀ n∈zs,(Lit.int k n).wf=true
theorem IsRow.vals {k:IntKind} {w:World} {a:Option Addr} {len cap:Nat} {zs:List Int} (h:IsRow k w a len cap zs):Vals w a len (nums k (zs.take len))∧len≤cap∧(a=none→cap=0)∧∀ n∈zs.take len,(Lit.int k n).wf=true:=by
 rcases h with ⟨rfl,rfl,rfl,rfl⟩ | ⟨x,rfl,hl,hm,hz,hcell,hwz⟩
 · exact⟨Vals.nil _ _,Nat.le_refl _,fun _=>rfl,by simp⟩
 · refine⟨⟨by simp [nums];omega,fun h0=>?_⟩,hl,fun h=>(by cases h),fun n hn=>hwz n (List.mem_of_mem_take hn)⟩
   obtain⟨b,off,spot⟩:=x
   have hc:=hcell 0 (by omega)
   have hspot:spot=none:=by simpa [Addr.add] using World.cell?_spot hc
   subst hspot
   refine⟨b,off,rfl,?_,fun j v hj=>?_⟩
   · have:=World.block_lt_of_cell? w _ hc
     simpa [Addr.add] using this
   · have hlt:j<len:=by
      have:=(List.getElem?_eq_some_iff.1 hj).1
      simp [nums] at this
      omega
     have:=hcell j (by omega)
     have e:(⟨b,off,none⟩:Addr).add j=⟨b,off+j,none⟩:=by unfold Addr.add;split <;> simp_all
     rw [e] at this
     rw [nums_get (by simp;omega)] at hj
     cases hj
     rw [this]
     simp [List.getD_eq_getElem?_getD,hlt]
theorem wf_u8 {x:Int} (h:(Lit.int .u8 x).wf=true):0≤x∧x<256:=by
 have:=bounds_u8 h
 omega
theorem IsRow.octs {w:World} {a:Option Addr} {len cap:Nat} {zs:List Int} (h:IsRow .u8 w a len cap zs):∃ l:List UInt8,Octs w a len l∧len≤cap∧(a=none→cap=0):=by
 obtain⟨h1,h2,h3,h4⟩:=h.vals
 refine⟨Lib.bytesOf (zs.take len),?_,h2,h3⟩
 have e:ints (Lib.bytesOf (zs.take len))=zs.take len:=by
  unfold ints Lib.bytesOf
  rw [List.map_map]
  conv=>rhs;rw [←List.map_id (zs.take len)]
  apply List.map_congr_left
  intro x hx
  have:=wf_u8 (h4 x hx)
  simp
  omega
 unfold Octs
 rw [e]
 exact h1
end Go.Proofs.YtbkgbhlmeeodgaaGreatDoor
namespace Go.Proofs.YtbkgbhlmeeodgaaGreatDoor
open Go.RowKit Go.Joins Go.WideShapes Go.ChangeShapes Go.ChangeAt Go.Deep
section
variable {H:Type} {enc:TypeId×Value→H} {P:Program} {w:World} {base:Nat} {spare:Nat→Bool} {held:Bool}
theorem open_agg7w {r:Reach} {b0:Nat} {t:TypeId} {f0 f1 f2 f3 f4 f5 f6:Field} {v:Value} {d:DataW H} {p:List MemPlace} (hs:P.underlying t=some (.struct #[f0,f1,f2,f3,f4,f5,f6])) (hone:oneCellFields P #[f0,f1,f2,f3,f4,f5,f6]=true) (hC:P.cellsOf t=7)
 (hv:Value.okWide P w r b0 t v) (h:DataW.Trod enc P w base spare held t v d p):
 ∃ (v0 v1 v2 v3 v4 v5 v6:Value) (y0 y1 y2 y3 y4 y5 y6:DataW H×List MemPlace),v=.agg #[v0,v1,v2,v3,v4,v5,v6]∧d=.agg [y0.1,y1.1,y2.1,y3.1,y4.1,y5.1,y6.1] ∧
  (∃ n,DataW.trod enc P w base spare held n f0.type [v0]=some y0)∧(∃ n,DataW.trod enc P w base spare held n f1.type [v1]=some y1)∧(∃ n,DataW.trod enc P w base spare held n f2.type [v2]=some y2)∧(∃ n,DataW.trod enc P w base spare held n f3.type [v3]=some y3) ∧
  (∃ n,DataW.trod enc P w base spare held n f4.type [v4]=some y4)∧(∃ n,DataW.trod enc P w base spare held n f5.type [v5]=some y5)∧(∃ n,DataW.trod enc P w base spare held n f6.type [v6]=some y6):=by
 obtain⟨cs,rfl,hsz⟩:=okWide_struct hs hv
 obtain⟨c0,c1,c2,c3,c4,c5,c6,rfl⟩:=array7 (hsz.trans hC)
 obtain⟨fuel,hf⟩:=h
 obtain⟨xs,n,_,hx,hl,hlen,hf⟩:=DataW.trod_struct hs hf
 obtain⟨y0,y1,y2,y3,y4,y5,y6,rfl⟩:∃ y0 y1 y2 y3 y4 y5 y6,xs = [y0,y1,y2,y3,y4,y5,y6]:=by
  match xs,hlen with
  | [y0,y1,y2,y3,y4,y5,y6],_=>exact⟨y0,y1,y2,y3,y4,y5,y6,rfl⟩
 have hd:=congrArg Prod.fst hx
 obtain⟨o0,k0⟩:=hone_of hone 0 f0 rfl
 obtain⟨o1,k1⟩:=hone_of hone 1 f1 rfl
 obtain⟨o2,k2⟩:=hone_of hone 2 f2 rfl
 obtain⟨o3,k3⟩:=hone_of hone 3 f3 rfl
 obtain⟨o4,k4⟩:=hone_of hone 4 f4 rfl
 obtain⟨o5,k5⟩:=hone_of hone 5 f5 rfl
 obtain⟨o6,k6⟩:=hone_of hone 6 f6 rfl
 refine⟨c0,c1,c2,c3,c4,c5,c6,y0,y1,y2,y3,y4,y5,y6,rfl,hd,⟨n,?_⟩,⟨n,?_⟩,⟨n,?_⟩,⟨n,?_⟩,⟨n,?_⟩,⟨n,?_⟩,⟨n,?_⟩⟩
 · have h:=hf 0 f0 rfl
   simpa [Value.cells,o0,k0] using h
 · have h:=hf 1 f1 rfl
   simpa [Value.cells,o1,k1] using h
 · have h:=hf 2 f2 rfl
   simpa [Value.cells,o2,k2] using h
 · have h:=hf 3 f3 rfl
   simpa [Value.cells,o3,k3] using h
 · have h:=hf 4 f4 rfl
   simpa [Value.cells,o4,k4] using h
 · have h:=hf 5 f5 rfl
   simpa [Value.cells,o5,k5] using h
 · have h:=hf 6 f6 rfl
   simpa [Value.cells,o6,k6] using h
end
theorem row_of_trodw {H:Type} {enc:TypeId×Value→H} {W:World} {base fuel:Nat} {held:Bool} {v:Value} {y:DataW H×List MemPlace} (h:DataW.trod enc Tryz.prog W base (fun _=>true) held fuel 22 [v]=some y) (hz:∀ n∈y.1.weights Tryz.prog 22,n≤reachBytes):
 ∃ a len cap zs,v=.slice a len cap∧IsRow .u8 W a len cap zs∧len≤1000000000000000:=by
 rcases open_ints Tryz.underlying22 Tryz.underlying5 (by kernel_rfl) h with ⟨hcs,_⟩ | ⟨x,l,c,zs,hcs,_,hl,hm,hz',hy,hcell,hwz⟩
 · simp at hcs
   exact⟨none,0,0,[],hcs,.inl ⟨rfl,rfl,rfl,rfl⟩,by omega⟩
 · simp at hcs hz'
   refine⟨some x,l,c,zs,hcs,.inr ⟨_,rfl,hl,hm,hz',hcell,hwz⟩,?_⟩
   have hb:Tryz.prog.bytesOf 5=1:=by kernel_rfl
   have h1:=hz ((zs.take l).length+(zs.drop l).length) (by
    rw [hy]
    simp [DataW.weights,Tryz.underlying22,hb,lits])
   have e:(zs.take l).length+(zs.drop l).length=c:=by rw [←List.length_append,List.take_append_drop,hz']
   rw [e] at h1
   have:reachBytes≤1000000000000000:=by decide
   omega
end Go.Proofs.YtbkgbhlmeeodgaaGreatDoor
namespace Go.Proofs.YtbkgbhlmeeodgaaGreatDoor
open Go.ChangeShapes Go.WideShapes Go.ChangeAt Go.RowKit
theorem hant {W:World} (h:laidMetH Tryz.prog Rows.decompFormsRow.laid W):HanT W:=by
 have h':laidMet Tryz.prog Rows.decompFormsRow.laid W:=by
  rw [MakeChecks.laidMetH_plain _ _ _ (by kernel_rfl)] at h
  exact h
 obtain ⟨g, t, cs, fuel, p, hg, hty, hvar, hd⟩ := Lib.laidMet.reads h' (n := "paronym/data.hangul") (d := Rows.laid_paronym_data_hangul) (by simp [Rows.decompFormsRow])
 obtain rfl := Option.some.inj ((show Tryz.prog.globalNamed "paronym/data.hangul" = some 0 by kernel_rfl).symm.trans hg)
 obtain rfl:=Option.some.inj ((show (Tryz.prog.globals[0]?).map (·.type)=some 193 by kernel_rfl).symm.trans hty)
 have part:∀ i,i<4→∀ a b:Int,((Rows.laid_paronym_data_hangul:DataW Unit)=.agg [.agg [.lit (.int .i64 4352),.lit (.int .i64 4370)],.agg [.lit (.int .i64 4449),.lit (.int .i64 4469)],.agg [.lit (.int .i64 4520),.lit (.int .i64 4546)],.agg [.lit (.int .i64 44032),.lit (.int .i64 55203)]]) →
  ([(4352,4370),(4449,4469),(4520,4546),(44032,55203)]:List (Int×Int))[i]? = some (a,b)→W.cell? ⟨0,2*i,none⟩=some (.int .i64 a)∧W.cell? ⟨0,2*i+1,none⟩=some (.int .i64 b):=by
  intro i hi a b he hab
  rw [he] at hd
  obtain⟨fuel',d,q,hdi,hde⟩:=Lib.array_elem Tryz.underlying193 hd i hi
  rw [show Tryz.prog.cellsOf 50=2 by kernel_rfl] at hde
  have hdd:d=Lib.tabData .i64 [a,b]:=by
   match i,hi with
   | 0,_=>simp at hdi hab;obtain⟨rfl,rfl⟩:=hab;exact hdi.symm
   | 1,_=>simp at hdi hab;obtain⟨rfl,rfl⟩:=hab;exact hdi.symm
   | 2,_=>simp at hdi hab;obtain⟨rfl,rfl⟩:=hab;exact hdi.symm
   | 3,_=>simp at hdi hab;obtain⟨rfl,rfl⟩:=hab;exact hdi.symm
  subst hdd
  have hcs:=Lib.cells_of_tab Tryz.underlying50 Tryz.underlying3 (by kernel_rfl) (by kernel_rfl) hde
  have e0:=congrArg (·[0]?) hcs
  have e1:=congrArg (·[1]?) hcs
  simp only [List.getElem?_take,List.getElem?_drop] at e0 e1
  constructor
  · rw [World.var?_cell hg hvar (2*i),←Array.getElem?_toList]
    simpa [Nat.mul_comm] using e0
  · rw [World.var?_cell hg hvar (2*i+1),←Array.getElem?_toList]
    simpa [Nat.mul_comm] using e1
 have q0:=part 0 (by omega) _ _ rfl rfl
 have q1:=part 1 (by omega) _ _ rfl rfl
 have q2:=part 2 (by omega) _ _ rfl rfl
 have q3:=part 3 (by omega) _ _ rfl rfl
 exact⟨⟨q0.1,q0.2,q1.1,q1.2⟩,⟨q2.1,q2.2,q3.1,q3.2⟩⟩
end Go.Proofs.YtbkgbhlmeeodgaaGreatDoor
