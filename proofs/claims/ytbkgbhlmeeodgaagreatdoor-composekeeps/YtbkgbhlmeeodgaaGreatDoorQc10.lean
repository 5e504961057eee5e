/- A part. -/
import Derived.Test.YtbkgbhlmeeodgaaGreatDoorQc09
import Derived.Maps.OwnIn
import Derived.Maps.Views
import Derived.DeepKeys4
import Derived.Maps.OwnSet
namespace Go.Proofs.YtbkgbhlmeeodgaaGreatDoor.Pq
open Go.RowKit Go.Sort
theorem side_zero {s t:Sp}:decide (sideOf s t=0)=meets s t:=by
 unfold sideOf meets
 by_cases h1:s.b<t.a
 · rw [if_pos h1,decide_eq_false (by omega),decide_eq_false (show ¬t.a≤s.b by omega),Bool.and_false]
 · rw [if_neg h1]
   by_cases h2:t.b<s.a
   · rw [if_pos h2,decide_eq_false (by omega),decide_eq_false (show ¬s.a≤t.b by omega),Bool.false_and]
   · rw [if_neg h2,decide_eq_true (show s.a≤t.b by omega),decide_eq_true (show t.a≤s.b by omega)];rfl
theorem found_iff:∀ {ls:List Sp} {x:Sp},Rises ls→(∀ s∈ls,s.a≤s.b)→foundAt ls x=ls.any (meets · x)
 | [],x,_,_=>rfl
 | t::ls,x,hr,hf=>by
  by_cases h:t.b<x.a
  · have ih:=found_iff (ls:=ls) (x:=x) (List.Pairwise.of_cons hr) (fun s hs=>hf s (List.mem_cons_of_mem _ hs))
    have hp:placeOf (t::ls) x=placeOf ls x+1:=by unfold placeOf;rw [List.takeWhile_cons_of_pos (by simp [h])];rfl
    have hm:meets t x=false:=by unfold meets;rw [decide_eq_false (show ¬x.a≤t.b by omega),Bool.and_false]
    rw [List.any_cons,hm,Bool.false_or,←ih]
    unfold foundAt
    rw [hp,List.getElem?_cons_succ]
  · have hp:placeOf (t::ls) x=0:=by unfold placeOf;rw [List.takeWhile_cons_of_neg (by simp;omega)];rfl
    have e:foundAt (t::ls) x=meets t x:=by unfold foundAt;rw [hp];exact side_zero
    rw [e,List.any_cons]
    cases hm:meets t x
    · rw [Bool.false_or]
      symm
      rw [List.any_eq_false]
      intro u hu
      have h1:=(List.pairwise_cons.1 hr).1 u hu
      have h2:=hf t (List.mem_cons_self ..)
      unfold meets at hm ⊢
      rw [decide_eq_true (show x.a≤t.b by omega),Bool.and_true] at hm
      have:=of_decide_eq_false hm
      simp
      omega
    · rfl
theorem found_some {ls:List Sp} {x:Sp} (h:foundAt ls x=true):∃ s,ls[placeOf ls x]? = some s∧meets s x=true:=by
 unfold foundAt at h
 split at h
 · rename_i t ht
   exact⟨t,ht,by rw [←side_zero];exact h⟩
 · cases h
theorem value_found {ls:List Sp} {c:Int} {s:Sp} (hr:Rises ls) (hs:ls[placeOf ls ⟨c,c,[]⟩]? = some s) (hm:meets s ⟨c,c,[]⟩=true):valueOf ls c=s.v:=by
 unfold meets at hm
 simp at hm
 exact value_at hr (List.mem_of_getElem? hs) hm.1 hm.2
theorem value_none {ls:List Sp} {c:Int} (hr:Rises ls) (hf:∀ s∈ls,s.a≤s.b) (h:foundAt ls ⟨c,c,[]⟩=false):valueOf ls c = []:=by
 rw [found_iff hr hf,List.any_eq_false] at h
 refine value_gap fun s hs hc=>h s hs ?_
 unfold meets
 rw [decide_eq_true (show s.a≤c from hc.1),decide_eq_true (show c≤s.b from hc.2)];rfl
def TIn (w:World) (p A:Option Addr) (c:Nat) (ls:List Sp):Prop:=
 (p=none∧ls = []∧A=none∧c=0)∨∃ b,p=some ⟨b,0,none⟩∧b<w.heap.size∧w.cell? ⟨b,0,none⟩=some (.slice A ls.length c)∧SAt w A ls.length ls∧ls.length≤c∧(A=none→c=0)
theorem TIn.below {w w':World} {p A:Option Addr} {c:Nat} {ls:List Sp} (h:TIn w p A c ls) (hb:Below w.heap.size w w'):TIn w' p A c ls:=by
 rcases h with h | ⟨b,rfl,hlt,hc,hS,hl⟩
 · exact .inl h
 · exact .inr ⟨b,rfl,Nat.lt_of_lt_of_le hlt hb.size,(hb.cell (p:=⟨b,0,none⟩) hlt).trans hc,hS.below hb,hl⟩
theorem TIn.sat {w:World} {p A:Option Addr} {c:Nat} {ls:List Sp} (h:TIn w p A c ls):SAt w A ls.length ls:=by
 rcases h with ⟨_,rfl,_,_⟩ | ⟨b,rfl,hlt,hc,hS,hl⟩
 · exact SAt.nil w A
 · exact hS
set_option maxRecDepth 100000 in
set_option maxHeartbeats 1000000 in
theorem list31 (p A:Option Addr) (c:Nat) (ls:List Sp) (w:World) (hT:TIn w p A c ls):
 Calls Tryz.prog 277 #[.pointer p] w fun e w'=>e=.returned (.slice A ls.length c)∧Below w.heap.size w w':=by
 have HB:=Lib.hid (Below.refl w.heap.size w)
 rcases hT with ⟨rfl,rfl,rfl,rfl⟩ | ⟨b,rfl,hlt,hc,hS,hl⟩
 · go_enter Tryz.func277,Tryz.ntmps277
   go_wp2
   go_ret
   exact⟨rfl,HB.out⟩
 · clear hS hl
   go_enter Tryz.func277,Tryz.ntmps277
   go_wp2
   go_ret
   exact⟨rfl,HB.out⟩
set_option maxRecDepth 100000 in
set_option maxHeartbeats 2000000 in
theorem place33 (p A:Option Addr) (c:Nat) (ls:List Sp) (x:Sp) (w:World) (hT:TIn w p A c ls) (hn:ls.length≤100000) (hr:Rises ls) (hf:∀ s∈ls,s.a≤s.b):
 Calls Tryz.prog 265 #[.pointer p,spV x] w (BinPost ls x w):=by
 have mixed:Tryz.prog.follows .mixedOrders=true:=by kernel_rfl
 unfold spV
 obtain⟨U,hU⟩:∃ U,bs x.v=U:=⟨_,rfl⟩
 rw [hU]
 have hbw:Below w.heap.size w (w.alloc (.cells #[.int .i64 x.a,.int .i64 x.b,.string U] 176)):=(Below.refl _ _).alloc (Nat.le_refl _) _
 have hT1:=hT.below hbw
 have e0:(w.alloc (.cells #[.int .i64 x.a,.int .i64 x.b,.string U] 176)).cell? ⟨w.heap.size,0,none⟩=some (.int .i64 x.a):=by simp
 have e1:(w.alloc (.cells #[.int .i64 x.a,.int .i64 x.b,.string U] 176)).cell? ⟨w.heap.size,1,none⟩=some (.int .i64 x.b):=by simp
 have e2:(w.alloc (.cells #[.int .i64 x.a,.int .i64 x.b,.string U] 176)).cell? ⟨w.heap.size,2,none⟩=some (.string U):=by simp
 have e0:=cell_regrown e0
 have e1:=cell_regrown e1
 have e2:=cell_regrown e2
 have HB:=Lib.hid hbw
 clear hbw
 go_enter Tryz.func265,Tryz.ntmps265
 go_wp2
 obtain⟨W,hW⟩:∃ W,(w.alloc (.cells #[.int .i64 x.a,.int .i64 x.b,.string U] 176))=W:=⟨_,rfl⟩
 rw [hW] at e0 e1 e2 hT1 HB ⊢
 obtain⟨l,hl⟩:∃ l,w.heap.size=l:=⟨_,rfl⟩
 rw [hl] at e0 e1 e2 ⊢
 have c31:=fun d os=>list31 p A c ls (grow (redrawn W d) os) (hT1.below (below_regrown W d os))
 have c42:=fun d os=>bin42 A ls.length c ls x (grow (redrawn W d) os) (hT1.below (below_regrown W d os)).sat hn hr hf
 unfold spV BinPost at c42
 rw [hU] at c42
 clear hW hT hT1 hr hf
 refine wp_region_quiet_below mixed (by kernel_rfl) ?_
 repeat (quiet_step (first | (go_at_call 277;exact Calls.regrown_of (c31 _ _)) | (go_at_call 276;exact Calls.regrown_of (c42 _ _))))
 refine wpQuiet_nil ?_
 intro _ hw'
 obtain⟨⟨dq,osq⟩,hw''⟩:=hw'
 subst hw''
 go_wp2
 go_ret2
 exact⟨rfl,HB.out.trans ((below_regrown W dq osq).mono HB.out.size)⟩
set_option maxRecDepth 100000 in
set_option maxHeartbeats 2000000 in
theorem value16 (p A:Option Addr) (c:Nat) (ls:List Sp) (z:Int) (w:World) (hT:TIn w p A c ls) (hn:ls.length≤100000) (hr:Rises ls) (hf:∀ s∈ls,s.a≤s.b):
 Calls Tryz.prog 238 #[.pointer p,.int .i64 z] w fun e w'=>e=.returned (.string (bs (valueOf ls z)))∧Below w.heap.size w w':=by
 have c33:=place33 p A c ls ⟨z,z,[]⟩ w hT hn hr hf
 unfold spV BinPost at c33
 rw [bs_nil] at c33
 cases hfo:foundAt ls ⟨z,z,[]⟩
 · have HV:=Lib.hid (value_none hr hf hfo)
   rw [hfo] at c33
   clear hT hr hf hfo
   go_enter Tryz.func238,Tryz.ntmps238
   go_wp2_with (go_at_call 265;(with_reducible refine c33.mono ?_);rintro e w1 ⟨rfl,hb1⟩)
   go_ret
   exact⟨by rw [HV.out,bs_nil];rfl,hb1⟩
 · obtain⟨s,hs,hm⟩:=found_some hfo
   have HV:=Lib.hid (value_found hr hs hm)
   rw [hfo] at c33
   have hkl:=(List.getElem?_eq_some_iff.1 hs).1
   rcases hT with ⟨-,rfl,-,-⟩ | ⟨b,rfl,hlt,hc,hS,hl⟩
   · cases hfo
   obtain⟨b2,off,rfl,hb2,hcc⟩:=hS.2 (by omega)
   obtain⟨-,-,h3⟩:=hcc _ s hs
   obtain⟨K,hK⟩:∃ K,placeOf ls ⟨z,z,[]⟩=K:=⟨_,rfl⟩
   rw [hK] at c33 h3 hkl
   obtain⟨T,hT⟩:∃ T,bs s.v=T:=⟨_,rfl⟩
   have HT:=Lib.hid hT
   rw [hT] at h3
   clear hr hf hfo hs hm hS hl hcc hK hT
   go_enter Tryz.func238,Tryz.ntmps238
   go_wp2_with (go_at_call 265;(with_reducible refine c33.mono ?_);rintro e w1 ⟨rfl,hb1⟩;have d1:=(hb1.cell (p:=⟨b,0,none⟩) hlt).trans hc;have d3:=(hb1.cell (p:=⟨b2,off+K*3+2,none⟩) hb2).trans h3)
   go_ret
   exact⟨by rw [HV.out,HT.out];rfl,hb1⟩
def hasOf (ls:List Sp) (z:Int) (v:List UInt8):Bool:=decide (v ≠ [])&&decide (valueOf ls z=v)
theorem bs_eq (l m:List UInt8):((bs l).toList==(bs m).toList)=decide (l=m):=by rw [bs_toList,bs_toList];by_cases h:l=m <;> simp [h]
end Go.Proofs.YtbkgbhlmeeodgaaGreatDoor.Pq
namespace Go.Proofs.YtbkgbhlmeeodgaaGreatDoor.Cf
open Go.RowKit Go.Shelf
attribute [local go_sem] Oper.semAt_some
def tokE (v:Value):Option (DataW Value×List MemPlace):=some (.held v,[])
theorem tokE_inv {v:Value} {d:DataW Value} {q:List MemPlace} (h:tokE v=some (d,q)):d=.held v:=by
 unfold tokE at h
 injection h with h
 injection h with h1 h2
 exact h1.symm
theorem k3:Maps.Keyed Tryz.prog (3):=Maps.int_keyed Tryz.underlying3
theorem zero33 (w:World):(zeroValue 25).run Tryz.prog w=.ok (.slice none 0 0) w:=by kernel_rfl
theorem key3 {c:Int} (h:(Lit.int .i64 c).wf=true):keyOf Tryz.prog (3) (.int .i64 c)=some (.int .i64 c):=Maps.keyOf_int_mk Tryz.underlying3 h
theorem look_tok {w:World} {ops:Array Oper} {rest:List Oper} {o:Oper} {a:Act} {Q:Exit→Act→World→Prop} (hg:o.guard=none) (m x:Operand) (hop:o.op=Op.lookup 183 m x true)
 (b n:Nat) (D:DataW Value) (hm:a.eval m=.map (some b)) (hown:w.ownsMap Tryz.prog (3) tokE b n D) (c:Int) (hx:a.eval x=.int .i64 c) (hc:(Lit.int .i64 c).wf=true) (v:Value) (f:Bool)
 (hat:D.atKey (.int .i64 c) (.held (.slice none 0 0))=.held v) (hf:Maps.has D (.int .i64 c)=f) (hK:wpList Tryz.prog ops Q rest (a.put o.dst (.tuple #[v,.bool f])) w):wpList Tryz.prog ops Q (o::rest) a w:=
 wpList_lookup_own_ok w hg m x 183 hop 3 25 k3 Tryz.underlying183 tokE (zero33 _) (.held (.slice none 0 0)) [] rfl b n D hm hown _ _ hx (key3 hc) (fun v' ps hv=>by
  have e:=tokE_inv hv
  rw [hat] at e
  injection e with e
  rw [←e,hf]
  exact hK)
theorem look_tok_in {F:Fence} {nF:Nat} {w:World} {ops:Array Oper} {rest:List Oper} {o:Oper} {a:Act} {Q:Exit→Act→World→Prop} (hg:o.guard=none) (m x:Operand) (hop:o.op=Op.lookup 183 m x true)
 (b n:Nat) (D:DataW Value) (hm:a.eval m=.map (some b)) (hown:w.ownsMap Tryz.prog (3) tokE b n D) (c:Int) (hx:a.eval x=.int .i64 c) (hc:(Lit.int .i64 c).wf=true) (v:Value) (f:Bool)
 (hat:D.atKey (.int .i64 c) (.held (.slice none 0 0))=.held v) (hf:Maps.has D (.int .i64 c)=f) (hK:wpListIn F nF Tryz.prog ops Q rest (a.put o.dst (.tuple #[v,.bool f])) w):wpListIn F nF Tryz.prog ops Q (o::rest) a w:=
 wpListIn_lookup_own_ok w hg m x 183 hop 3 25 k3 Tryz.underlying183 tokE (zero33 _) (.held (.slice none 0 0)) [] rfl b n D hm hown _ _ hx (key3 hc) (fun v' ps hv=>by
  have e:=tokE_inv hv
  rw [hat] at e
  injection e with e
  rw [←e,hf]
  exact hK)
def MapIs (lo:Nat) (D:DataW Value) (ps:List Pp) (W:World):Prop:=
 (∀ c:Int,Maps.has D (.int .i64 c)=hasS ps c)∧∀ r∈ps,∃ A k,D.atKey (.int .i64 r.c) (.held (.slice none 0 0))=.held (.slice A r.p.length k)∧Vals W A r.p.length (nums .i64 r.p)∧∀ a,A=some a→lo≤a.block
def Small (r:Pp):Prop:=r.p.length≤1000∧(Lit.int .i64 r.c).wf=true
def CTab (w:World) (b mb n:Nat) (A:Option Addr) (k:Nat) (D:DataW Value) (ps:List Pp):Prop:=
 (w.cell? ⟨b,0,none⟩=some (.map (some mb))∧w.cell? ⟨b,1,none⟩=some (.slice A ps.length k))∧(Vals w A ps.length (nums .i64 (ps.map Pp.c))∧(w.ownsMap Tryz.prog (3) tokE mb n D∧MapIs 0 D ps w))∧(Rise ps∧∀ r∈ps,Small r)
def CTx (w:World) (p:Option Addr) (A:Option Addr) (k:Nat) (ps:List Pp):Prop:=
 ((p=none∧A=none)∧(k=0∧ps = []))∨∃ b mb n D,p=some ⟨b,0,none⟩∧CTab w b mb n A k D ps
def CT (w:World) (p:Option Addr) (ps:List Pp):Prop:=∃ A k,CTx w p A k ps
def Stays (w w':World):Prop:=w.heap.size≤w'.heap.size∧∀ k,k<w.heap.size→w'.heap[k]? = w.heap[k]?
theorem Stays.of_below {w w':World} (h:Below w.heap.size w w'):Stays w w':=⟨h.size,fun k hk=>h.block k hk⟩
theorem Stays.cell {w w':World} (h:Stays w w') {a:Addr} {v:Value} (hc:w.cell? a=some v):w'.cell? a=some v:=(World.cell?_of_block (h.2 _ (World.block_lt_of_cell? w a hc))).trans hc
theorem Stays.vals {w w':World} (h:Stays w w') {A:Option Addr} {n:Nat} {vs:List Value} (hv:Vals w A n vs):Vals w' A n vs:=by
 refine⟨hv.1,fun hn=>?_⟩
 obtain⟨b,off,rfl,hlt,hc⟩:=hv.2 hn
 exact⟨b,off,rfl,Nat.lt_of_lt_of_le hlt h.1,fun j v hj=>h.cell (hc j v hj)⟩
theorem Stays.owns {w w':World} (h:Stays w w') {mb n:Nat} {D:DataW Value} (ho:w.ownsMap Tryz.prog (3) tokE mb n D):w'.ownsMap Tryz.prog (3) tokE mb n D:=by
 have hlt:=ho.lt
 obtain⟨es,clock,hb,F,hs,hD⟩:=ho
 exact⟨es,clock,(h.2 mb hlt).trans hb,F,hs,hD⟩
theorem MapIs.stays {w w':World} {lo:Nat} {D:DataW Value} {ps:List Pp} (h:MapIs lo D ps w) (hs:Stays w w'):MapIs lo D ps w':=
 ⟨h.1,fun r hr=>by obtain⟨A,k,h1,h2,h3⟩:=h.2 r hr;exact⟨A,k,h1,hs.vals h2,h3⟩⟩
theorem CTx.stays {w w':World} {p A:Option Addr} {k:Nat} {ps:List Pp} (h:CTx w p A k ps) (hs:Stays w w'):CTx w' p A k ps:=by
 rcases h with h | ⟨b,mb,n,D,rfl,⟨h1,h2⟩,⟨h3,h4,h5⟩,h6⟩
 · exact .inl h
 · exact .inr ⟨b,mb,n,D,rfl,⟨hs.cell h1,hs.cell h2⟩,⟨hs.vals h3,hs.owns h4,h5.stays hs⟩,h6⟩
theorem CT.below {w w':World} {p:Option Addr} {ps:List Pp} (h:CT w p ps) (hb:Below w.heap.size w w'):CT w' p ps:=by
 obtain⟨A,k,h⟩:=h
 exact⟨A,k,h.stays (.of_below hb)⟩
end Go.Proofs.YtbkgbhlmeeodgaaGreatDoor.Cf
namespace Go.Proofs.YtbkgbhlmeeodgaaGreatDoor
open Go.RowKit
theorem pairWide:(match Tryz.prog.underlying 131 with | some (.array _ _) | some (.struct _)=>true | _=>false)=true:=by kernel_rfl
theorem pairRow:(131:TypeId)<Tryz.prog.types.size:=of_decide_eq_true (by kernel_rfl)
theorem pairLaid:laidOutB Tryz.prog=true:=by kernel_rfl
theorem pairDeep:Tryz.prog.keyTypeAt 2 131=true:=by kernel_rfl
set_option maxRecDepth 100000 in
theorem pairLaw:WideMaps.KeyLaw Tryz.prog 131:=deep_law_laid pairLaid (m:=2) (by omega) pairRow pairDeep pairWide
set_option maxRecDepth 100000 in
theorem pairK:Maps.Keyed Tryz.prog 131:=Maps.Keyed.of_law pairLaw
def pairV (x y:Int):Value:=.agg #[.int .i64 x,.int .i64 y]
set_option maxRecDepth 100000 in
theorem pair_lits (x y:Int) (hx:(Lit.int .i64 x).wf=true) (hy:(Lit.int .i64 y).wf=true) (n:Nat):Tryz.prog.keyLits (n+2) 131 (pairV x y).cells.toList=some [.int .i64 x,.int .i64 y]:=by
 have c3:Tryz.prog.cellsOf 3=1:=by kernel_rfl
 have hc:Tryz.prog.cellsOf 131=2:=by kernel_rfl
 simp [Program.keyLits,Tryz.underlying131,Tryz.underlying3,hc,c3,pairV,Value.cells,hx,hy]
theorem pair_of (P:Program) (fs:Array Field) (v:Value) (n:Nat) (ls:List Lit) (hu:P.underlying 131=some (.struct fs)) (hk:P.keyType 131=true) (hf:v.formed P 131=true) (hl:∀ n,P.keyLits (n+2) 131 v.cells.toList=some ls) (hs:P.types.size=n+1):keyOf P 131 v=some (.string (keyBytes ls)):=by
 unfold keyOf
 rw [hu,hs]
 simp only [hk,hf,Bool.and_true,if_true,hl n,Option.map_some]
set_option maxRecDepth 100000 in
theorem pair_some (x y:Int) (hx:(Lit.int .i64 x).wf=true) (hy:(Lit.int .i64 y).wf=true):∃ l,keyOf Tryz.prog 131 (pairV x y)=some l:=by
 have hk:Tryz.prog.keyType 131=true:=by kernel_rfl
 have hc:Tryz.prog.cellsOf 131=2:=by kernel_rfl
 have hf:(pairV x y).formed Tryz.prog 131=true:=by simp [pairV,Value.formed,Tryz.underlying131,hc]
 have h:(131:Nat)<Tryz.prog.types.size:=pairRow
 exact⟨_,pair_of Tryz.prog _ (pairV x y) _ _ Tryz.underlying131 hk hf (pair_lits x y hx hy) (Nat.succ_pred_eq_of_pos (Nat.lt_of_le_of_lt (Nat.zero_le _) h)).symm⟩
noncomputable def kP (x y:Int):Lit:=(keyOf Tryz.prog 131 (pairV x y)).getD (.bool false)
theorem kP_is {x y:Int} (hx:(Lit.int .i64 x).wf=true) (hy:(Lit.int .i64 y).wf=true):keyOf Tryz.prog 131 (pairV x y)=some (kP x y):=by
 obtain⟨l,h⟩:=pair_some x y hx hy
 unfold kP
 rw [h];rfl
set_option maxRecDepth 100000 in
theorem kP_key {x y:Int} (hx:(Lit.int .i64 x).wf=true) (hy:(Lit.int .i64 y).wf=true):WideAt.IsKeyLit (kP x y):=pairK.key (kP_is hx hy)
set_option maxRecDepth 100000 in
theorem kP_inj {x y a b:Int} (hx:(Lit.int .i64 x).wf=true) (hy:(Lit.int .i64 y).wf=true) (ha:(Lit.int .i64 a).wf=true) (hb:(Lit.int .i64 b).wf=true) (h:kP x y=kP a b):x=a∧y=b:=by
 have e:=pairK.inj (kP_is hx hy) (h▸kP_is ha hb)
 unfold pairV at e
 injection e with e
 simpa using e
end Go.Proofs.YtbkgbhlmeeodgaaGreatDoor
namespace Go.Proofs.YtbkgbhlmeeodgaaGreatDoor
open Go.RowKit Go.Shelf Go.Sort
attribute [local go_sem] Oper.semAt_some
structure PF (w:World) (b:Nat) (ps:List Uc.Pr) (sp:Nat→List Pq.Sp) (cf:List Cf.Pp):Prop where
 uni:∃ p A c ls,w.cell? ⟨b,0,none⟩=some (.pointer p)∧Uc.TIn w p A c ls∧Uc.Ist w ls ps
 prs:∀ i,i<5→∃ p A c,w.cell? ⟨b,1+i,none⟩=some (.pointer p)∧Pq.TIn w p A c (sp i)
 cnf:∃ p,w.cell? ⟨b,6,none⟩=some (.pointer p)∧Cf.CT w p cf
theorem PF.below {w w':World} {b:Nat} {ps:List Uc.Pr} {sp:Nat→List Pq.Sp} {cf:List Cf.Pp} (h:PF w b ps sp cf) (hb:Below w.heap.size w w'):PF w' b ps sp cf:=by
 have cc:∀ {k:Nat} {v:Value},w.cell? ⟨b,k,none⟩=some v→w'.cell? ⟨b,k,none⟩=some v:=fun {k v} hc=>(hb.cell (p:=⟨b,k,none⟩) (World.block_lt_of_cell? w _ hc)).trans hc
 refine⟨?_,fun i hi=>?_,?_⟩
 · obtain⟨p,A,c,ls,h1,h2,h3⟩:=h.uni;exact⟨p,A,c,ls,cc h1,h2.below hb,h3.below hb⟩
 · obtain⟨p,A,c,h1,h2⟩:=h.prs i hi;exact⟨p,A,c,cc h1,h2.below hb⟩
 · obtain⟨p,h1,h2⟩:=h.cnf;exact⟨p,cc h1,h2.below hb⟩
def MkIs (D:DataW Value) (ms:List (Int×Int×Int)):Prop:=∀ x y:Int,(Lit.int .i64 x).wf=true→(Lit.int .i64 y).wf=true→D.atKey (kP x y) (.lit (.int .i64 0))=.lit (.int .i64 ((findM ms x y).getD 0))∧Maps.has D (kP x y)=(findM ms x y).isSome
theorem findM_snoc (c x y a b:Int):∀ ms:List (Int×Int×Int),findM (ms ++ [(c,x,y)]) a b=if (findM ms a b).isSome=true then findM ms a b else if x=a∧y=b then some c else none
 | []=>by simp [findM]
 | m::ms=>by
  have ih:=findM_snoc c x y a b ms
  rw [List.cons_append,findM,findM]
  by_cases h:m.2.1=a∧m.2.2=b
  · rw [if_pos h,if_pos h];rfl
  · rw [if_neg h,if_neg h];exact ih
theorem mkIs_nil:MkIs (.map []) []:=fun _ _ _ _=>⟨rfl,rfl⟩
set_option maxRecDepth 100000 in
theorem mkIs_put {D:DataW Value} {ms:List (Int×Int×Int)} {c x y:Int} (hD:Maps.IsMap D) (hx:(Lit.int .i64 x).wf=true) (hy:(Lit.int .i64 y).wf=true) (h:MkIs D ms) (hn:findM ms x y=none):MkIs (D.put (kP x y) (.lit (.int .i64 c))) (ms ++ [(c,x,y)]):=by
 intro a b ha hb
 rw [findM_snoc]
 by_cases e:x=a∧y=b
 · obtain⟨rfl,rfl⟩:=e
   rw [hn,if_neg (by simp),if_pos ⟨rfl,rfl⟩,Maps.atKey_put_same hD (kP_key hx hy),Maps.has_put_same hD (kP_key hx hy)]
   exact⟨rfl,rfl⟩
 · have hne:kP a b≠kP x y:=fun h=>e (by have:=kP_inj ha hb hx hy h;exact⟨this.1.symm,this.2.symm⟩)
   rw [Maps.atKey_put_other hne,Maps.has_put_other hne]
   obtain⟨h1,h2⟩:=h a b ha hb
   rw [h1,h2]
   cases findM ms a b with
   | some v=>exact⟨rfl,rfl⟩
   | none=>rw [if_neg (by simp),if_neg e];exact⟨rfl,rfl⟩
def PM (w:World) (b:Nat) (ms:List (Int×Int×Int)):Prop:=∃ m n D,w.cell? ⟨b,7,none⟩=some (.map (some m))∧w.ownsMap Tryz.prog 131 (plainElem (H:=Value) Tryz.prog 3) m n D∧MkIs D ms
theorem PM.below {w w':World} {b:Nat} {ms:List (Int×Int×Int)} (h:PM w b ms) (hb:Below w.heap.size w w'):PM w' b ms:=by
 obtain⟨m,n,D,h1,h2,h3⟩:=h
 have hl:=h2.lt
 obtain⟨es,clock,h4,F⟩:=h2
 exact⟨m,n,D,(hb.cell (p:=⟨b,7,none⟩) (World.block_lt_of_cell? w _ h1)).trans h1,⟨es,clock,(hb.block m hl).trans h4,F⟩,h3⟩
theorem Z3 (w:World):(zeroValue 3).run Tryz.prog w=.ok (.int .i64 0) w:=by kernel_rfl
theorem own37 (b:Nat) (w:World):Calls Tryz.prog 50 #[.pointer (some ⟨b,0,none⟩)] w fun e w'=>e=.returned (.pointer (some ⟨b,0,none⟩))∧w=w':=by
 go_enter Tryz.func50,Tryz.ntmps50
 go_wp2
 go_ret
 exact⟨rfl,rfl⟩
theorem uni15 (b:Nat) (p:Option Addr) (w:World) (h:w.cell? ⟨b,0,none⟩=some (.pointer p)):Calls Tryz.prog 25 #[.pointer (some ⟨b,0,none⟩)] w fun e w'=>e=.returned (.pointer p)∧w=w':=by
 have c37:=own37 b w
 go_enter Tryz.func25,Tryz.ntmps25
 go_wp2_with (go_at_call 50;(with_reducible refine c37.mono ?_);rintro e w1 ⟨rfl,rfl⟩)
 go_ret
 exact⟨rfl,rfl⟩
set_option maxRecDepth 100000 in
set_option maxHeartbeats 2000000 in
theorem has41 (p A:Option Addr) (c:Nat) (ls:List Pq.Sp) (z:Int) (v:List UInt8) (w:World) (hT:Pq.TIn w p A c ls) (hn:ls.length≤100000) (hr:Pq.Rises ls) (hf:∀ s∈ls,s.a≤s.b):
 Calls Tryz.prog 195 #[.pointer p,.int .i64 z,.string (bs v)] w fun e w'=>e=.returned (.bool (Pq.hasOf ls z v))∧Below w.heap.size w w':=by
 have c16:=Pq.value16 p A c ls z w hT hn hr hf
 have HB:=Lib.hid (Below.refl w.heap.size w)
 by_cases hv:v = []
 · have HR:Hid (Pq.hasOf ls z v=false):=Lib.hid (by unfold Pq.hasOf;rw [decide_eq_false (by simp [hv]),Bool.false_and])
   subst hv
   rw [bs_nil]
   clear hT hr hf
   go_enter Tryz.func195,Tryz.ntmps195
   go_wp2
   go_ret
   exact⟨by rw [HR.out];rfl,HB.out⟩
 · have hemp:=bs_some hv
   have heq:=Pq.bs_eq (Pq.valueOf ls z) v
   have HR:Hid (Pq.hasOf ls z v=decide (Pq.valueOf ls z=v)):=Lib.hid (by unfold Pq.hasOf;rw [decide_eq_true hv,Bool.true_and])
   obtain⟨T,hT2⟩:∃ T,bs v=T:=⟨_,rfl⟩
   obtain⟨V,hV2⟩:∃ V,bs (Pq.valueOf ls z)=V:=⟨_,rfl⟩
   rw [hT2] at hemp heq ⊢
   rw [hV2] at heq c16
   obtain⟨f,hfe⟩:∃ f,decide (Pq.valueOf ls z=v)=f:=⟨_,rfl⟩
   rw [hfe] at heq HR
   clear hT hr hf hv hT2 hV2 hfe
   go_enter Tryz.func195,Tryz.ntmps195
   go_wp2_with (go_at_call 238;(with_reducible refine c16.mono ?_);rintro e w1 ⟨rfl,hb1⟩)
   go_ret
   exact⟨by rw [HR.out,←heq];rfl,hb1⟩
def exclV:List UInt8:=[70,117,108,108,95,67,111,109,112,111,115,105,116,105,111,110,95,69,120,99,108,117,115,105,111,110]
def ignV:List UInt8:=[68,101,102,97,117,108,116,95,73,103,110,111,114,97,98,108,101,95,67,111,100,101,95,80,111,105,110,116]
theorem exc17_at (b:Nat) (p A:Option Addr) (c:Nat) (ls:List Pq.Sp) (z:Int) (w:World) (h:w.cell? ⟨b,1,none⟩=some (.pointer p)) (hT:Pq.TIn w p A c ls) (hn:ls.length≤100000) (hr:Pq.Rises ls) (hf:∀ s∈ls,s.a≤s.b):
 Calls Tryz.prog 160 #[.pointer (some ⟨b,0,none⟩),.int .i64 z] w fun e w'=>e=.returned (.bool (Pq.hasOf ls z exclV))∧Below w.heap.size w w':=by
 have c37:=own37 b w
 have c41:Calls Tryz.prog 195 #[.pointer p,.int .i64 z,.string ⟨#[70,117,108,108,95,67,111,109,112,111,115,105,116,105,111,110,95,69,120,99,108,117,115,105,111,110]⟩] w fun e w'=>e=.returned (.bool (Pq.hasOf ls z exclV))∧Below w.heap.size w w':=has41 p A c ls z exclV w hT hn hr hf
 obtain⟨f,hfe⟩:∃ f,Pq.hasOf ls z exclV=f:=⟨_,rfl⟩
 rw [hfe] at c41 ⊢
 clear hT hr hf hfe
 go_enter Tryz.func160,Tryz.ntmps160
 go_wp2_with (first
  | (go_at_call 50;(with_reducible refine c37.mono ?_);rintro e w1 ⟨rfl,rfl⟩)
  | (go_at_call 195;(with_reducible refine c41.mono ?_);rintro e w1 ⟨rfl,hb1⟩))
 go_ret
 exact⟨rfl,hb1⟩
set_option maxHeartbeats 1000000 in
theorem mak13 (b:Nat) (ms:List (Int×Int×Int)) (x y:Int) (w:World) (h:PM w b ms) (hx:(Lit.int .i64 x).wf=true) (hy:(Lit.int .i64 y).wf=true):
 Calls Tryz.prog 53 #[.pointer (some ⟨b,0,none⟩),.int .i64 x,.int .i64 y] w fun e w'=>e=.returned (mkV (findM ms x y))∧w=w':=by
 obtain⟨m,n,D,h1,h2,h3⟩:=h
 have c37:=own37 b w
 obtain⟨g1,g2⟩:=h3 x y hx hy
 have hK:(Instr.lookup 77 (.map (some m)) (.agg #[.int .i64 x,.int .i64 y]) true).run Tryz.prog w=.ok (.tuple #[.int .i64 ((findM ms x y).getD 0),.bool (findM ms x y).isSome]) w:=by
  obtain⟨v,ps,hr,hR⟩:=h2.look_ok pairK Tryz.underlying77 (Z3 w) (zd:=.lit (.int .i64 0)) (zp:=[]) (plainElem_int Tryz.underlying3 (by decide)) (kP_is hx hy)
  obtain⟨c,rfl,hc,-⟩:=plainElem_int_inv Tryz.underlying3 hR
  rw [g1] at hc
  have hc:(findM ms x y).getD 0=c:=by simp at hc;exact hc.1
  rw [g2] at hr
  rw [hc]
  exact hr
 have hv:mkV (findM ms x y)=.tuple #[.int .i64 ((findM ms x y).getD 0),.bool (findM ms x y).isSome]:=by cases findM ms x y <;> rfl
 rw [hv]
 obtain⟨k,hk⟩:∃ k,(findM ms x y).getD 0=k:=⟨_,rfl⟩
 obtain⟨f,hf⟩:∃ f,(findM ms x y).isSome=f:=⟨_,rfl⟩
 rw [hk,hf] at hK ⊢
 clear h2 h3 g1 g2 hv hk hf
 go_enter Tryz.func53,Tryz.ntmps53
 go_wp2_with (go_at_call 50;(with_reducible refine c37.mono ?_);rintro e w1 ⟨rfl,rfl⟩)
 exact bodyPost_ret (v:=.tuple #[.int .i64 k,.bool f]) (by simp [results,Tryz.results53,go_sem]) rfl ⟨rfl,rfl⟩
end Go.Proofs.YtbkgbhlmeeodgaaGreatDoor
namespace Go.Proofs.YtbkgbhlmeeodgaaGreatDoor
def partsOf (l v t:Int):List Int:=if t=0 then [4352+l,4449+v] else [4352+l,4449+v,4519+t]
def Places (l v t:Int):Prop:=0≤l∧l<19∧0≤v∧v<21∧0≤t∧t<28
def syl (l v t:Int):Int:=44032+(21*l+v)*28+t
theorem hang (c:Int) (h1:44032≤c) (h2:c<55204):∃ l v t,Places l v t∧c=syl l v t:=by
 refine⟨(c-44032)/28/21,(c-44032)/28%21,(c-44032)%28,⟨by omega,by omega,by omega,by omega,by omega,by omega⟩,?_⟩
 unfold syl
 omega
theorem hang_in {l v t:Int} (h:Places l v t):44032≤syl l v t∧syl l v t<55204:=by
 obtain⟨a,b,c,d,e,f⟩:=h
 unfold syl
 omega
theorem divs {l v t:Int} (h:Places l v t):(syl l v t-44032).tdiv 28=21*l+v∧(syl l v t-44032).tmod 28=t∧(21*l+v).tdiv 21=l∧(21*l+v).tmod 21=v:=by
 obtain⟨a,b,c,d,e,f⟩:=h
 unfold syl
 rw [Int.tdiv_eq_ediv_of_nonneg (by omega),Int.tmod_eq_emod_of_nonneg (by omega),Int.tdiv_eq_ediv_of_nonneg (by omega),Int.tmod_eq_emod_of_nonneg (by omega)]
 omega
end Go.Proofs.YtbkgbhlmeeodgaaGreatDoor
namespace Go.Proofs.YtbkgbhlmeeodgaaGreatDoor
open Go.RowKit
theorem and_dec {p q:Prop} [Decidable p] [Decidable q]:(decide p&&decide q)=decide (p∧q):=by
 by_cases hp:p <;> by_cases hq:q <;> simp [hp,hq]
theorem among15 (c a n:Int) (w:World) (ha:0≤a∧a≤1000000) (hn:0≤n∧n≤1000000):Calls Tryz.prog 103 #[.int .i64 c,.int .i64 a,.int .i64 n] w fun e w'=>e=.returned (.bool (decide (a≤c∧c<a+n)))∧w'=w:=by
 obtain⟨ha,ha2⟩:=ha
 obtain⟨hn,hn2⟩:=hn
 by_cases h1:a≤c
 · by_cases h2:c<a+n
   · have h3:a≤c∧c<a+n:=⟨h1,h2⟩
     rw [decide_eq_true h3]
     go_enter Tryz.func103,Tryz.ntmps103
     go_wp2
     go_ret
     exact⟨rfl,rfl⟩
   · have h3:¬(a≤c∧c<a+n):=fun h=>h2 h.2
     rw [decide_eq_false h3]
     go_enter Tryz.func103,Tryz.ntmps103
     go_wp2
     go_ret
     exact⟨rfl,rfl⟩
 · have h3:¬(a≤c∧c<a+n):=fun h=>h1 h.1
   rw [decide_eq_false h3]
   go_enter Tryz.func103,Tryz.ntmps103
   go_wp2
   go_ret
   exact⟨rfl,rfl⟩
theorem is10 (c:Int) (w:World):Calls Tryz.prog 69 #[.int .i64 c] w fun e w'=>e=.returned (.bool (decide (44032≤c∧c<55204)))∧w'=w:=by
 have h:=among15 c 44032 11172 w (by omega) (by omega)
 rw [show (44032:Int)+11172=55204 from rfl] at h
 go_enter Tryz.func69,Tryz.ntmps69
 go_wp2_with (go_at_call 103;(with_reducible refine h.mono ?_);rintro e w' ⟨rfl,rfl⟩)
 go_ret
 exact⟨congrArg (fun b=>Ending.returned (Value.bool b)) and_dec,rfl⟩
theorem isLeading16 (c:Int) (w:World):Calls Tryz.prog 87 #[.int .i64 c] w fun e w'=>e=.returned (.bool (decide (4352≤c∧c<4371)))∧w'=w:=by
 have h:=among15 c 4352 19 w (by omega) (by omega)
 rw [show (4352:Int)+19=4371 from rfl] at h
 go_enter Tryz.func87,Tryz.ntmps87
 go_wp2_with (go_at_call 103;(with_reducible refine h.mono ?_);rintro e w' ⟨rfl,rfl⟩)
 go_ret
 exact⟨congrArg (fun b=>Ending.returned (Value.bool b)) and_dec,rfl⟩
theorem isVowel17 (c:Int) (w:World):Calls Tryz.prog 88 #[.int .i64 c] w fun e w'=>e=.returned (.bool (decide (4449≤c∧c<4470)))∧w'=w:=by
 have h:=among15 c 4449 21 w (by omega) (by omega)
 rw [show (4449:Int)+21=4470 from rfl] at h
 go_enter Tryz.func88,Tryz.ntmps88
 go_wp2_with (go_at_call 103;(with_reducible refine h.mono ?_);rintro e w' ⟨rfl,rfl⟩)
 go_ret
 exact⟨congrArg (fun b=>Ending.returned (Value.bool b)) and_dec,rfl⟩
theorem isTrailing19 (c:Int) (w:World):Calls Tryz.prog 90 #[.int .i64 c] w fun e w'=>e=.returned (.bool (decide (4520≤c∧c<4547)))∧w'=w:=by
 have h:=among15 c 4520 27 w (by omega) (by omega)
 rw [show (4520:Int)+27=4547 from rfl] at h
 go_enter Tryz.func90,Tryz.ntmps90
 go_wp2_with (go_at_call 103;(with_reducible refine h.mono ?_);rintro e w' ⟨rfl,rfl⟩)
 go_ret
 exact⟨congrArg (fun b=>Ending.returned (Value.bool b)) and_dec,rfl⟩
theorem isOpen18_no (c:Int) (w:World) (hc:¬(44032≤c∧c<55204)):Calls Tryz.prog 89 #[.int .i64 c] w fun e w'=>e=.returned (.bool false)∧w'=w:=by
 have h:=is10 c w
 rw [decide_eq_false hc] at h
 go_enter Tryz.func89,Tryz.ntmps89
 go_wp2_with (go_at_call 69;(with_reducible refine h.mono ?_);rintro e w' ⟨rfl,rfl⟩)
 go_ret
 exact⟨rfl,rfl⟩
theorem isOpen18 (l v t:Int) (w:World) (hp:Places l v t):Calls Tryz.prog 89 #[.int .i64 (syl l v t)] w fun e w'=>e=.returned (.bool (decide (t=0)))∧w'=w:=by
 have hi:=hang_in hp
 have h:=is10 (syl l v t) w
 rw [decide_eq_true hi] at h
 obtain⟨-,hT,-,-⟩:=divs hp
 obtain⟨-,-,-,-,t0,t1⟩:=hp
 obtain⟨c,hc⟩:∃ c,syl l v t=c:=⟨_,rfl⟩
 rw [hc] at hi h hT ⊢
 obtain⟨c0,c1⟩:=hi
 clear hc
 by_cases ht:t=0
 · subst ht
   go_enter Tryz.func89,Tryz.ntmps89
   go_wp2_with (go_at_call 69;(with_reducible refine h.mono ?_);rintro e w' ⟨rfl,rfl⟩)
   go_ret
   exact⟨rfl,rfl⟩
 · have hb:(t==0)=false:=beq_false_of_ne ht
   rw [decide_eq_false ht]
   go_enter Tryz.func89,Tryz.ntmps89
   go_wp2_with (go_at_call 69;(with_reducible refine h.mono ?_);rintro e w' ⟨rfl,rfl⟩)
   go_ret
   exact⟨rfl,rfl⟩
theorem two_row (w:World) (x y:Int):(w.alloc (.cells #[.int .i64 x,.int .i64 y] 3)).ownsRow w.heap.size 3 1 (.slice (some ⟨w.heap.size,0,none⟩) 2 2) 2 (nums .i64 [x,y]):=
 World.ownsRow_lit w #[.int .i64 x,.int .i64 y] 2 (Nat.le_refl _) (by decide) rfl
def Opn (a:Int):Prop:=44032≤a∧a<55204∧(a-44032)%28=0
instance (a:Int):Decidable (Opn a):=by unfold Opn;infer_instance
def Lead (a:Int):Prop:=4352≤a∧a<4371
instance (a:Int):Decidable (Lead a):=by unfold Lead;infer_instance
def Vow (a:Int):Prop:=4449≤a∧a<4470
instance (a:Int):Decidable (Vow a):=by unfold Vow;infer_instance
def Trail (a:Int):Prop:=4520≤a∧a<4547
instance (a:Int):Decidable (Trail a):=by unfold Trail;infer_instance
def tog (a b:Int):Int×Bool:=if Lead a∧Vow b then (44032+(21*(a-4352)+(b-4449))*28,true) else if Opn a∧Trail b then (a+(b-4519),true) else (0,false)
theorem tog_lead {a b:Int} (h:Lead a) (h':Vow b):tog a b=(44032+(21*(a-4352)+(b-4449))*28,true):=if_pos ⟨h,h'⟩
theorem tog_open {a b:Int} (h:Opn a) (h':Trail b):tog a b=(a+(b-4519),true):=by
 unfold tog
 rw [if_neg (fun x=>by have:=x.1;unfold Lead at this;unfold Opn at h;omega),if_pos ⟨h,h'⟩]
theorem tog_no {a b:Int} (h:¬(Lead a∧Vow b)) (h':¬(Opn a∧Trail b)):tog a b=(0,false):=by
 unfold tog
 rw [if_neg h,if_neg h']
theorem opn_syl {l v t:Int} (h:Places l v t):Opn (syl l v t)↔t=0:=by
 obtain⟨a,b,c,d,e,f⟩:=h
 unfold Opn syl
 omega
theorem opn_not {a:Int} (h:¬(44032≤a∧a<55204)):¬Opn a:=fun h'=>h ⟨h'.1,h'.2.1⟩
def TogSame (w:World) (r:Int×Bool) (e:Ending) (w':World):Prop:=e=.returned (.tuple #[.int .i64 r.1,.bool r.2])∧w'=w
set_option maxRecDepth 100000 in
set_option maxHeartbeats 4000000 in
theorem together11_same (a b:Int) (w:World):Calls Tryz.prog 52 #[.int .i64 a,.int .i64 b] w (TogSame w (tog a b)):=by
 have hl:=isLeading16 a w
 have hv:=isVowel17 b w
 have ht:=isTrailing19 b w
 by_cases h1:4352≤a∧a<4371
 · rw [decide_eq_true h1] at hl
   by_cases h2:4449≤b∧b<4470
   · rw [decide_eq_true h2] at hv
     rw [tog_lead h1 h2]
     obtain⟨a0,a1⟩:=h1
     obtain⟨b0,b1⟩:=h2
     go_enter Tryz.func52,Tryz.ntmps52
     go_wp2_with (first | (go_at_call 87;(with_reducible refine hl.mono ?_);rintro e w' ⟨rfl,rfl⟩) | (go_at_call 88;(with_reducible refine hv.mono ?_);rintro e w' ⟨rfl,rfl⟩))
     refine bodyPost_ret (v:=.tuple #[.int .i64 (44032+(21*(a-4352)+(b-4449))*28),.bool true]) (by simp [results,Tryz.results52,go_sem]) rfl ?_
     exact⟨rfl,rfl⟩
   · rw [decide_eq_false h2] at hv
     have ho:=isOpen18_no a w (by omega)
     rw [tog_no (fun h=>h2 h.2) (fun h=>opn_not (by omega) h.1)]
     go_enter Tryz.func52,Tryz.ntmps52
     go_wp2_with (first | (go_at_call 87;(with_reducible refine hl.mono ?_);rintro e w' ⟨rfl,rfl⟩) | (go_at_call 88;(with_reducible refine hv.mono ?_);rintro e w' ⟨rfl,rfl⟩) | (go_at_call 89;(with_reducible refine ho.mono ?_);rintro e w' ⟨rfl,rfl⟩))
     refine bodyPost_ret (v:=.tuple #[.int .i64 (0),.bool false]) (by simp [results,Tryz.results52,go_sem]) rfl ?_
     exact⟨rfl,rfl⟩
 · rw [decide_eq_false h1] at hl
   by_cases h3:44032≤a∧a<55204
   · obtain⟨l,v,t,hp,rfl⟩:=hang a h3.1 h3.2
     have ho:=isOpen18 l v t w hp
     by_cases h0:t=0
     · rw [decide_eq_true h0] at ho
       by_cases h4:4520≤b∧b<4547
       · rw [decide_eq_true h4] at ht
         rw [tog_open ((opn_syl hp).2 h0) h4]
         obtain⟨a,ha⟩:∃ a,syl l v t=a:=⟨_,rfl⟩
         rw [ha] at hl ho h3 ⊢
         obtain⟨a0,a1⟩:=h3
         obtain⟨b0,b1⟩:=h4
         clear hp ha h1
         go_enter Tryz.func52,Tryz.ntmps52
         go_wp2_with (first | (go_at_call 87;(with_reducible refine hl.mono ?_);rintro e w' ⟨rfl,rfl⟩) | (go_at_call 89;(with_reducible refine ho.mono ?_);rintro e w' ⟨rfl,rfl⟩) | (go_at_call 90;(with_reducible refine ht.mono ?_);rintro e w' ⟨rfl,rfl⟩))
         refine bodyPost_ret (v:=.tuple #[.int .i64 (a+(b-4520+1)),.bool true]) (by simp [results,Tryz.results52,go_sem]) rfl ?_
         exact⟨by rw [show a+(b-4519)=a+(b-4520+1) by omega],rfl⟩
       · rw [decide_eq_false h4] at ht
         rw [tog_no (fun h=>h1 h.1) (fun h=>h4 h.2)]
         obtain⟨a,ha⟩:∃ a,syl l v t=a:=⟨_,rfl⟩
         rw [ha] at hl ho h3 ⊢
         clear hp ha h1 h4 h3 hv
         go_enter Tryz.func52,Tryz.ntmps52
         go_wp2_with (first | (go_at_call 87;(with_reducible refine hl.mono ?_);rintro e w' ⟨rfl,rfl⟩) | (go_at_call 89;(with_reducible refine ho.mono ?_);rintro e w' ⟨rfl,rfl⟩) | (go_at_call 90;(with_reducible refine ht.mono ?_);rintro e w' ⟨rfl,rfl⟩))
         refine bodyPost_ret (v:=.tuple #[.int .i64 (0),.bool false]) (by simp [results,Tryz.results52,go_sem]) rfl ?_
         exact⟨rfl,rfl⟩
     · rw [decide_eq_false h0] at ho
       rw [tog_no (fun h=>h1 h.1) (fun h=>h0 ((opn_syl hp).1 h.1))]
       go_enter Tryz.func52,Tryz.ntmps52
       go_wp2_with (first | (go_at_call 87;(with_reducible refine hl.mono ?_);rintro e w' ⟨rfl,rfl⟩) | (go_at_call 89;(with_reducible refine ho.mono ?_);rintro e w' ⟨rfl,rfl⟩))
       refine bodyPost_ret (v:=.tuple #[.int .i64 (0),.bool false]) (by simp [results,Tryz.results52,go_sem]) rfl ?_
       exact⟨rfl,rfl⟩
   · have ho:=isOpen18_no a w h3
     rw [tog_no (fun h=>h1 h.1) (fun h=>opn_not h3 h.1)]
     go_enter Tryz.func52,Tryz.ntmps52
     go_wp2_with (first | (go_at_call 87;(with_reducible refine hl.mono ?_);rintro e w' ⟨rfl,rfl⟩) | (go_at_call 89;(with_reducible refine ho.mono ?_);rintro e w' ⟨rfl,rfl⟩))
     refine bodyPost_ret (v:=.tuple #[.int .i64 (0),.bool false]) (by simp [results,Tryz.results52,go_sem]) rfl ?_
     exact⟨rfl,rfl⟩
end Go.Proofs.YtbkgbhlmeeodgaaGreatDoor
