/- A part. -/
import Derived.DeepKeys4
import Derived.Maps.OwnSet
import Derived.Test.YtmellioacefjjaaGreatDoorQB30
namespace Go.Proofs.YtmellioacefjjaaGreatDoor
open Go.RowKit
theorem pairWide:(match Tryz.prog.underlying 81 with | some (.array _ _) | some (.struct _)=>true | _=>false)=true:=by kernel_rfl
theorem pairRow:(81:TypeId)<Tryz.prog.types.size:=of_decide_eq_true (by kernel_rfl)
theorem pairLaid:laidOutB Tryz.prog=true:=by kernel_rfl
theorem pairDeep:Tryz.prog.keyTypeAt 2 81=true:=by kernel_rfl
set_option maxRecDepth 100000 in
theorem pairLaw:WideMaps.KeyLaw Tryz.prog 81:=deep_law_laid pairLaid (m:=2) (by omega) pairRow pairDeep pairWide
set_option maxRecDepth 100000 in
theorem pairK:Maps.Keyed Tryz.prog 81:=Maps.Keyed.of_law pairLaw
def pairV (x y:Int):Value:=.agg #[.int .i64 x,.int .i64 y]
set_option maxRecDepth 100000 in
theorem pair_lits (x y:Int) (hx:(Lit.int .i64 x).wf=true) (hy:(Lit.int .i64 y).wf=true) (n:Nat):Tryz.prog.keyLits (n+2) 81 (pairV x y).cells.toList=some [.int .i64 x,.int .i64 y]:=by
 have c3:Tryz.prog.cellsOf 3=1:=by kernel_rfl
 have hc:Tryz.prog.cellsOf 81=2:=by kernel_rfl
 simp [Program.keyLits,Tryz.underlying81,Tryz.underlying3,hc,c3,pairV,Value.cells,hx,hy]
theorem pair_of (P:Program) (fs:Array Field) (v:Value) (n:Nat) (ls:List Lit) (hu:P.underlying 81=some (.struct fs)) (hk:P.keyType 81=true) (hf:v.formed P 81=true) (hl:∀ n,P.keyLits (n+2) 81 v.cells.toList=some ls) (hs:P.types.size=n+1):keyOf P 81 v=some (.string (keyBytes ls)):=by
 unfold keyOf
 rw [hu,hs]
 simp only [hk,hf,Bool.and_true,if_true,hl n,Option.map_some]
set_option maxRecDepth 100000 in
theorem pair_some (x y:Int) (hx:(Lit.int .i64 x).wf=true) (hy:(Lit.int .i64 y).wf=true):∃ l,keyOf Tryz.prog 81 (pairV x y)=some l:=by
 have hk:Tryz.prog.keyType 81=true:=by kernel_rfl
 have hc:Tryz.prog.cellsOf 81=2:=by kernel_rfl
 have hf:(pairV x y).formed Tryz.prog 81=true:=by simp [pairV,Value.formed,Tryz.underlying81,hc]
 have h:(81:Nat)<Tryz.prog.types.size:=pairRow
 exact⟨_,pair_of Tryz.prog _ (pairV x y) _ _ Tryz.underlying81 hk hf (pair_lits x y hx hy) (Nat.succ_pred_eq_of_pos (Nat.lt_of_le_of_lt (Nat.zero_le _) h)).symm⟩
noncomputable def kP (x y:Int):Lit:=(keyOf Tryz.prog 81 (pairV x y)).getD (.bool false)
theorem kP_is {x y:Int} (hx:(Lit.int .i64 x).wf=true) (hy:(Lit.int .i64 y).wf=true):keyOf Tryz.prog 81 (pairV x y)=some (kP x y):=by
 obtain⟨l,h⟩:=pair_some x y hx hy
 unfold kP
 rw [h];rfl
set_option maxRecDepth 100000 in
theorem kP_key {x y:Int} (hx:(Lit.int .i64 x).wf=true) (hy:(Lit.int .i64 y).wf=true):WideAt.IsKeyLit (kP x y):=pairK.key (kP_is hx hy)
set_option maxRecDepth 100000 in
theorem kP_inj {x y a b:Int} (hx:(Lit.int .i64 x).wf=true) (hy:(Lit.int .i64 y).wf=true) (ha:(Lit.int .i64 a).wf=true) (hb:(Lit.int .i64 b).wf=true) (h:kP x y=kP a b):x=a∧y=b:=by
 have e:=pairK.inj (kP_is hx hy) (h▸kP_is ha hb)
 unfold pairV at e
 injection e with e
 simpa using e
end Go.Proofs.YtmellioacefjjaaGreatDoor
namespace Go.Proofs.YtmellioacefjjaaGreatDoor
open Go.RowKit Go.Shelf Go.Sort
attribute [local go_sem] Oper.semAt_some
structure PF (w:World) (b:Nat) (ps:List Uc.Pr) (sp:Nat→List Pq.Sp) (cf:List Cf.Pp):Prop where
 uni:∃ p A c ls,w.cell? ⟨b,0,none⟩=some (.pointer p)∧Uc.TIn w p A c ls∧Uc.Ist w ls ps
 prs:∀ i,i<5→∃ p A c,w.cell? ⟨b,1+i,none⟩=some (.pointer p)∧Pq.TIn w p A c (sp i)
 cnf:∃ p,w.cell? ⟨b,6,none⟩=some (.pointer p)∧Cf.CT w p cf
theorem PF.below {w w':World} {b:Nat} {ps:List Uc.Pr} {sp:Nat→List Pq.Sp} {cf:List Cf.Pp} (h:PF w b ps sp cf) (hb:Below w.heap.size w w'):PF w' b ps sp cf:=by
 have cc:∀ {k:Nat} {v:Value},w.cell? ⟨b,k,none⟩=some v→w'.cell? ⟨b,k,none⟩=some v:=fun {k v} hc=>(hb.cell (p:=⟨b,k,none⟩) (World.block_lt_of_cell? w _ hc)).trans hc
 refine⟨?_,fun i hi=>?_,?_⟩
 · obtain⟨p,A,c,ls,h1,h2,h3⟩:=h.uni;exact⟨p,A,c,ls,cc h1,h2.below hb,h3.below hb⟩
 · obtain⟨p,A,c,h1,h2⟩:=h.prs i hi;exact⟨p,A,c,cc h1,h2.below hb⟩
 · obtain⟨p,h1,h2⟩:=h.cnf;exact⟨p,cc h1,h2.below hb⟩
def MkIs (D:DataW Value) (ms:List (Int×Int×Int)):Prop:=∀ x y:Int,(Lit.int .i64 x).wf=true→(Lit.int .i64 y).wf=true→D.atKey (kP x y) (.lit (.int .i64 0))=.lit (.int .i64 ((findM ms x y).getD 0))∧Maps.has D (kP x y)=(findM ms x y).isSome
theorem findM_snoc (c x y a b:Int):∀ ms:List (Int×Int×Int),findM (ms ++ [(c,x,y)]) a b=if (findM ms a b).isSome=true then findM ms a b else if x=a∧y=b then some c else none
 | []=>by simp [findM]
 | m::ms=>by
  have ih:=findM_snoc c x y a b ms
  rw [List.cons_append,findM,findM]
  by_cases h:m.2.1=a∧m.2.2=b
  · rw [if_pos h,if_pos h];rfl
  · rw [if_neg h,if_neg h];exact ih
theorem mkIs_nil:MkIs (.map []) []:=fun _ _ _ _=>⟨rfl,rfl⟩
set_option maxRecDepth 100000 in
theorem mkIs_put {D:DataW Value} {ms:List (Int×Int×Int)} {c x y:Int} (hD:Maps.IsMap D) (hx:(Lit.int .i64 x).wf=true) (hy:(Lit.int .i64 y).wf=true) (h:MkIs D ms) (hn:findM ms x y=none):MkIs (D.put (kP x y) (.lit (.int .i64 c))) (ms ++ [(c,x,y)]):=by
 intro a b ha hb
 rw [findM_snoc]
 by_cases e:x=a∧y=b
 · obtain⟨rfl,rfl⟩:=e
   rw [hn,if_neg (by simp),if_pos ⟨rfl,rfl⟩,Maps.atKey_put_same hD (kP_key hx hy),Maps.has_put_same hD (kP_key hx hy)]
   exact⟨rfl,rfl⟩
 · have hne:kP a b≠kP x y:=fun h=>e (by have:=kP_inj ha hb hx hy h;exact⟨this.1.symm,this.2.symm⟩)
   rw [Maps.atKey_put_other hne,Maps.has_put_other hne]
   obtain⟨h1,h2⟩:=h a b ha hb
   rw [h1,h2]
   cases findM ms a b with
   | some v=>exact⟨rfl,rfl⟩
   | none=>rw [if_neg (by simp),if_neg e];exact⟨rfl,rfl⟩
def PM (w:World) (b:Nat) (ms:List (Int×Int×Int)):Prop:=∃ m n D,w.cell? ⟨b,7,none⟩=some (.map (some m))∧w.ownsMap Tryz.prog 81 (plainElem (H:=Value) Tryz.prog 3) m n D∧MkIs D ms
theorem PM.below {w w':World} {b:Nat} {ms:List (Int×Int×Int)} (h:PM w b ms) (hb:Below w.heap.size w w'):PM w' b ms:=by
 obtain⟨m,n,D,h1,h2,h3⟩:=h
 have hl:=h2.lt
 obtain⟨es,clock,h4,F⟩:=h2
 exact⟨m,n,D,(hb.cell (p:=⟨b,7,none⟩) (World.block_lt_of_cell? w _ h1)).trans h1,⟨es,clock,(hb.block m hl).trans h4,F⟩,h3⟩
theorem Z3 (w:World):(zeroValue 3).run Tryz.prog w=.ok (.int .i64 0) w:=by kernel_rfl
theorem own37 (b:Nat) (w:World):Calls Tryz.prog 37 #[.pointer (some ⟨b,0,none⟩)] w fun e w'=>e=.returned (.pointer (some ⟨b,0,none⟩))∧w=w':=by
 go_enter Tryz.func37,Tryz.ntmps37
 go_wp2
 go_ret
 exact⟨rfl,rfl⟩
theorem uni15 (b:Nat) (p:Option Addr) (w:World) (h:w.cell? ⟨b,0,none⟩=some (.pointer p)):Calls Tryz.prog 15 #[.pointer (some ⟨b,0,none⟩)] w fun e w'=>e=.returned (.pointer p)∧w=w':=by
 have c37:=own37 b w
 go_enter Tryz.func15,Tryz.ntmps15
 go_wp2_with (go_at_call 37;(with_reducible refine c37.mono ?_);rintro e w1 ⟨rfl,rfl⟩)
 go_ret
 exact⟨rfl,rfl⟩
theorem con25 (b:Nat) (p:Option Addr) (w:World) (h:w.cell? ⟨b,6,none⟩=some (.pointer p)):Calls Tryz.prog 25 #[.pointer (some ⟨b,0,none⟩)] w fun e w'=>e=.returned (.pointer p)∧w=w':=by
 have c37:=own37 b w
 go_enter Tryz.func25,Tryz.ntmps25
 go_wp2_with (go_at_call 37;(with_reducible refine c37.mono ?_);rintro e w1 ⟨rfl,rfl⟩)
 go_ret
 exact⟨rfl,rfl⟩
set_option maxRecDepth 100000 in
set_option maxHeartbeats 2000000 in
theorem has41 (p A:Option Addr) (c:Nat) (ls:List Pq.Sp) (z:Int) (v:List UInt8) (w:World) (hT:Pq.TIn w p A c ls) (hn:ls.length≤100000) (hr:Pq.Rises ls) (hf:∀ s∈ls,s.a≤s.b):
 Calls Tryz.prog 41 #[.pointer p,.int .i64 z,.string (bs v)] w fun e w'=>e=.returned (.bool (Pq.hasOf ls z v))∧Below w.heap.size w w':=by
 have c16:=Pq.value16 p A c ls z w hT hn hr hf
 have HB:=Lib.hid (Below.refl w.heap.size w)
 by_cases hv:v = []
 · have HR:Hid (Pq.hasOf ls z v=false):=Lib.hid (by unfold Pq.hasOf;rw [decide_eq_false (by simp [hv]),Bool.false_and])
   subst hv
   rw [bs_nil]
   clear hT hr hf
   go_enter Tryz.func41,Tryz.ntmps41
   go_wp2
   go_ret
   exact⟨by rw [HR.out];rfl,HB.out⟩
 · have hemp:=bs_some hv
   have heq:=Pq.bs_eq (Pq.valueOf ls z) v
   have HR:Hid (Pq.hasOf ls z v=decide (Pq.valueOf ls z=v)):=Lib.hid (by unfold Pq.hasOf;rw [decide_eq_true hv,Bool.true_and])
   obtain⟨T,hT2⟩:∃ T,bs v=T:=⟨_,rfl⟩
   obtain⟨V,hV2⟩:∃ V,bs (Pq.valueOf ls z)=V:=⟨_,rfl⟩
   rw [hT2] at hemp heq ⊢
   rw [hV2] at heq c16
   obtain⟨f,hfe⟩:∃ f,decide (Pq.valueOf ls z=v)=f:=⟨_,rfl⟩
   rw [hfe] at heq HR
   clear hT hr hf hv hT2 hV2 hfe
   go_enter Tryz.func41,Tryz.ntmps41
   go_wp2_with (go_at_call 43;(with_reducible refine c16.mono ?_);rintro e w1 ⟨rfl,hb1⟩)
   go_ret
   exact⟨by rw [HR.out,←heq];rfl,hb1⟩
def exclV:List UInt8:=[70,117,108,108,95,67,111,109,112,111,115,105,116,105,111,110,95,69,120,99,108,117,115,105,111,110]
def ignV:List UInt8:=[68,101,102,97,117,108,116,95,73,103,110,111,114,97,98,108,101,95,67,111,100,101,95,80,111,105,110,116]
theorem exc17_at (b:Nat) (p A:Option Addr) (c:Nat) (ls:List Pq.Sp) (z:Int) (w:World) (h:w.cell? ⟨b,1,none⟩=some (.pointer p)) (hT:Pq.TIn w p A c ls) (hn:ls.length≤100000) (hr:Pq.Rises ls) (hf:∀ s∈ls,s.a≤s.b):
 Calls Tryz.prog 17 #[.pointer (some ⟨b,0,none⟩),.int .i64 z] w fun e w'=>e=.returned (.bool (Pq.hasOf ls z exclV))∧Below w.heap.size w w':=by
 have c37:=own37 b w
 have c41:Calls Tryz.prog 41 #[.pointer p,.int .i64 z,.string ⟨#[70,117,108,108,95,67,111,109,112,111,115,105,116,105,111,110,95,69,120,99,108,117,115,105,111,110]⟩] w fun e w'=>e=.returned (.bool (Pq.hasOf ls z exclV))∧Below w.heap.size w w':=has41 p A c ls z exclV w hT hn hr hf
 obtain⟨f,hfe⟩:∃ f,Pq.hasOf ls z exclV=f:=⟨_,rfl⟩
 rw [hfe] at c41 ⊢
 clear hT hr hf hfe
 go_enter Tryz.func17,Tryz.ntmps17
 go_wp2_with (first
  | (go_at_call 37;(with_reducible refine c37.mono ?_);rintro e w1 ⟨rfl,rfl⟩)
  | (go_at_call 41;(with_reducible refine c41.mono ?_);rintro e w1 ⟨rfl,hb1⟩))
 go_ret
 exact⟨rfl,hb1⟩
theorem ign19_at (b:Nat) (p A:Option Addr) (c:Nat) (ls:List Pq.Sp) (z:Int) (w:World) (h:w.cell? ⟨b,2,none⟩=some (.pointer p)) (hT:Pq.TIn w p A c ls) (hn:ls.length≤100000) (hr:Pq.Rises ls) (hf:∀ s∈ls,s.a≤s.b):
 Calls Tryz.prog 19 #[.pointer (some ⟨b,0,none⟩),.int .i64 z] w fun e w'=>e=.returned (.bool (Pq.hasOf ls z ignV))∧Below w.heap.size w w':=by
 have c37:=own37 b w
 have c41:Calls Tryz.prog 41 #[.pointer p,.int .i64 z,.string ⟨#[68,101,102,97,117,108,116,95,73,103,110,111,114,97,98,108,101,95,67,111,100,101,95,80,111,105,110,116]⟩] w fun e w'=>e=.returned (.bool (Pq.hasOf ls z ignV))∧Below w.heap.size w w':=has41 p A c ls z ignV w hT hn hr hf
 obtain⟨f,hfe⟩:∃ f,Pq.hasOf ls z ignV=f:=⟨_,rfl⟩
 rw [hfe] at c41 ⊢
 clear hT hr hf hfe
 go_enter Tryz.func19,Tryz.ntmps19
 go_wp2_with (first
  | (go_at_call 37;(with_reducible refine c37.mono ?_);rintro e w1 ⟨rfl,rfl⟩)
  | (go_at_call 41;(with_reducible refine c41.mono ?_);rintro e w1 ⟨rfl,hb1⟩))
 go_ret
 exact⟨rfl,hb1⟩
set_option maxHeartbeats 1000000 in
theorem sta20_at (b:Nat) (p A:Option Addr) (c:Nat) (ls:List Pq.Sp) (z:Int) (w:World) (h:w.cell? ⟨b,3,none⟩=some (.pointer p)) (hT:Pq.TIn w p A c ls) (hn:ls.length≤100000) (hr:Pq.Rises ls) (hf:∀ s∈ls,s.a≤s.b):
 Calls Tryz.prog 20 #[.pointer (some ⟨b,0,none⟩),.int .i64 z] w fun e w'=>e=.returned (.string (bs (statOf ls z)))∧Below w.heap.size w w':=by
 have c37:=own37 b w
 have c43:=Pq.value16 p A c ls z w hT hn hr hf
 clear hT hr hf
 by_cases hv:Pq.valueOf ls z = []
 · have e1:statOf ls z=unas:=by unfold statOf;rw [if_pos hv]
   rw [e1,show bs unas=⟨#[85,78,65,83,83,73,71,78,69,68]⟩ from rfl]
   rw [hv,bs_nil] at c43
   clear hv e1
   go_enter Tryz.func20,Tryz.ntmps20
   go_wp2_with (first
    | (go_at_call 37;(with_reducible refine c37.mono ?_);rintro e w1 ⟨rfl,rfl⟩)
    | (go_at_call 43;(with_reducible refine c43.mono ?_);rintro e w1 ⟨rfl,hb1⟩))
   go_ret
   exact⟨rfl,hb1⟩
 · have e1:statOf ls z=Pq.valueOf ls z:=by unfold statOf;rw [if_neg hv]
   have hne:=bs_some hv
   rw [e1]
   obtain⟨T,hT⟩:∃ T,bs (Pq.valueOf ls z)=T:=⟨_,rfl⟩
   rw [hT] at c43 hne ⊢
   clear hv e1 hT
   go_enter Tryz.func20,Tryz.ntmps20
   go_wp2_with (first
    | (go_at_call 37;(with_reducible refine c37.mono ?_);rintro e w1 ⟨rfl,rfl⟩)
    | (go_at_call 43;(with_reducible refine c43.mono ?_);rintro e w1 ⟨rfl,hb1⟩))
   go_ret
   exact⟨rfl,hb1⟩
theorem scr22_at (b:Nat) (p A:Option Addr) (c:Nat) (ls:List Pq.Sp) (z:Int) (w:World) (h:w.cell? ⟨b,4,none⟩=some (.pointer p)) (hT:Pq.TIn w p A c ls) (hn:ls.length≤100000) (hr:Pq.Rises ls) (hf:∀ s∈ls,s.a≤s.b):
 Calls Tryz.prog 22 #[.pointer (some ⟨b,0,none⟩),.int .i64 z] w fun e w'=>e=.returned (.string (bs (Pq.valueOf ls z)))∧Below w.heap.size w w':=by
 have c37:=own37 b w
 have c43:=Pq.value16 p A c ls z w hT hn hr hf
 obtain⟨T,hT2⟩:∃ T,bs (Pq.valueOf ls z)=T:=⟨_,rfl⟩
 rw [hT2] at c43 ⊢
 clear hT hr hf hT2
 go_enter Tryz.func22,Tryz.ntmps22
 go_wp2_with (first
  | (go_at_call 37;(with_reducible refine c37.mono ?_);rintro e w1 ⟨rfl,rfl⟩)
  | (go_at_call 43;(with_reducible refine c43.mono ?_);rintro e w1 ⟨rfl,hb1⟩))
 go_ret
 exact⟨rfl,hb1⟩
theorem joi23_at (b:Nat) (p A:Option Addr) (c:Nat) (ls:List Pq.Sp) (z:Int) (w:World) (h:w.cell? ⟨b,5,none⟩=some (.pointer p)) (hT:Pq.TIn w p A c ls) (hn:ls.length≤100000) (hr:Pq.Rises ls) (hf:∀ s∈ls,s.a≤s.b):
 Calls Tryz.prog 23 #[.pointer (some ⟨b,0,none⟩),.int .i64 z] w fun e w'=>e=.returned (.string (bs (Pq.valueOf ls z)))∧Below w.heap.size w w':=by
 have c37:=own37 b w
 have c43:=Pq.value16 p A c ls z w hT hn hr hf
 obtain⟨T,hT2⟩:∃ T,bs (Pq.valueOf ls z)=T:=⟨_,rfl⟩
 rw [hT2] at c43 ⊢
 clear hT hr hf hT2
 go_enter Tryz.func23,Tryz.ntmps23
 go_wp2_with (first
  | (go_at_call 37;(with_reducible refine c37.mono ?_);rintro e w1 ⟨rfl,rfl⟩)
  | (go_at_call 43;(with_reducible refine c43.mono ?_);rintro e w1 ⟨rfl,hb1⟩))
 go_ret
 exact⟨rfl,hb1⟩
set_option maxHeartbeats 1000000 in
theorem mak13 (b:Nat) (ms:List (Int×Int×Int)) (x y:Int) (w:World) (h:PM w b ms) (hx:(Lit.int .i64 x).wf=true) (hy:(Lit.int .i64 y).wf=true):
 Calls Tryz.prog 13 #[.pointer (some ⟨b,0,none⟩),.int .i64 x,.int .i64 y] w fun e w'=>e=.returned (mkV (findM ms x y))∧w=w':=by
 obtain⟨m,n,D,h1,h2,h3⟩:=h
 have c37:=own37 b w
 obtain⟨g1,g2⟩:=h3 x y hx hy
 have hK:(Instr.lookup 73 (.map (some m)) (.agg #[.int .i64 x,.int .i64 y]) true).run Tryz.prog w=.ok (.tuple #[.int .i64 ((findM ms x y).getD 0),.bool (findM ms x y).isSome]) w:=by
  obtain⟨v,ps,hr,hR⟩:=h2.look_ok pairK Tryz.underlying73 (Z3 w) (zd:=.lit (.int .i64 0)) (zp:=[]) (plainElem_int Tryz.underlying3 (by decide)) (kP_is hx hy)
  obtain⟨c,rfl,hc,-⟩:=plainElem_int_inv Tryz.underlying3 hR
  rw [g1] at hc
  have hc:(findM ms x y).getD 0=c:=by simp at hc;exact hc.1
  rw [g2] at hr
  rw [hc]
  exact hr
 have hv:mkV (findM ms x y)=.tuple #[.int .i64 ((findM ms x y).getD 0),.bool (findM ms x y).isSome]:=by cases findM ms x y <;> rfl
 rw [hv]
 obtain⟨k,hk⟩:∃ k,(findM ms x y).getD 0=k:=⟨_,rfl⟩
 obtain⟨f,hf⟩:∃ f,(findM ms x y).isSome=f:=⟨_,rfl⟩
 rw [hk,hf] at hK ⊢
 clear h2 h3 g1 g2 hv hk hf
 go_enter Tryz.func13,Tryz.ntmps13
 go_wp2_with (go_at_call 37;(with_reducible refine c37.mono ?_);rintro e w1 ⟨rfl,rfl⟩)
 exact bodyPost_ret (v:=.tuple #[.int .i64 k,.bool f]) (by simp [results,Tryz.results13,go_sem]) rfl ⟨rfl,rfl⟩
set_option maxHeartbeats 1000000 in
theorem pro11 (b:Nat) (p:Option Addr) (cf:List Cf.Pp) (z:Int) (w:World) (h:w.cell? ⟨b,6,none⟩=some (.pointer p)) (hC:Cf.CT w p cf) (hz:(Lit.int .i64 z).wf=true):
 Calls Tryz.prog 11 #[.pointer (some ⟨b,0,none⟩),.int .i64 z] w (Cf.CrPost cf z w):=by
 have c37:=own37 b w
 have c38:Calls Tryz.prog 38 #[.pointer p,.int .i64 z] w fun e w'=>∃ A n k f,e=.returned (.tuple #[.slice A n k,.bool f])∧Hid (Cf.CrPost cf z w (.returned (.tuple #[.slice A n k,.bool f])) w'):=(Cf.cproto10 p cf z w hC hz).mono (by
  rintro e w' hp
  obtain⟨hb,⟨h1,A,k,rfl⟩ | ⟨r,A,k,h1,h2,rfl,h3⟩⟩:=id hp
  · exact⟨A,0,k,false,rfl,Lib.hid hp⟩
  · exact⟨A,_,k,true,rfl,Lib.hid hp⟩)
 clear hC
 go_enter Tryz.func11,Tryz.ntmps11
 go_wp2_with (first
  | (go_at_call 37;(with_reducible refine c37.mono ?_);rintro e w1 ⟨rfl,rfl⟩)
  | (go_at_call 38;(with_reducible refine c38.mono ?_);rintro e w1 ⟨A2,n2,k2,f2,rfl,HP⟩))
 exact bodyPost_ret (v:=.tuple #[.slice A2 n2 k2,.bool f2]) (by simp [results,Tryz.results11,go_sem]) rfl HP.out
end Go.Proofs.YtmellioacefjjaaGreatDoor
namespace Go.Proofs.YtmellioacefjjaaGreatDoor
open Go.RowKit
def PtV (v:Value):Prop:=(∃ p,v=.pointer p)∨∃ m,v=.map m
structure Odd (W:World) (B:Nat):Prop where
 obj:∃ v,W.cell? ⟨B,0,none⟩=some v
 only:∀ i v,W.cell? ⟨B,i,none⟩=some v→PtV v
theorem Odd.lt {W:World} {B:Nat} (h:Odd W B):B<W.heap.size:=by obtain⟨v,hv⟩:=h.obj;exact World.block_lt_of_cell? W _ hv
theorem Odd.below {W W':World} {B n:Nat} (h:Odd W B) (hn:B<n) (hb:Below n W W'):Odd W' B:=by
 refine⟨?_,fun i v hv=>h.only i v ((hb.cell (p:=⟨B,i,none⟩) hn).symm.trans hv)⟩
 obtain⟨v,hv⟩:=h.obj
 exact⟨v,(hb.cell (p:=⟨B,0,none⟩) hn).trans hv⟩
theorem Odd.set {W:World} {B k:Nat} {u v:Value} (h:Odd W B) (hk:W.cell? ⟨B,k,none⟩=some u) (hv:PtV v):Odd (W.setCell ⟨B,k,none⟩ v) B:=by
 have hc:∀ i,i≠k→(W.setCell ⟨B,k,none⟩ v).cell? ⟨B,i,none⟩=W.cell? ⟨B,i,none⟩:=fun i hi=>World.cell?_setCell_other _ _ _ _ (by intro q;injection q with q1 q2;exact hi q2.symm)
 have hs:(W.setCell ⟨B,k,none⟩ v).cell? ⟨B,k,none⟩=some v:=World.cell?_setCell_same _ _ _ hk
 refine⟨?_,fun i x hx=>?_⟩
 · by_cases e:0=k
   · subst e;exact⟨v,hs⟩
   · obtain⟨x,hx⟩:=h.obj
     exact⟨x,(hc 0 e).trans hx⟩
 · by_cases e:i=k
   · subst e;rw [hs] at hx;injection hx with hx;exact hx▸hv
   · rw [hc i e] at hx;exact h.only i x hx
section
variable {W W':World} {B:Nat}
theorem Odd.no_int (ho:Odd W B) {i:Nat} {t:IntKind} {z:Int} (h:W.cell? ⟨B,i,none⟩=some (.int t z)):False:=by
 rcases ho.only i _ h with ⟨p,e⟩ | ⟨m,e⟩ <;> cases e
theorem Odd.no_slice (ho:Odd W B) {i:Nat} {A:Option Addr} {n c:Nat} (h:W.cell? ⟨B,i,none⟩=some (.slice A n c)):False:=by
 rcases ho.only i _ h with ⟨p,e⟩ | ⟨m,e⟩ <;> cases e
theorem Odd.map_ne {H:Type} {k:TypeId} {R:Value→Option (DataW H×List MemPlace)} {m n:Nat} {D:DataW H} (ho:Odd W B) (h:W.ownsMap Tryz.prog k R m n D):m≠B:=by
 rintro rfl
 obtain⟨v,hv⟩:=ho.obj
 obtain⟨es,clock,hb,-⟩:=h
 simp [World.cell?,hb] at hv
theorem owns_chg {H:Type} {k:TypeId} {R:Value→Option (DataW H×List MemPlace)} {m n:Nat} {D:DataW H} (hc:Chg B W W') (hne:m≠B) (h:W.ownsMap Tryz.prog k R m n D):W'.ownsMap Tryz.prog k R m n D:=by
 obtain⟨es,clock,hb,F⟩:=h
 exact⟨es,clock,(hc.2 m hne).trans hb,F⟩
theorem vals_odd {A:Option Addr} {n:Nat} {zs:List Int} (ho:Odd W B) (hc:Chg B W W') (h:Vals W A n (nums .i64 zs)):Vals W' A n (nums .i64 zs):=by
 refine⟨h.1,fun hn=>?_⟩
 obtain⟨b,off,rfl,hlt,hv⟩:=h.2 hn
 have hl:zs.length=n:=by have:=h.1;rwa [nums_len] at this
 have hne:b≠B:=by
  rintro rfl
  obtain⟨z,hz⟩:∃ z,zs[0]? = some z:=⟨_,List.getElem?_eq_getElem (by omega)⟩
  exact ho.no_int (hv 0 (.int .i64 z) (by unfold nums;rw [List.getElem?_map,hz];rfl))
 exact⟨b,off,rfl,by rw [hc.1];exact hlt,fun j v hj=>(hc.cell (p:=⟨b,off+j,none⟩) hne).trans (hv j v hj)⟩
theorem strs_odd {A:Option Addr} {n:Nat} {zs:List (List UInt8)} (ho:Odd W B) (hc:Chg B W W') (h:Vals W A n (strs zs)):Vals W' A n (strs zs):=by
 refine⟨h.1,fun hn=>?_⟩
 obtain⟨b,off,rfl,hlt,hv⟩:=h.2 hn
 have hl:zs.length=n:=by have:=h.1;rwa [strs_length] at this
 have hne:b≠B:=by
  rintro rfl
  obtain⟨z,hz⟩:∃ z,zs[0]? = some z:=⟨_,List.getElem?_eq_getElem (by omega)⟩
  rcases ho.only _ _ (hv 0 (.string (bs z)) (by unfold strs;rw [List.getElem?_map,hz];rfl)) with ⟨p,e⟩ | ⟨m,e⟩ <;> cases e
 exact⟨b,off,rfl,by rw [hc.1];exact hlt,fun j v hj=>(hc.cell (p:=⟨b,off+j,none⟩) hne).trans (hv j v hj)⟩
theorem rat_odd {A:Option Addr} {n:Nat} {ls:List Uc.Rw} (ho:Odd W B) (hc:Chg B W W') (h:Uc.RAt W A n ls):Uc.RAt W' A n ls:=by
 refine⟨h.1,fun hn=>?_⟩
 obtain⟨b,off,rfl,hlt,hv⟩:=h.2 hn
 have hl:=h.1
 have hne:b≠B:=by
  rintro rfl
  obtain⟨z,hz⟩:∃ z,ls[0]? = some z:=⟨_,List.getElem?_eq_getElem (by omega)⟩
  exact ho.no_int (hv 0 z hz).1
 refine⟨b,off,rfl,by rw [hc.1];exact hlt,fun j s hj=>?_⟩
 obtain⟨h1,h2,h3,h4,h5,h6⟩:=hv j s hj
 exact⟨(hc.cell (p:=⟨b,_,none⟩) hne).trans h1,(hc.cell (p:=⟨b,_,none⟩) hne).trans h2,(hc.cell (p:=⟨b,_,none⟩) hne).trans h3,(hc.cell (p:=⟨b,_,none⟩) hne).trans h4,(hc.cell (p:=⟨b,_,none⟩) hne).trans h5,(hc.cell (p:=⟨b,_,none⟩) hne).trans h6⟩
theorem sat_odd {A:Option Addr} {n:Nat} {ls:List Pq.Sp} (ho:Odd W B) (hc:Chg B W W') (h:Pq.SAt W A n ls):Pq.SAt W' A n ls:=by
 refine⟨h.1,fun hn=>?_⟩
 obtain⟨b,off,rfl,hlt,hv⟩:=h.2 hn
 have hl:=h.1
 have hne:b≠B:=by
  rintro rfl
  obtain⟨z,hz⟩:∃ z,ls[0]? = some z:=⟨_,List.getElem?_eq_getElem (by omega)⟩
  exact ho.no_int (hv 0 z hz).1
 refine⟨b,off,rfl,by rw [hc.1];exact hlt,fun j s hj=>?_⟩
 obtain⟨h1,h2,h3⟩:=hv j s hj
 exact⟨(hc.cell (p:=⟨b,_,none⟩) hne).trans h1,(hc.cell (p:=⟨b,_,none⟩) hne).trans h2,(hc.cell (p:=⟨b,_,none⟩) hne).trans h3⟩
def UniT (W:World) (p:Option Addr) (ps:List Uc.Pr):Prop:=∃ A c ls,Uc.TIn W p A c ls∧Uc.Ist W ls ps
def PrpT (W:World) (p:Option Addr) (ls:List Pq.Sp):Prop:=∃ A c,Pq.TIn W p A c ls
theorem uniT_odd {p:Option Addr} {ps:List Uc.Pr} (ho:Odd W B) (hc:Chg B W W') (h:UniT W p ps):UniT W' p ps:=by
 obtain⟨A,c,ls,h1,h2⟩:=h
 refine⟨A,c,ls,?_,Uc.Ist.of (fun _ _ q=>⟨q.1,q.2.1,q.2.2.1,q.2.2.2.1,q.2.2.2.2.1,q.2.2.2.2.2.1,vals_odd ho hc q.2.2.2.2.2.2⟩) h2⟩
 rcases h1 with h | ⟨b,rfl,hlt,hs,hr⟩
 · exact .inl h
 · have hne:b≠B:=by rintro rfl;exact ho.no_slice hs
   exact .inr ⟨b,rfl,by rw [hc.1];exact hlt,(hc.cell (p:=⟨b,0,none⟩) hne).trans hs,rat_odd ho hc hr⟩
theorem prpT_odd {p:Option Addr} {ls:List Pq.Sp} (ho:Odd W B) (hc:Chg B W W') (h:PrpT W p ls):PrpT W' p ls:=by
 obtain⟨A,c,h1⟩:=h
 refine⟨A,c,?_⟩
 rcases h1 with h | ⟨b,rfl,hlt,hs,hr,hl⟩
 · exact .inl h
 · have hne:b≠B:=by rintro rfl;exact ho.no_slice hs
   exact .inr ⟨b,rfl,by rw [hc.1];exact hlt,(hc.cell (p:=⟨b,0,none⟩) hne).trans hs,sat_odd ho hc hr,hl⟩
theorem ct_odd {p:Option Addr} {cf:List Cf.Pp} (ho:Odd W B) (hc:Chg B W W') (h:Cf.CT W p cf):Cf.CT W' p cf:=by
 obtain⟨A,k,h⟩:=h
 refine⟨A,k,?_⟩
 rcases h with h | ⟨b,mb,n,D,rfl,⟨h1,h2⟩,⟨h3,h4,h5⟩,h6⟩
 · exact .inl h
 · have hne:b≠B:=by rintro rfl;exact ho.no_slice h2
   exact .inr ⟨b,mb,n,D,rfl,⟨(hc.cell (p:=⟨b,0,none⟩) hne).trans h1,(hc.cell (p:=⟨b,1,none⟩) hne).trans h2⟩,⟨vals_odd ho hc h3,owns_chg hc (ho.map_ne h4) h4,⟨h5.1,fun r hr=>by obtain⟨A,k,q1,q2,q3⟩:=h5.2 r hr;exact⟨A,k,q1,vals_odd ho hc q2,q3⟩⟩⟩,h6⟩
theorem uniT_below {p:Option Addr} {ps:List Uc.Pr} (hb:Below W.heap.size W W') (h:UniT W p ps):UniT W' p ps:=by
 obtain⟨A,c,ls,h1,h2⟩:=h
 exact⟨A,c,ls,h1.below hb,h2.below hb⟩
theorem prpT_below {p:Option Addr} {ls:List Pq.Sp} (hb:Below W.heap.size W W') (h:PrpT W p ls):PrpT W' p ls:=by
 obtain⟨A,c,h1⟩:=h
 exact⟨A,c,h1.below hb⟩
theorem pf_set {b:Nat} {v:Value} {ps:List Uc.Pr} {sp:Nat→List Pq.Sp} {cf:List Cf.Pp} (ho:Odd W b) (h:PF W b ps sp cf):PF (W.setCell ⟨b,7,none⟩ v) b ps sp cf:=by
 have hc:=chg_set W b 7 v
 have cc:∀ {i:Nat} {x:Value},i≠7→W.cell? ⟨b,i,none⟩=some x→(W.setCell ⟨b,7,none⟩ v).cell? ⟨b,i,none⟩=some x:=fun hi hx=>(World.cell?_setCell_other _ _ _ _ (by intro q;injection q with q1 q2;exact hi q2.symm)).trans hx
 obtain⟨p,A,c,ls,h1,h2,h3⟩:=h.uni
 obtain⟨A',c',ls',h2',h3'⟩:=uniT_odd ho hc ⟨A,c,ls,h2,h3⟩
 refine⟨⟨p,A',c',ls',cc (by omega) h1,h2',h3'⟩,fun i hi=>?_,?_⟩
 · obtain⟨p,A,c,k1,k2⟩:=h.prs i hi
   obtain⟨A',c',k2'⟩:=prpT_odd ho hc ⟨A,c,k2⟩
   exact⟨p,A',c',cc (by omega) k1,k2'⟩
 · obtain⟨p,k1,k2⟩:=h.cnf
   exact⟨p,cc (by omega) k1,ct_odd ho hc k2⟩
end
end Go.Proofs.YtmellioacefjjaaGreatDoor
namespace Go.Proofs.YtmellioacefjjaaGreatDoor
open Go.RowKit Go.Shelf Go.Sort
attribute [local go_sem] Oper.semAt_some
theorem mixedD:Tryz.prog.follows .mixedOrders=true:=by kernel_rfl
def madeV (dm:Nat) (cc c1:Int) (h0:Bool):Bool:=decide (dm=2)&&(decide (cc=0)&&(decide (c1=0) && !h0))
set_option maxRecDepth 100000 in
set_option maxHeartbeats 4000000 in
theorem made99_at (b:Nat) (p A:Option Addr) (c:Nat) (ls:List Uc.Rw) (p0 A0:Option Addr) (c0:Nat) (l0:List Pq.Sp) (s:Uc.Rw) (d0:Int) (w:World) (h0:w.cell? ⟨b,0,none⟩=some (.pointer p)) (h1:w.cell? ⟨b,1,none⟩=some (.pointer p0)) (hT:Uc.TIn w p A c ls) (hn:ls.length≤100000) (hr:Uc.Rises ls) (hT0:Pq.TIn w p0 A0 c0 l0) (hn0:l0.length≤100000) (hr0:Pq.Rises l0) (hf0:∀ s∈l0,s.a≤s.b)
 (hd:s.dm=2→∃ b2 off,s.dp=some ⟨b2,off,none⟩∧w.cell? ⟨b2,off,none⟩=some (.int .i64 d0)):
 Calls Tryz.prog 99 #[.pointer (some ⟨b,0,none⟩),Uc.rwV s] w fun e w'=>e=.returned (.bool (madeV s.dm s.ccc (Uc.atOf ls d0).ccc (Pq.hasOf l0 s.a exclV)))∧Below w.heap.size w w':=by
 obtain⟨T,hT'⟩:∃ T,bs s.gc=T:=⟨_,rfl⟩
 obtain⟨U,hU⟩:∃ T,bs s.bd=T:=⟨_,rfl⟩
 unfold Uc.rwV
 rw [hT',hU]
 obtain⟨a,ha⟩:∃ x,s.a=x:=⟨_,rfl⟩
 obtain⟨sb,hsb⟩:∃ x,s.b=x:=⟨_,rfl⟩
 obtain⟨cc,hcc⟩:∃ x,s.ccc=x:=⟨_,rfl⟩
 obtain⟨dp,hdp⟩:∃ x,s.dp=x:=⟨_,rfl⟩
 obtain⟨dm,hdm⟩:∃ x,s.dm=x:=⟨_,rfl⟩
 obtain⟨dc,hdc⟩:∃ x,s.dc=x:=⟨_,rfl⟩
 rw [hdp,hdm] at hd
 rw [ha,hsb,hcc,hdp,hdm,hdc]
 clear ha hsb hcc hdp hdm hdc hT' hU
 have hbw:Below w.heap.size w (w.alloc (.cells #[.int .i64 a,.int .i64 sb,.string T,.int .i64 cc,.string U,.slice dp dm dc] 33)):=(Below.refl _ _).alloc (Nat.le_refl _) _
 obtain⟨W,hW⟩:∃ W,(w.alloc (.cells #[.int .i64 a,.int .i64 sb,.string T,.int .i64 cc,.string U,.slice dp dm dc] 33))=W:=⟨_,rfl⟩
 have e0:W.cell? ⟨w.heap.size,0,none⟩=some (.int .i64 a):=by rw [←hW];simp
 have e3:W.cell? ⟨w.heap.size,3,none⟩=some (.int .i64 cc):=by rw [←hW];simp
 have e5:W.cell? ⟨w.heap.size,5,none⟩=some (.slice dp dm dc):=by rw [←hW];simp
 obtain⟨l,hl⟩:∃ l,w.heap.size=l:=⟨_,rfl⟩
 rw [hW] at hbw
 have h0':W.cell? ⟨b,0,none⟩=some (.pointer p):=(hbw.cell (p:=⟨b,0,none⟩) (World.block_lt_of_cell? w _ h0)).trans h0
 have h1':W.cell? ⟨b,1,none⟩=some (.pointer p0):=(hbw.cell (p:=⟨b,1,none⟩) (World.block_lt_of_cell? w _ h1)).trans h1
 have hd':dm=2→∃ b2 off,dp=some ⟨b2,off,none⟩∧W.cell? ⟨b2,off,none⟩=some (.int .i64 d0):=fun h=>by
  obtain⟨b2,off,e,hc⟩:=hd h
  exact⟨b2,off,e,(hbw.cell (p:=⟨b2,off,none⟩) (World.block_lt_of_cell? w _ hc)).trans hc⟩
 have c32:=fun d os=>Uc.ccc15 p A c ls d0 (grow (redrawn W d) os) ((hT.below hbw).below (below_regrown W d os)) hn hr
 have c17:=fun d os=>exc17_at b p0 A0 c0 l0 a (grow (redrawn W d) os) (cell_regrown h1' d os) ((hT0.below hbw).below (below_regrown W d os)) hn0 hr0 hf0
 have z0:=cell_regrown e0
 have z3:=cell_regrown e3
 have z5:=cell_regrown e5
 have y0:=cell_regrown h0'
 have HB:=Lib.hid hbw
 have HW:=Lib.hid hW
 have HH:=Lib.hid hl
 rw [hl] at z0 z3 z5
 obtain⟨c1,hc1⟩:∃ x,(Uc.atOf ls d0).ccc=x:=⟨_,rfl⟩
 obtain⟨x0,hx0⟩:∃ x,Pq.hasOf l0 a exclV=x:=⟨_,rfl⟩
 rw [hc1] at c32 ⊢
 rw [hx0] at c17 ⊢
 have HD:=Lib.hid hd'
 clear hbw hW hl h0 h1 h0' h1' hd hd' e0 e3 e5 hT hr hT0 hr0 hf0 hc1 hx0
 by_cases g1:dm=2
 · subst g1
   obtain⟨b2,off,rfl,hq⟩:=HD.out rfl
   have q0:=cell_regrown hq
   clear hq HD
   by_cases g2:cc=0
   · subst g2
     by_cases g3:c1=0
     · subst g3
       have HV:Hid (madeV 2 0 0 x0 = !x0):=Lib.hid (by unfold madeV;simp)
       go_enter Tryz.func99,Tryz.ntmps99
       go_wp2_with fail
       rw [HW.out,HH.out]
       refine wp_region_quiet_below mixedD (by kernel_rfl) ?_
       repeat (go_big_quiet_step (first | (go_at_call 32;with_reducible exact Calls.regrown_of (c32 _ _)) | (go_at_call 17;with_reducible exact Calls.regrown_of (c17 _ _))))
       refine wpQuiet_nil ?_
       intro _ hw'
       obtain⟨⟨dq,osq⟩,hw''⟩:=hw'
       subst hw''
       go_wp2
       go_ret
       exact⟨by rw [HV.out];rfl,HB.out.trans ((below_regrown W dq osq).mono HB.out.size)⟩
     · have g3':(c1==0)=false:=beq_false_of_ne g3
       have HV:Hid (madeV 2 0 c1 x0=false):=Lib.hid (by unfold madeV;simp [g3])
       clear g3
       go_enter Tryz.func99,Tryz.ntmps99
       go_wp2_with fail
       rw [HW.out,HH.out]
       refine wp_region_quiet_below mixedD (by kernel_rfl) ?_
       repeat (go_big_quiet_step (first | (go_at_call 32;with_reducible exact Calls.regrown_of (c32 _ _)) | (go_at_call 17;with_reducible exact Calls.regrown_of (c17 _ _))))
       refine wpQuiet_nil ?_
       intro _ hw'
       obtain⟨⟨dq,osq⟩,hw''⟩:=hw'
       subst hw''
       go_wp2
       go_ret
       exact⟨by rw [HV.out];rfl,HB.out.trans ((below_regrown W dq osq).mono HB.out.size)⟩
   · have g2':(cc==0)=false:=beq_false_of_ne g2
     have HV:Hid (madeV 2 cc c1 x0=false):=Lib.hid (by unfold madeV;simp [g2])
     clear g2
     go_enter Tryz.func99,Tryz.ntmps99
     go_wp2_with fail
     rw [HW.out,HH.out]
     refine wp_region_quiet_below mixedD (by kernel_rfl) ?_
     repeat (go_big_quiet_step (first | (go_at_call 32;with_reducible exact Calls.regrown_of (c32 _ _)) | (go_at_call 17;with_reducible exact Calls.regrown_of (c17 _ _))))
     refine wpQuiet_nil ?_
     intro _ hw'
     obtain⟨⟨dq,osq⟩,hw''⟩:=hw'
     subst hw''
     go_wp2
     go_ret
     exact⟨by rw [HV.out];rfl,HB.out.trans ((below_regrown W dq osq).mono HB.out.size)⟩
 · have g1':((dm:Int)==2)=false:=beq_false_of_ne (by omega)
   have HV:Hid (madeV dm cc c1 x0=false):=Lib.hid (by unfold madeV;simp [g1])
   clear g1 HD
   go_enter Tryz.func99,Tryz.ntmps99
   go_wp2_with fail
   rw [HW.out,HH.out]
   refine wp_region_quiet_below mixedD (by kernel_rfl) ?_
   repeat (go_big_quiet_step (first | (go_at_call 32;with_reducible exact Calls.regrown_of (c32 _ _)) | (go_at_call 17;with_reducible exact Calls.regrown_of (c17 _ _))))
   refine wpQuiet_nil ?_
   intro _ hw'
   obtain⟨⟨dq,osq⟩,hw''⟩:=hw'
   subst hw''
   go_wp2
   go_ret
   exact⟨by rw [HV.out];rfl,HB.out.trans ((below_regrown W dq osq).mono HB.out.size)⟩
end Go.Proofs.YtmellioacefjjaaGreatDoor
