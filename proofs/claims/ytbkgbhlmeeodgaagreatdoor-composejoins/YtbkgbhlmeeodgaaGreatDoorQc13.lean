/- A part. -/
import Derived.Test.YtbkgbhlmeeodgaaGreatDoorQc12
import Derived.Deep.AppendLies
import Derived.Lib.AppendZeros
namespace Go.Proofs.YtbkgbhlmeeodgaaGreatDoor
open Go.RowKit Go.Shelf
attribute [local go_sem] Oper.semAt_some
def addU (us:Int→List Int) (c:Int) (ps:List Int):Int→List Int:=ps.foldl (fun us d=>putV us d (us d ++ [c])) us
theorem addU_snoc (us:Int→List Int) (c:Int) (ps:List Int) (d:Int):addU us c (ps ++ [d])=putV (addU us c ps) d (addU us c ps d ++ [c]):=by unfold addU;rw [List.foldl_append];rfl
theorem addU_len (us:Int→List Int) (c:Int) {N:Nat} (h:∀ d,(us d).length≤N):∀ (ps:List Int) (d:Int),(addU us c ps d).length≤N+ps.length:=by
 intro ps
 induction ps generalizing us N with
 | nil=>exact fun d=>by simpa [addU] using h d
 | cons p ps ih=>
  intro d
  have h2:=ih (us:=putV us p (us p ++ [c])) (N:=N+1) (fun x=>by
   by_cases e:x=p
   · subst e;rw [putV_same];have:=h x;simp;omega
   · rw [putV_other _ _ e];have:=h x;omega) d
  have e:addU us c (p::ps) d=addU (putV us p (us p ++ [c])) c ps d:=rfl
  rw [e,List.length_cons]
  omega
def Ofs (M1 M2:Nat) (val:Int→Value) (k:Nat):Prop:=k≠M1∧k≠M2∧∀ x,(val x).ownBlock≠some k
def Moved (w:World) (val val':Int→Value):Prop:=∀ x,(val' x).ownBlock=(val x).ownBlock∨∃ g,(val' x).ownBlock=some g∧w.heap.size≤g
theorem Moved.refl (w:World) (val:Int→Value):Moved w val val:=fun _=>.inl rfl
def AdI (w:World) (b M1 M2 n1 n2 base B0 nn:Nat) (D1:DataW Value) (us:Int→List Int) (val:Int→Value) (c:Int) (A:Option Addr) (ps:List Int) (i:Value) (wr:World):Prop:=
 ∃ (k m:Nat) (D:DataW Value) (v:Int→Value),(i=.int .i64 k∧k≤nn)∧(F2 wr M2 m base D (addU us c (ps.take k)) v∧m≤n2+k)∧(wr.ownsMap Tryz.prog 3 Cf.tokE M1 n1 D1∧Vals wr A nn (nums .i64 ps)∧wr.cell? ⟨b,1,none⟩=some (.map (some M2)))∧(Moved w val v∧Kept (Ofs M1 M2 val) w wr∧Below B0 w wr)
def AddPost (w:World) (M1 M2 n1 n2 base B0 nn:Nat) (D1:DataW Value) (us:Int→List Int) (val:Int→Value) (c:Int) (ps:List Int) (e:Ending) (w':World):Prop:=
 e=.returned (.tuple #[])∧∃ (m:Nat) (D:DataW Value) (v:Int→Value),(F2 w' M2 m base D (addU us c ps) v∧m≤n2+nn)∧w'.ownsMap Tryz.prog 3 Cf.tokE M1 n1 D1∧(Moved w val v∧Kept (Ofs M1 M2 val) w w'∧Below B0 w w')
set_option maxRecDepth 100000 in
theorem look_at {W:World} {M m:Nat} {D:DataW Value} {d:Int} {v:Value} (h:W.ownsMap Tryz.prog 3 Cf.tokE M m D) (hd:(Lit.int .i64 d).wf=true) (hat:D.atKey (key d) nilT=.held v):(Instr.lookup 183 (.map (some M)) (.int .i64 d) false).run Tryz.prog W=.ok v W:=by
 obtain⟨v',ps,hr,hR⟩:=h.lookup Cf.k3 Tryz.underlying183 (Cf.zero33 W) (zd:=nilT) (zp:=[]) rfl (Cf.key3 hd)
 have e:D.atKey (key d) nilT=.held v':=Cf.tokE_inv hR
 have e2:v'=v:=by rw [hat] at e;injection e with e;exact e.symm
 rw [←e2]
 exact hr
theorem upd_at {W:World} {M m:Nat} {D:DataW Value} {d:Int} {v:Value} (h:W.ownsMap Tryz.prog 3 Cf.tokE M m D) (hd:(Lit.int .i64 d).wf=true) (hm:m≤1000000):∃ W',(Instr.mapUpdate 183 (.map (some M)) (.int .i64 d) v).run Tryz.prog W=.ok () W'∧W'.ownsMap Tryz.prog 3 Cf.tokE M (m+1) (D.put (key d) (.held v))∧W.grownBy W' (some M):=
 h.update Cf.k3 Tryz.underlying183 (by unfold maxLen;omega) (Cf.key3 hd) (val:=v) rfl
theorem kept_grown {A:Nat→Prop} {w w':World} {row:Option Nat} (hg:w.grownBy w' row) (hr:∀ k,A k→some k≠row):Kept A w w':=⟨hg.size,fun k ha hk=>hg.block k hk (hr k ha)⟩
theorem ad_next {w wr W1 W2:World} {b M1 M2 n1 n2 base B0 nn k m g:Nat} {D1 D:DataW Value} {us:Int→List Int} {val v:Int→Value} {c d:Int} {A:Option Addr} {ps:List Int} {o:Obj} {cap:Nat} (hk:k<nn) (hd:ps[k]? = some d) (hc:(Lit.int .i64 c).wf=true)
 (hne:M1≠M2) (hb:b<base) (hbl:b≠M2) (hM1:M1<base) (hM2:M2<base) (hbw:base≤w.heap.size) (hB1:B0≤M1) (hB2:B0≤M2) (hA:∀ a,A=some a→Ofs M1 M2 val a.block∧a.block<w.heap.size)
 (hF:F2 wr M2 m base D (addU us c (ps.take k)) v) (hm:m≤n2+k) (ho:wr.ownsMap Tryz.prog 3 Cf.tokE M1 n1 D1) (hV:Vals wr A nn (nums .i64 ps)) (hcl:wr.cell? ⟨b,1,none⟩=some (.map (some M2))) (hmv:Moved w val v) (hkp:Kept (Ofs M1 M2 val) w wr) (hbe:Below B0 w wr)
 (hown:W1.ownsRow base 3 1 (.slice (some ⟨g,0,none⟩) ((addU us c (ps.take k) d).length+1) cap) ((addU us c (ps.take k) d).length+1) (nums .i64 (addU us c (ps.take k) d) ++ [.int .i64 c])) (hgr:(wr.alloc o).grownBy W1 (v d).ownBlock) (hat:(v d).ownBlock=some g∨g=wr.heap.size+1)
 (hup:W2.ownsMap Tryz.prog 3 Cf.tokE M2 (m+1) (D.put (key d) (.held (.slice (some ⟨g,0,none⟩) ((addU us c (ps.take k) d).length+1) cap)))) (hg2:W1.grownBy W2 (some M2)):
 AdI w b M1 M2 n1 n2 base B0 nn D1 us val c A ps (.int .i64 ((k:Int)+1)) W2:=by
 have hsw:=hkp.1
 have hga:wr.grownBy W1 (v d).ownBlock:=(World.grownBy_alloc wr o _).trans hgr
 have hlo:∀ r,(v d).ownBlock=some r→base≤r:=fun r e=>((hF.row d).1.lt r e).1
 have hne1:∀ j,j<base→some j≠(v d).ownBlock:=fun j hj e=>by have:=hlo j e.symm;omega
 have hpt:ps.take (k+1)=ps.take k ++ [d]:=by
  rw [List.take_succ_eq_append_getElem (List.getElem?_eq_some_iff.1 hd).1,(List.getElem?_eq_some_iff.1 hd).2]
 have hofs:∀ j,Ofs M1 M2 val j→j<w.heap.size→some j≠(v d).ownBlock:=fun j hj hjw e=>by
  rcases hmv d with h1 | ⟨r,h1,h2⟩
  · exact hj.2.2 d (h1.symm.trans e.symm)
  · rw [h1] at e;injection e with e;omega
 refine⟨k+1,m+1,D.put (key d) (.held (.slice (some ⟨g,0,none⟩) ((addU us c (ps.take k) d).length+1) cap)),putV v d (.slice (some ⟨g,0,none⟩) ((addU us c (ps.take k) d).length+1) cap),⟨by go_num,by omega⟩,⟨?_,by omega⟩,⟨?_,?_,?_⟩,fun x=>?_,?_,?_⟩
 · rw [hpt,addU_snoc]
   exact f2_put hF hc hga hown (hat.elim (fun e=>.inl e.symm) (fun e=>.inr ⟨g,rfl,by omega⟩)) hM2 hg2 hup
 · exact (ho.kept hga (hne1 _ hM1)).kept hg2 (fun e=>hne (by injection e))
 · exact vals_grown (vals_grown hV hga (fun a e=>hofs _ (hA a e).1 (hA a e).2)) hg2 (fun a e e2=>(hA a e).1.2.1 (by injection e2))
 · exact hg2.cell (a:=⟨b,1,none⟩) (hga.cell (a:=⟨b,1,none⟩) hcl (hne1 _ hb)) (fun e=>hbl (by injection e))
 · by_cases e:x=d
   · subst e
     rw [putV_same]
     rcases hat with h1 | h1
     · rcases hmv x with h2 | ⟨r,h2,h3⟩
       · exact .inl (by rw [←h2,h1];rfl)
       · exact .inr ⟨g,rfl,by rw [h1] at h2;injection h2 with h2;omega⟩
     · exact .inr ⟨g,rfl,by omega⟩
   · rw [putV_other _ _ e];exact hmv x
 · refine⟨Nat.le_trans hsw (Nat.le_trans hga.size hg2.size),fun j hj hjw=>?_⟩
   rw [hg2.block j (Nat.lt_of_lt_of_le hjw (Nat.le_trans hsw hga.size)) (fun e=>hj.2.1 (by injection e)),hga.block j (Nat.lt_of_lt_of_le hjw hsw) (hofs j hj hjw)]
   exact hkp.2 j hj hjw
 · exact (hbe.grown hga (by omega) (fun r e=>by have:=hlo r e;omega)).grown hg2 (by have:=hga.size;omega) (fun r e=>by injection e with e;omega)
set_option maxRecDepth 100000 in
set_option maxHeartbeats 2000000 in
theorem add97 (b M1 M2 n1 n2 base B0 nn ca:Nat) (D1 D2:DataW Value) (us:Int→List Int) (val:Int→Value) (c:Int) (A:Option Addr) (ps:List Int) (w:World)
 (h0:w.cell? ⟨b,0,none⟩=some (.map (some M1))) (h1:w.cell? ⟨b,1,none⟩=some (.map (some M2))) (hO:w.ownsMap Tryz.prog 3 Cf.tokE M1 n1 D1) (hF:F2 w M2 n2 base D2 us val) (hc:(Lit.int .i64 c).wf=true) (hw:∀ d∈ps,(Lit.int .i64 d).wf=true)
 (hV:Vals w A nn (nums .i64 ps)) (hA:∀ a,A=some a→Ofs M1 M2 val a.block∧a.block<w.heap.size) (hne:M1≠M2) (hb:b<base) (hbl:b≠M1∧b≠M2) (hM1:M1<base) (hM2:M2<base) (hbw:base≤w.heap.size) (hB1:B0≤M1) (hB2:B0≤M2) (hn:nn≤1000) (hn1:n1≤100000) (hn2:n2≤100000) (hu:∀ d,(us d).length≤100000):
 Calls Tryz.prog 122 #[.pointer (some ⟨b,0,none⟩),.int .i64 c,.slice A nn ca] w (AddPost w M1 M2 (n1+1) n2 base B0 nn (D1.put (key c) (.held (.slice A nn ca))) us val c ps):=by
 obtain⟨i0,hi,hz0,hz1,hz2⟩:=info_parts infoI
 obtain⟨w1,hr1,ho1,hg1⟩:=upd_at (v:=.slice A nn ca) hO hc (by omega)
 have hl:ps.length=nn:=by have:=hV.1;rwa [nums_len] at this
 have HI0:Hid (AdI w b M1 M2 (n1+1) n2 base B0 nn (D1.put (key c) (.held (.slice A nn ca))) us val c A ps (.int .i64 (0:Nat)) w1):=Lib.hid ⟨0,n2,D2,val,⟨rfl,Nat.zero_le _⟩,⟨hF.kept hg1 (fun e=>hne (by injection e with e;exact e.symm)) (fun x=>by
  cases hx:(val x).ownBlock with
  | none=>exact .inl rfl
  | some g=>exact .inr (fun e=>by injection e with e;have:=((hF.row x).1.lt g hx).1;omega)),by omega⟩,⟨ho1,vals_grown hV hg1 (fun a e e2=>(hA a e).1.1 (by injection e2)),hg1.cell (a:=⟨b,1,none⟩) h1 (fun e=>hbl.1 (by injection e))⟩,Moved.refl _ _,kept_grown hg1 (fun k hk e=>hk.1 (by injection e)),(Below.refl _ w).grown hg1 (by omega) (fun r e=>by injection e with e;omega)⟩
 have HNX:=Lib.hid (fun (wr W1 W2:World) (k m g:Nat) (D:DataW Value) (v:Int→Value) (d:Int) (o:Obj) (cap:Nat)=>@ad_next w wr W1 W2 b M1 M2 (n1+1) n2 base B0 nn k m g (D1.put (key c) (.held (.slice A nn ca))) D us val v c d A ps o cap)
 have HSD:=Lib.hid (And.intro hc (And.intro hne (And.intro hb (And.intro hbl.2 (And.intro hM1 (And.intro hM2 (And.intro hbw (And.intro hB1 (And.intro hB2 hA)))))))))
 have HL:=Lib.hid hl
 have HW:=Lib.hid hw
 have HU:=Lib.hid hu
 have HI:=Lib.hid hi
 clear hO hF hw hV hA hne hb hbl hM1 hM2 hbw hB1 hB2 ho1 hg1 hl hu hc h1
 go_enter Tryz.func122,Tryz.ntmps122
 go_wp2
 go_loopw [16] (fun i wr=>AdI w b M1 M2 (n1+1) n2 base B0 nn (D1.put (key c) (.held (.slice A nn ca))) us val c A ps i wr) (fun i _=>nn-(intOf i).toNat)
 case atStart=>exact HI0.out
 case round=>
  clear HI0 hr1 h0
  obtain⟨k,m,D,v,⟨rfl,hk⟩,⟨hF,hm⟩,⟨ho,hV,hcl⟩,hmv,hkp,hbe⟩:=hrel
  by_cases hlt:k<nn
  · obtain⟨d,hd⟩:∃ d,ps[k]? = some d:=⟨_,List.getElem?_eq_getElem (by have:=HL.out;omega)⟩
    obtain⟨b2,off,rfl,-,hcc⟩:=hV.2 (by omega)
    have k1:wr.cell? ⟨b2,off+k,none⟩=some (.int .i64 d):=hcc k _ (by unfold nums;rw [List.getElem?_map,hd];rfl)
    have hwd:=HW.out d (List.mem_of_getElem? hd)
    have hul:=addU_len us c HU.out (ps.take k) d
    rw [List.length_take] at hul
    obtain⟨hc,hne,hb,hbl,hM1,hM2,hbw,hB1,hB2,hA⟩:=HSD.out
    have HE:=Lib.hid (fun (W1 W2:World) (g:Nat) (o:Obj) (cap:Nat)=>HNX.out wr W1 W2 k m g D v d o cap hlt hd hc hne hb hbl hM1 hM2 hbw hB1 hB2 hA hF hm ho hV hcl hmv hkp hbe)
    have hlk:∀ W:World,W.ownsMap Tryz.prog 3 Cf.tokE M2 m D→(Instr.lookup 183 (.map (some M2)) (.int .i64 d) false).run Tryz.prog W=.ok (v d) W:=fun W h=>look_at h hwd (hF.at2 d)
    have hup:∀ (W:World) (z:Value),W.ownsMap Tryz.prog 3 Cf.tokE M2 m D→_:=fun W z h=>upd_at (v:=z) h hwd (by omega)
    have l0:=hlk wr hF.own
    have l0d:=hlk wr.drew hF.own.drew
    have l1:∀ W:World,Below wr.heap.size wr W→(Instr.lookup 183 (.map (some M2)) (.int .i64 d) false).run Tryz.prog W=.ok (v d) W:=fun W hb=>hlk W (hF.own.kept (grown_below hb) (by simp))
    have l2:∀ (o:Obj) (W:World),(wr.alloc o).grownBy W (v d).ownBlock→(Instr.lookup 183 (.map (some M2)) (.int .i64 d) false).run Tryz.prog W=.ok (v d) W:=fun o W hg=>hlk W ((hF.own.alloc o).kept hg (fun e=>by have:=((hF.row d).1.lt M2 e.symm).1;omega))
    have l4:∀ (o:Obj) (W:World),(wr.alloc o).grownBy W (v d).ownBlock→W.ownsMap Tryz.prog 3 Cf.tokE M2 m D:=fun o W hg=>(hF.own.alloc o).kept hg (fun e=>by have:=((hF.row d).1.lt M2 e.symm).1;omega)
    have l3:∀ (o:Obj) (W:World),(wr.alloc o).grownBy W (v d).ownBlock→W.cell? ⟨b,1,none⟩=some (.map (some M2)):=fun o W hg=>hg.cell (a:=⟨b,1,none⟩) ((World.cell?_alloc_past _ _ _ (World.block_lt_of_cell? wr _ hcl)).trans hcl) (fun e=>by have:=((hF.row d).1.lt b e.symm).1;omega)
    have hrow:=(hF.row d).1
    have hrl:=(hF.row d).1.1
    have hbase:base≤wr.heap.size:=Nat.le_trans hbw hkp.1
    have hbb:b<wr.heap.size:=World.block_lt_of_cell? wr _ hcl
    obtain⟨L,hL⟩:∃ L,addU us c (ps.take k) d=L:=⟨_,rfl⟩
    rw [hL] at hrow hul HE
    have HUP:=Lib.hid hup
    have HROW:=Lib.hid hrow
    have HOWN:=Lib.hid hF.own
    obtain⟨vd,hvd⟩:∃ x,v d=x:=⟨_,rfl⟩
    rw [hvd] at HROW l0 l0d l1 l2 l3 l4 HE
    have HC:=Lib.hid hc
    have HM:=Lib.hid (And.intro hM2 hb)
    have l1a:∀ o,(Instr.lookup 183 (.map (some M2)) (.int .i64 d) false).run Tryz.prog (wr.alloc o)=.ok vd (wr.alloc o):=fun o=>l1 _ ((Below.refl _ _).alloc (Nat.le_refl _) o)
    have l1d:∀ o,(Instr.lookup 183 (.map (some M2)) (.int .i64 d) false).run Tryz.prog (wr.alloc o).drew=.ok vd (wr.alloc o).drew:=fun o=>l1 _ (below_drew ((Below.refl _ _).alloc (Nat.le_refl _) o))
    have HBN:Hid (b≠M2):=Lib.hid hbl
    have L2:=Lib.hid (And.intro l2 (And.intro l3 l4))
    clear hV hcc hd ho hF hmv hkp hbe hne hbl hM1 hM2 hbw hB1 hB2 hA hlk hup hL hrow hvd hrl hwd hc l1 l2 l3 l4 hb
    go_wp2
    go_region_held3 (fun w'=>w'.cell? ⟨b,1,none⟩=some (.map (some M2)))
     (first | exact hcl | exact (World.cell?_alloc_past _ _ _ hbb).trans hcl | exact L2.out.2.1 _ _ hgr | exact hg2.cell (a:=⟨b,1,none⟩) (L2.out.2.1 _ _ hgr) (fun e=>HBN.out (by injection e)))
     ((refine step_append_lies _ (by rfl) _ _ _ (by rfl) base 3 i0 (.int .i64 0) 1 8 Tryz.underlying25 HI.out hz0 hz1 hz2 (by rfl) (by decide) vd L.length (nums .i64 L) (by rfl) (HROW.out.alloc _) ⟨wr.heap.size,0,none⟩ 1 1 [.int .i64 c] (by rfl) (by rfl) (fun j u hj=>lit_cells wr [.int .i64 c] 3 j u hj) (by simp [Value.oneCell']) (by omega) (by unfold maxLen;omega) (by omega) (by simp;omega) (wr.heap.size+1) (by simp) ?_;intro g cap W1 hown1 hgd hat hlt1;have hgr:(wr.alloc (.cells #[.int .i64 c] 3)).grownBy W1 vd.ownBlock:=⟨hgd.os,hgd.tape,hgd.output,hgd.size,hgd.block⟩;obtain⟨W2,hu2,ho2,hg2⟩:=HUP.out W1 (.slice (some ⟨g,0,none⟩) (L.length+1) cap) (L2.out.2.2 _ _ hgr)))
    all_goals
     have R:=Lib.hid (HE.out W1 W2 g (.cells #[.int .i64 c] 3) cap hown1 hgr hat ho2 hg2)
     clear HE hown1 hgr hgd hat ho2 hg2 hu2 hlt1 l0 l0d l1a l1d L2 HNX HUP HROW HOWN
     go_wp2_with fail
     go_roundw
     case rel=>exact R.out
     case measure=>simp [intOf];omega
  · have hke:k=nn:=by omega
    subst hke
    have R:Hid (AddPost w M1 M2 (n1+1) n2 base B0 k (D1.put (key c) (.held (.slice A k ca))) us val c ps (.returned (.tuple #[])) wr):=Lib.hid ⟨rfl,m,D,v,⟨by rw [List.take_of_length_le (by rw [HL.out];exact Nat.le_refl _)] at hF;exact hF,hm⟩,ho,hmv,hkp,hbe⟩
    clear hF hm ho hV hcl hmv hkp hbe
    go_wp2
    go_end0
    exact R.out
def lenV:Value→Nat
 | .slice _ n _=>n
 | _=>0
theorem own_unique {H:Type} {W:World} {P:Program} {k:TypeId} {R:Value→Option (DataW H×List MemPlace)} {b n n':Nat} {D D':DataW H} (h:W.ownsMap P k R b n D) (h':W.ownsMap P k R b n' D'):D=D':=by
 obtain⟨es,clock,hb,-,-,rfl⟩:=h
 obtain⟨es',clock',hb',-,-,rfl⟩:=h'
 rw [hb] at hb'
 cases hb'
 rfl
theorem toDo_perm {us:Int→List Int} {O O':List Int} (h:O.Perm O'):toDo us O=toDo us O':=by
 induction h with
 | nil=>rfl
 | cons x _ ih=>rw [toDo,toDo,ih]
 | swap x y l=>rw [toDo,toDo,toDo,toDo];omega
 | trans _ _ h1 h2=>rw [h1,h2]
theorem f1_same {W:World} {M n n':Nat} {D D':DataW Value} {O O':List Int} (h:F1 W M n D O) (h':F1 W M n' D' O'):O.Perm O':=by
 have e:=own_unique h.1 h'.1
 subst e
 refine (List.perm_ext_iff_of_nodup h.2.2.2 h'.2.2.2).2 fun c=>?_
 have h1:=h.2.1 c
 rw [h'.2.1 c] at h1
 exact (decide_eq_decide.1 h1).symm
noncomputable def muW (us:Int→List Int) (M:Nat) (W:World):Nat:=by
 classical
 exact if h:∃ O n D,F1 W M n D O then toDo us h.choose else 0
theorem muW_is {us:Int→List Int} {M n:Nat} {W:World} {D:DataW Value} {O:List Int} (h:F1 W M n D O):muW us M W=toDo us O:=by
 have hx:∃ O n D,F1 W M n D O:=⟨O,n,D,h⟩
 unfold muW
 rw [dif_pos hx]
 obtain⟨n',D',h'⟩:=hx.choose_spec
 exact toDo_perm (f1_same h' h)
structure RnF (dec:Int→List Int) (K:List Int) (us:Int→List Int):Prop where
 all:∀ c,dec c ≠ []→c∈K
 has:∀ c∈K,dec c ≠ []
 use:∀ c,∀ x∈K,c∈dec x→x∈us c
 few:∀ c,(dec c).length≤1000
 wfd:∀ c,∀ d∈dec c,(Lit.int .i64 d).wf=true
 wfk:∀ c∈K,(Lit.int .i64 c).wf=true
 low:∀ c,(us c).length≤100000
structure RnS (w:World) (b M1 M2 M3 base B0 n2 T N:Nat) (D2:DataW Value) (dec:Int→List Int) (K:List Int) (us:Int→List Int) (val:Int→Value) (wr:World) (n1 n3:Nat) (D1 D3:DataW Value) (O wk:List Int) (sz:Int→Nat) (lg:Nat) (wv:Value):Prop where
 f1:F1 wr M1 n1 D1 O
 a1:A1 wr D1 dec O (fun k=>wv.ownBlock=some k)
 f2:F2 wr M2 n2 base D2 us val
 sep:∀ c,(val c).ownBlock=none∨(val c).ownBlock≠wv.ownBlock
 f3:F3 wr M3 n3 D3 sz
 row:wr.ownsRow base 3 1 wv wk.length (nums .i64 wk)
 fi:FI dec K O wk sz lg
 cel:wr.cell? ⟨b,0,none⟩=some (.map (some M1))∧wr.cell? ⟨b,1,none⟩=some (.map (some M2))∧wr.cell? ⟨b,2,none⟩=some (.map (some M3))
 wfw:∀ c∈wk,(Lit.int .i64 c).wf=true
 few:wk.length+toDo us O≤T
 fe3:n3+O.length≤N
 bel:Below B0 w wr
 oth:∀ k o,w.heap[k]? = some o→o.isCells=false→k≠M1→k≠M3→wr.heap[k]? = some o
def RnI (w:World) (b M1 M2 M3 base B0 n2 T N:Nat) (D2:DataW Value) (dec:Int→List Int) (K:List Int) (us:Int→List Int) (val:Int→Value) (v l:Value) (wr:World):Prop:=
 ∃ (n1 n3:Nat) (D1 D3:DataW Value) (O wk:List Int) (sz:Int→Nat) (lg:Nat),l=.int .i64 (lg:Nat)∧RnS w b M1 M2 M3 base B0 n2 T N D2 dec K us val wr n1 n3 D1 D3 O wk sz lg v
def RunPost (w:World) (b M1 M3 B0:Nat) (dec:Int→List Int) (K:List Int) (e:Ending) (w':World):Prop:=
 ∃ (n1:Nat) (D1:DataW Value) (O:List Int) (sz:Int→Nat) (lg:Nat),e=.returned (.int .i64 (lg:Nat))∧(F1 w' M1 n1 D1 O∧FI dec K O [] sz lg)∧w'.cell? ⟨b,0,none⟩=some (.map (some M1))∧Below B0 w w'∧∀ k o,w.heap[k]? = some o→o.isCells=false→k≠M1→k≠M3→w'.heap[k]? = some o
section
variable {w:World} {b M1 M2 M3 base B0 n2 T N:Nat} {D2:DataW Value} {dec:Int→List Int} {K:List Int} {us:Int→List Int} {val:Int→Value} {wr:World} {n1 n3:Nat} {D1 D3:DataW Value} {O wk:List Int} {sz:Int→Nat} {lg:Nat}
theorem RnS.gone {g n cap:Nat} {c:Int} (h:RnS w b M1 M2 M3 base B0 n2 T N D2 dec K us val wr n1 n3 D1 D3 O (wk ++ [c]) sz lg (.slice (some ⟨g,0,none⟩) (n+1) cap)) (hl:wk.length=n) (hfi:FI dec K O wk sz lg):
 RnS w b M1 M2 M3 base B0 n2 T N D2 dec K us val wr n1 n3 D1 D3 O wk sz lg (.slice (some ⟨g,0,none⟩) n cap):=by
 have hr:=h.row
 rw [List.length_append,List.length_singleton,hl] at hr
 refine⟨h.f1,h.a1,h.f2,h.sep,h.f3,?_,hfi,h.cel,fun x hx=>h.wfw x (List.mem_append_left _ hx),by have:=h.few;simp at this;omega,h.fe3,h.bel,h.oth⟩
 rw [hl]
 exact own_pop (z:=.int .i64 c) (by simpa [nums] using hr)
structure RnB (w:World) (b M1 M2 M3 base B0:Nat):Prop where
 m1:M1<base
 m2:M2<base
 m3:M3<base
 b1:b<base
 ne:(M1≠M2∧M1≠M3∧M2≠M3)∧(b≠M1∧b≠M2∧b≠M3)
 lo:B0≤M1∧B0≤M2∧B0≤M3
 top:base≤w.heap.size
theorem none_ne {base j:Nat} {W:World} {e:TypeId} {s n:Nat} {v:Value} {xs:List Value} (h:W.ownsRow base e s v n xs) (hj:j<base):v.ownBlock=none∨v.ownBlock≠some j:=by
 cases hv:v.ownBlock with
 | none=>exact .inl rfl
 | some g=>exact .inr (fun e=>by injection e with e;have:=(h.lt g hv).1;omega)
theorem ne_row {base j:Nat} {W:World} {e:TypeId} {s n:Nat} {v:Value} {xs:List Value} (h:W.ownsRow base e s v n xs) (hj:j<base):some j≠v.ownBlock:=fun e2=>by have:=(h.lt j e2.symm).1;omega
theorem RnS.done {W2 W3 W4:World} {c:Int} {wv wv' v':Value} (hB:RnB w b M1 M2 M3 base B0) (hR:RnF dec K us) (h:RnS w b M1 M2 M3 base B0 n2 T N D2 dec K us val wr n1 n3 D1 D3 O (wk ++ [c]) sz lg wv) (hrow:wr.ownsRow base 3 1 wv' wk.length (nums .i64 wk)) (hwv:wv'.ownBlock=wv.ownBlock) (hc:c∈O) (hno:∀ d∈dec c,d∉O)
 (ho2:W2.ownsMap Tryz.prog 3 (plainElem Tryz.prog 3) M3 (n3+1) (D3.put (key c) (.lit (.int .i64 (sizeS sz (dec c):Nat))))) (hg2:wr.grownBy W2 (some M3))
 (ho3:W3.ownsMap Tryz.prog 3 Cf.tokE M1 n1 (D1.del (key c))) (hg3:W2.grownBy W3 (some M1))
 (ho4:W4.ownsRow base 3 1 v' (wk.length+(us c).length) (nums .i64 wk++nums .i64 (us c))) (hg4:W3.grownBy W4 wv.ownBlock) (hl4:v'.ownBlock=wv.ownBlock∨v'.ownBlock=some W3.heap.size):
 RnS w b M1 M2 M3 base B0 n2 T N D2 dec K us val W4 n1 (n3+1) (D1.del (key c)) (D3.put (key c) (.lit (.int .i64 (sizeS sz (dec c):Nat)))) (cutO O c) (wk++us c) (putS sz c (sizeS sz (dec c))) (max lg (sizeS sz (dec c))) v':=by
 obtain⟨⟨n12,n13,n23⟩,nb1,nb2,nb3⟩:=hB.ne
 have r4:∀ j,j<base→some j≠wv.ownBlock:=fun j hj=>by rw [←hwv];exact ne_row hrow hj
 have hs3:wr.heap.size≤W3.heap.size:=Nat.le_trans hg2.size hg3.size
 have keepB:∀ (j:Nat) (v:Value),j<base→j≠M1→j≠M3→∀ k,wr.cell? ⟨j,k,none⟩=some v→W4.cell? ⟨j,k,none⟩=some v:=fun j v hj h1 h3 k hk=>
  hg4.cell (a:=⟨j,k,none⟩) (hg3.cell (a:=⟨j,k,none⟩) (hg2.cell (a:=⟨j,k,none⟩) hk (fun e=>h3 (by injection e))) (fun e=>h1 (by injection e))) (r4 j hj)
 have hf1':=f1_del h.f1 hc ho3
 have hf2:F2 W4 M2 n2 base D2 us val:=((h.f2.kept hg2 (fun e=>n23 (by injection e)) (fun x=>none_ne (h.f2.row x).1 hB.m3)).kept hg3 (fun e=>n12 (by injection e with e;exact e.symm)) (fun x=>none_ne (h.f2.row x).1 hB.m1)).kept hg4 (r4 _ hB.m2) h.sep
 have hlow:∀ x,(val x).ownBlock=none∨(val x).ownBlock≠v'.ownBlock:=fun x=>by
  rcases hl4 with e | e
  · rw [e];exact h.sep x
  · cases hx:(val x).ownBlock with
    | none=>exact .inl rfl
    | some g=>exact .inr (fun e2=>by rw [e] at e2;injection e2 with e2;have:=((h.f2.row x).1.lt g hx).2;omega)
 refine⟨hf1'.kept hg4 (r4 _ hB.m1),?_,hf2,hlow,(f3_put ((h.f3)) ho2 |>.kept hg3 (fun e=>n13 (by injection e with e;exact e.symm))).kept hg4 (r4 _ hB.m3),?_,?_,⟨keepB b _ hB.b1 nb1 nb3 0 h.cel.1,keepB b _ hB.b1 nb1 nb3 1 h.cel.2.1,keepB b _ hB.b1 nb1 nb3 2 h.cel.2.2⟩,?_,?_,?_,?_,?_⟩
 · have ha:=a1_del (c:=c) h.a1
   have hav:A1 W4 (D1.del (key c)) dec (cutO O c) (fun k=>wv.ownBlock=some k):=by
    have hM:∀ j:Nat,(∃ o,wr.heap[j]? = some o∧o.isCells=false)→∀ (A:Option Addr) (n:Nat) (zs:List Int),0<n→Vals wr A n (nums .i64 zs)→∀ a,A=some a→a.block≠j:=by
     intro j ⟨o,ho,hcl⟩ A n zs hn hv a ha e
     obtain⟨b',off,e',-,hcc⟩:=hv.2 hn
     rw [ha] at e'
     cases e'
     obtain⟨z,hz⟩:∃ z,(nums .i64 zs)[0]? = some z:=⟨_,List.getElem?_eq_getElem (by have:=hv.1;omega)⟩
     obtain⟨o',ho',hc'⟩:=cells_of_cell (hcc 0 z hz)
     have e:b'=j:=e
     rw [e,ho] at ho'
     cases ho'
     rw [hcl] at hc'
     cases hc'
    have hm1:∃ o,wr.heap[M1]? = some o∧o.isCells=false:=by obtain⟨es,clock,hb,-⟩:=h.f1.1;exact⟨_,hb,rfl⟩
    have hm3:∃ o,wr.heap[M3]? = some o∧o.isCells=false:=by obtain⟨es,clock,hb,-⟩:=h.f3.1;exact⟨_,hb,rfl⟩
    intro x hx
    obtain⟨A,k,q1,q2,q3⟩:=ha x hx
    have hpos:0<(dec x).length:=List.length_pos_iff.2 (hR.has x (h.fi.sub x (cutO_mem.1 hx).1))
    refine⟨A,k,q1,vals_grown (vals_grown (vals_grown q2 hg2 (fun a e e2=>hM _ hm3 A _ _ hpos q2 a e (by injection e2))) hg3 (fun a e e2=>hM _ hm1 A _ _ hpos q2 a e (by injection e2))) hg4 (fun a e e2=>(q3 a e).2 e2.symm),fun a e=>⟨Nat.lt_of_lt_of_le (q3 a e).1 (Nat.le_trans hs3 hg4.size),(q3 a e).2⟩⟩
   intro x hx
   obtain⟨A,k,q1,q2,q3⟩:=hav x hx
   obtain⟨A0,k0,p1,p2,p3⟩:=ha x hx
   refine⟨A,k,q1,q2,fun a e=>⟨(q3 a e).1,fun e2=>?_⟩⟩
   rcases hl4 with e3 | e3
   · exact (q3 a e).2 (e3.symm.trans e2)
   · rw [e3] at e2
     injection e2 with e2
     rw [p1] at q1
     injection q1 with q1
     injection q1 with q1 _ _
     subst q1
     have:=(p3 a e).1
     omega
 · rw [List.length_append]
   have e:nums .i64 (wk++us c)=nums .i64 wk++nums .i64 (us c):=by unfold nums;rw [List.map_append]
   rw [e]
   exact ho4
 · exact fi_done h.fi hR.all hR.has hc hno (fun x hx hd=>hR.use c x hx hd)
 · intro x hx
   rcases List.mem_append.1 hx with hx | hx
   · exact h.wfw x (List.mem_append_left _ hx)
   · exact (h.f2.row c).2 x hx
 · have h1:=h.few
   have h2:=toDo_cut (us:=us) hc
   rw [List.length_append,List.length_singleton] at h1
   rw [List.length_append]
   omega
 · have h1:=h.fe3
   have h2:=cutO_len h.f1.2.2.2 hc
   omega
 · have hb1:=h.bel.grown hg2 (by have:=h.bel.size;have:=hB.top;have:=hB.lo;have:=hB.m1;omega) (fun r e=>by injection e with e;have:=hB.lo;omega)
   have hb2:=hb1.grown hg3 (by have:=hb1.size;have:=hB.top;have:=hB.lo;have:=hB.m1;omega) (fun r e=>by injection e with e;have:=hB.lo;omega)
   exact hb2.grown hg4 (by have:=hb2.size;have:=hB.top;have:=hB.lo;have:=hB.m1;omega) (fun r e=>by have:=(hrow.lt r (hwv.trans e)).1;have:=hB.lo;have:=hB.m1;omega)
 · intro k o hk hc0 hk1 hk3
   have q0:=h.oth k o hk hc0 hk1 hk3
   have l0:=(Array.getElem?_eq_some_iff.1 q0).1
   have q2:=(hg2.block k l0 (fun e=>hk3 (by injection e))).trans q0
   have l2:=(Array.getElem?_eq_some_iff.1 q2).1
   have q3:=(hg3.block k l2 (fun e=>hk1 (by injection e))).trans q2
   have l3:=(Array.getElem?_eq_some_iff.1 q3).1
   refine (hg4.block k l3 (fun e=>?_)).trans q3
   rw [←hwv] at e
   rcases hrow.2 with ⟨e2,-⟩ | ⟨g,cap,cur,e2,-,hg,-⟩
   · rw [e2] at e;cases e
   · rw [e2] at e
     have e:k=g:=by injection e
     rw [←e,q0] at hg
     cases hg
     cases hc0
end
theorem upd_sz {W:World} {M m:Nat} {D:DataW Value} {d:Int} {k:Nat} (h:W.ownsMap Tryz.prog 3 (plainElem Tryz.prog 3) M m D) (hd:(Lit.int .i64 d).wf=true) (hm:m≤1000000) (hk:k≤1000000):∃ W',(Instr.mapUpdate 194 (.map (some M)) (.int .i64 d) (.int .i64 (k:Nat))).run Tryz.prog W=.ok () W'∧W'.ownsMap Tryz.prog 3 (plainElem Tryz.prog 3) M (m+1) (D.put (key d) (.lit (.int .i64 (k:Nat))))∧W.grownBy W' (some M):=
 h.update Cf.k3 Tryz.underlying194 (by unfold maxLen;omega) (keyI hd) (plainElem_int Tryz.underlying3 (wf_nat k (by omega)))
theorem fi_open {O:List Int} {ps:List Int} (h:isOpen O ps=false):∀ d∈ps,d∉O:=fun d hd hO=>by
 unfold isOpen at h
 rw [List.any_eq_false] at h
 exact h d hd (decide_eq_true hO)
theorem fi_shut {O:List Int} {ps:List Int} (h:isOpen O ps=true):∃ d∈ps,d∈O:=by
 unfold isOpen at h
 rw [List.any_eq_true] at h
 obtain⟨d,h1,h2⟩:=h
 exact⟨d,h1,of_decide_eq_true h2⟩
theorem look_szk {w:World} {ops:Array Oper} {rest:List Oper} {o:Oper} {a:Act} {Q:Exit→Act→World→Prop} (hg:o.guard=none) (m x:Operand) (hop:o.op=Op.lookup 194 m x false)
 (b n:Nat) (D:DataW Value) (sz:Int→Nat) (hm:a.eval m=.map (some b)) (hF:F3 w b n D sz) (c:Int) (hx:a.eval x=.int .i64 c) (hc:(Lit.int .i64 c).wf=true) (k:Nat) (hk:sz c=k)
 (hK:wpList Tryz.prog ops Q rest (a.put o.dst (.int .i64 (k:Nat))) w):wpList Tryz.prog ops Q (o::rest) a w:=
 look_sz hg m x hop b n D sz hm hF c hx hc (by rw [hk];exact hK)
theorem lenV_own {W:World} {base:Nat} {e:TypeId} {n:Nat} {v:Value} {vs:List Value} (h:W.ownsRow base e 1 v n vs):lenV v=n:=by
 obtain⟨A,c,rfl,-⟩:=own_vals h
 rfl
theorem undrew_grown {W W':World} {r:Option Nat} (h:W.drew.grownBy W' r):W.grownBy W' r:=⟨h.os,h.tape,h.output,h.size,h.block⟩
theorem snoc_of {l:List Int} (h:0<l.length):∃ wk c,l=wk ++ [c]:=⟨l.dropLast,l.getLast (List.ne_nil_of_length_pos h),(List.dropLast_concat_getLast _).symm⟩
set_option maxRecDepth 100000 in
set_option maxHeartbeats 4000000 in
theorem run98 (w:World) (b M1 M2 M3 base B0 n2 T N:Nat) (D2:DataW Value) (dec:Int→List Int) (K:List Int) (us:Int→List Int) (val:Int→Value) (n1 n3:Nat) (D1 D3:DataW Value) (O wk:List Int) (sz:Int→Nat) (wv:Value)
 (hB:RnB w b M1 M2 M3 base B0) (hR:RnF dec K us) (hS:RnS w b M1 M2 M3 base B0 n2 T N D2 dec K us val w n1 n3 D1 D3 O wk sz 0 wv) (hT:T≤100000000) (hN:N≤100000):
 Calls Tryz.prog 123 #[.pointer (some ⟨b,0,none⟩),wv] w (RunPost w b M1 M3 B0 dec K):=by
 have HI0:Hid (RnI w b M1 M2 M3 base B0 n2 T N D2 dec K us val wv (.int .i64 (0:Nat)) w):=Lib.hid ⟨n1,n3,D1,D3,O,wk,sz,0,rfl,hS⟩
 have HB:=Lib.hid hB
 have HR:=Lib.hid hR
 clear hS hB hR
 go_enter Tryz.func123,Tryz.ntmps123
 go_wp2
 go_loopw [1,5] (fun v l wr=>RnI w b M1 M2 M3 base B0 n2 T N D2 dec K us val v l wr) (fun v _ wr=>lenV v+muW us M1 wr)
 case atStart=>exact HI0.out
 case round=>
  clear HI0
  obtain⟨n1,n3,D1,D3,O,wk0,sz,lg,rfl,hS⟩:=hrel
  have hlg:=hS.fi.lg5
  have h5:=hS.fi.five
  have hmu:=muW_is (us:=us) hS.f1
  rcases Nat.eq_zero_or_pos wk0.length with h0 | hpos
  · obtain rfl:wk0 = []:=List.eq_nil_of_length_eq_zero h0
    obtain⟨A,ca,rfl,-⟩:=own_vals hS.row
    have R:Hid (RunPost w b M1 M3 B0 dec K (.returned (.int .i64 (lg:Nat))) wr):=Lib.hid ⟨n1,D1,O,sz,lg,rfl,⟨hS.f1,hS.fi⟩,hS.cel.1,hS.bel,hS.oth⟩
    clear hS hmu h5
    simp only [List.length_nil]
    go_wp2
    go_ret
    exact R.out
  · obtain⟨wk,c,rfl⟩:=snoc_of hpos
    clear hpos
    obtain⟨n,hn⟩:∃ n,wk.length=n:=⟨_,rfl⟩
    have hrow:=hS.row
    rw [List.length_append,List.length_singleton,hn] at hrow
    have hsep:=hS.sep
    obtain⟨g,cap,rfl,hg,hcap⟩:∃ g cap,u1=.slice (some ⟨g,0,none⟩) (n+1) cap∧g<wr.heap.size∧n+1≤cap:=by
     rcases hrow.2 with ⟨-,h⟩ | ⟨g,cap,cur,e,-,h2,h3,-⟩
     · omega
     · exact⟨g,cap,e,(Array.getElem?_eq_some_iff.1 h2).1,h3⟩
    have kc:wr.cell? ⟨g,n,none⟩=some (.int .i64 c):=by
     have:=hrow.cells (g:=g) rfl n (.int .i64 c) (by unfold nums;rw [List.map_append,List.getElem?_append_right (by simp [hn])];simp [hn])
     rwa [add_at,Nat.zero_add] at this
    have hfew:=hS.few
    have hfe3:=hS.fe3
    rw [List.length_append,List.length_singleton,hn] at hfew
    have hnT:n≤100000000:=by omega
    have hwc:=hS.wfw c (by simp)
    obtain⟨c0,c1,c2⟩:=hS.cel
    have HWC:=Lib.hid hwc
    by_cases hcO:c∈O
    · obtain⟨A,ka,hat,hv,hA⟩:=hS.a1 c hcO
      have HHS:Hid (Maps.has D1 (.int .i64 c)=true):=Lib.hid (by rw [show Maps.has D1 (.int .i64 c)=decide (c∈O) from hS.f1.2.1 c];exact decide_eq_true hcO)
      have HAT:Hid (D1.atKey (.int .i64 c) (.held (.slice none 0 0))=.held (.slice A (dec c).length ka)):=Lib.hid hat
      have c131:=any131 b M1 n1 (dec c).length ka D1 dec O (dec c) _ A wr c0 hS.f1 hS.a1 hv (HR.out.few c) (HR.out.wfd c)
      have HO1:=Lib.hid hS.f1.1
      by_cases hop:isOpen O (dec c)=true
      · rw [hop] at c131
        have R:Hid (RnI w b M1 M2 M3 base B0 n2 T N D2 dec K us val (.slice (some ⟨g,0,none⟩) n cap) (.int .i64 (lg:Nat)) wr):=Lib.hid ⟨n1,n3,D1,D3,O,wk,sz,lg,rfl,hS.gone hn (fi_later hS.fi (fi_shut hop))⟩
        obtain⟨dl,hdl⟩:∃ x,(dec c).length=x:=⟨_,rfl⟩
        rw [hdl] at HAT c131
        clear hS hat hv hA hcO hop hmu h5 hrow hsep hdl hwc hfew hfe3
        go_wp2_with (first
         | (at_lookup;refine Cf.look_tok rfl _ _ rfl M1 n1 D1 rfl HO1.out c rfl HWC.out _ true HAT.out HHS.out ?_)
         | (go_at_call 158;(with_reducible refine c131.mono ?_);rintro e w1 ⟨rfl,rfl⟩))
        go_roundw
        case rel=>exact R.out
        case measure=>simp [lenV]
      · have hop0:isOpen O (dec c)=false:=by simpa using hop
        rw [hop0] at c131
        have hno:=fi_open hop0
        obtain⟨s,hs⟩:∃ s,sizeS sz (dec c)=s:=⟨_,rfl⟩
        have hs5:s≤5:=by rw [←hs];unfold sizeS;omega
        have c132:Calls Tryz.prog 159 #[.pointer (some ⟨b,0,none⟩),.slice A (dec c).length ka] wr.drew fun e w'=>e=.returned (.int .i64 (s:Nat))∧wr.drew=w':=by
         rw [←hs]
         exact size132 b M3 n3 (dec c).length ka D3 sz (dec c) A wr.drew c2 ⟨hS.f3.1.drew,hS.f3.2⟩ h5 (hv.below (below_drew (Below.refl _ _))) (HR.out.few c) (HR.out.wfd c)
        obtain⟨W2,hu2,ho2,hg2d⟩:=upd_sz (W:=wr.drew) (d:=c) (k:=s) hS.f3.1.drew hwc (by omega) (by omega)
        have hg2:wr.grownBy W2 (some M3):=undrew_grown hg2d
        obtain⟨⟨n12,n13,n23⟩,nb1,nb2,nb3⟩:=HB.out.ne
        have d0:W2.cell? ⟨b,0,none⟩=some (.map (some M1)):=hg2.cell (a:=⟨b,0,none⟩) c0 (fun e=>nb3 (by injection e))
        have d1:W2.cell? ⟨b,1,none⟩=some (.map (some M2)):=hg2.cell (a:=⟨b,1,none⟩) c1 (fun e=>nb3 (by injection e))
        have d2:W2.cell? ⟨b,2,none⟩=some (.map (some M3)):=hg2.cell (a:=⟨b,2,none⟩) c2 (fun e=>nb3 (by injection e))
        have HF3:Hid (F3 W2 M3 (n3+1) (D3.put (key c) (.lit (.int .i64 (s:Nat)))) (putS sz c s)∧putS sz c s c=s):=Lib.hid ⟨f3_put hS.f3 ho2,putS_same _ _ _⟩
        have HO2:Hid (W2.ownsMap Tryz.prog 3 Cf.tokE M1 n1 D1):=Lib.hid (hS.f1.1.kept hg2 (fun e=>n13 (by injection e)))
        obtain⟨A',ca',hval,-,-,-⟩:=own_vals (hS.f2.row c).1
        have HX:Hid (∀ W3:World,W3.ownsMap Tryz.prog 3 Cf.tokE M1 n1 (D1.del (key c))→W2.mapTurned W3 M1→W3.cell? ⟨b,1,none⟩=some (.map (some M2))∧(Instr.lookup 183 (.map (some M2)) (.int .i64 c) false).run Tryz.prog W3=.ok (.slice A' (us c).length ca') W3 ∧
         ∃ v' W4,(Builtin.append_ #[25,25] 31 #[.slice (some ⟨g,0,none⟩) n cap,.slice A' (us c).length ca']).run Tryz.prog W3=.ok v' W4∧Hid (RnI w b M1 M2 M3 base B0 n2 T N D2 dec K us val v' (.int .i64 (max lg s:Nat)) W4∧lenV v'+muW us M1 W4<n+1+muW us M1 wr)):=Lib.hid (by
         intro W3 ho3 ht3
         have hg3:=ht3.grown
         have hf2:F2 W3 M2 n2 base D2 us val:=(hS.f2.kept hg2 (fun e=>n23 (by injection e)) (fun x=>none_ne (hS.f2.row x).1 HB.out.m3)).kept hg3 (fun e=>n12 (by injection e with e;exact e.symm)) (fun x=>none_ne (hS.f2.row x).1 HB.out.m1)
         refine⟨hg3.cell (a:=⟨b,1,none⟩) d1 (fun e=>nb1 (by injection e)),by rw [←hval];exact look_at hf2.own hwc (hf2.at2 c),?_⟩
         have hpop:wr.ownsRow base 3 1 (.slice (some ⟨g,0,none⟩) n cap) n (nums .i64 wk):=own_pop (z:=.int .i64 c) (by have:=hrow;simpa [nums] using this)
         have hpop3:=(hpop.kept hg2 (none_ne hpop HB.out.m3)).kept hg3 (none_ne hpop HB.out.m1)
         have hrc:=(hf2.row c).1
         rw [hval] at hrc
         obtain⟨A2,c2',e2,-,hvv,-⟩:=own_vals hrc
         cases e2
         have hul:=HR.out.low c
         obtain⟨v',W4,hr4,ho4,hg4,hl4⟩:=run_append_ints_at (W:=W3) base _ n _ hpop3 A' (us c).length ca' (us c) hvv (by omega) (by have h1:=HB.out.top;have h2:=hS.bel.size;have h3:=hg2.size;have h4:=hg3.size;exact Nat.le_trans (Nat.le_trans h1 h2) (Nat.le_trans h3 h4)) 31
         have hD:=RnS.done (W2:=W2) (W3:=W3) (W4:=W4) (v':=v') (wv':=.slice (some ⟨g,0,none⟩) n cap) HB.out HR.out hS (by rw [hn];exact hpop) rfl hcO hno (by rw [hs];exact ho2) hg2 ho3 hg3 (by rw [hn];exact ho4) hg4 hl4
         rw [hs] at hD
         refine⟨v',W4,hr4,Lib.hid ⟨⟨n1,n3+1,_,_,_,_,_,_,rfl,hD⟩,?_⟩⟩
         rw [muW_is hD.f1,hmu,lenV_own ho4]
         have:=toDo_cut (us:=us) hcO
         omega)
        obtain⟨dl,hdl⟩:∃ x,(dec c).length=x:=⟨_,rfl⟩
        obtain⟨ul,hul⟩:∃ x,(us c).length=x:=⟨_,rfl⟩
        rw [hdl] at HAT c131 c132
        rw [hul] at HX
        clear hS hat hv hA hcO hop hop0 hmu h5 hrow hsep hdl hul hwc hfew hfe3 hno hs ho2 hg2 hg2d hval n12 n13 n23 nb1 nb2 nb3
        have hcd2:wr.drew.cell? ⟨b,2,none⟩=some (.map (some M3)):=c2
        have HM:Hid (max (lg:Int) (s:Int)=((max lg s:Nat):Int)):=Lib.hid (by omega)
        go_wp2_with (first
         | (at_lookup;refine Cf.look_tok rfl _ _ rfl M1 n1 D1 rfl HO1.out c rfl HWC.out _ true HAT.out HHS.out ?_)
         | (go_at_call 158;(with_reducible refine c131.mono ?_);rintro e w1 ⟨rfl,rfl⟩))
        go_region_held3 (fun w'=>w'.cell? ⟨b,2,none⟩=some (.map (some M3))) (first | exact hcd2 | exact d2)
         ((go_simp;go_at_call 159;(with_reducible refine c132.mono ?_);rintro e w1 ⟨rfl,rfl⟩))
        all_goals
         go_wp2_with (first
          | (at_lookup;refine look_szk rfl _ _ rfl M3 (n3+1) _ _ rfl HF3.out.1 c rfl HWC.out s HF3.out.2 ?_)
          | (at_delete;refine wpList_delete_own _ rfl _ _ 183 3 rfl 25 Cf.k3 Tryz.underlying183 Cf.tokE M1 n1 D1 rfl HO2.out _ _ rfl (Cf.key3 HWC.out) ?_;intro W3 ho3 ht3;obtain⟨e1,lk3,v',W4,hr4,HE⟩:=HX.out W3 ho3 ht3;clear HX ho3 ht3)
          | (at_builtin;refine Lib.wpList_append_run _ rfl _ _ _ _ rfl _ _ rfl rfl _ _ hr4 ?_))
         go_roundw
         case rel=>rw [HM.out];exact HE.out.1
         case measure=>exact HE.out.2
    · have hh0:Maps.has D1 (.int .i64 c)=false:=by rw [show Maps.has D1 (.int .i64 c)=decide (c∈O) from hS.f1.2.1 c];exact decide_eq_false hcO
      have HAT:=Lib.hid (Maps.atKey_of_not_has hh0 (.held (.slice none 0 0)))
      have HHS:=Lib.hid hh0
      have HO1:=Lib.hid hS.f1.1
      have R:Hid (RnI w b M1 M2 M3 base B0 n2 T N D2 dec K us val (.slice (some ⟨g,0,none⟩) n cap) (.int .i64 (lg:Nat)) wr):=Lib.hid ⟨n1,n3,D1,D3,O,wk,sz,lg,rfl,hS.gone hn (fi_gone hS.fi hcO)⟩
      clear hS hcO hmu h5 hrow hsep hwc hfew hfe3 hh0
      go_wp2_with (at_lookup;refine Cf.look_tok rfl _ _ rfl M1 n1 D1 rfl HO1.out c rfl HWC.out _ false HAT.out HHS.out ?_)
      go_roundw
      case rel=>exact R.out
      case measure=>simp [lenV]
end Go.Proofs.YtbkgbhlmeeodgaaGreatDoor
