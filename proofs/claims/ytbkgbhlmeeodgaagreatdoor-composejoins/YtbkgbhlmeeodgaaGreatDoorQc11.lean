/- A part. -/
import Derived.Test.YtbkgbhlmeeodgaaGreatDoorQc10
namespace Go.Proofs.YtbkgbhlmeeodgaaGreatDoor
open Go.RowKit
def PtV (v:Value):Prop:=(∃ p,v=.pointer p)∨∃ m,v=.map m
structure Odd (W:World) (B:Nat):Prop where
 obj:∃ v,W.cell? ⟨B,0,none⟩=some v
 only:∀ i v,W.cell? ⟨B,i,none⟩=some v→PtV v
theorem Odd.lt {W:World} {B:Nat} (h:Odd W B):B<W.heap.size:=by obtain⟨v,hv⟩:=h.obj;exact World.block_lt_of_cell? W _ hv
theorem Odd.below {W W':World} {B n:Nat} (h:Odd W B) (hn:B<n) (hb:Below n W W'):Odd W' B:=by
 refine⟨?_,fun i v hv=>h.only i v ((hb.cell (p:=⟨B,i,none⟩) hn).symm.trans hv)⟩
 obtain⟨v,hv⟩:=h.obj
 exact⟨v,(hb.cell (p:=⟨B,0,none⟩) hn).trans hv⟩
theorem Odd.set {W:World} {B k:Nat} {u v:Value} (h:Odd W B) (hk:W.cell? ⟨B,k,none⟩=some u) (hv:PtV v):Odd (W.setCell ⟨B,k,none⟩ v) B:=by
 have hc:∀ i,i≠k→(W.setCell ⟨B,k,none⟩ v).cell? ⟨B,i,none⟩=W.cell? ⟨B,i,none⟩:=fun i hi=>World.cell?_setCell_other _ _ _ _ (by intro q;injection q with q1 q2;exact hi q2.symm)
 have hs:(W.setCell ⟨B,k,none⟩ v).cell? ⟨B,k,none⟩=some v:=World.cell?_setCell_same _ _ _ hk
 refine⟨?_,fun i x hx=>?_⟩
 · by_cases e:0=k
   · subst e;exact⟨v,hs⟩
   · obtain⟨x,hx⟩:=h.obj
     exact⟨x,(hc 0 e).trans hx⟩
 · by_cases e:i=k
   · subst e;rw [hs] at hx;injection hx with hx;exact hx▸hv
   · rw [hc i e] at hx;exact h.only i x hx
section
variable {W W':World} {B:Nat}
theorem Odd.no_int (ho:Odd W B) {i:Nat} {t:IntKind} {z:Int} (h:W.cell? ⟨B,i,none⟩=some (.int t z)):False:=by
 rcases ho.only i _ h with ⟨p,e⟩ | ⟨m,e⟩ <;> cases e
theorem Odd.no_slice (ho:Odd W B) {i:Nat} {A:Option Addr} {n c:Nat} (h:W.cell? ⟨B,i,none⟩=some (.slice A n c)):False:=by
 rcases ho.only i _ h with ⟨p,e⟩ | ⟨m,e⟩ <;> cases e
theorem Odd.map_ne {H:Type} {k:TypeId} {R:Value→Option (DataW H×List MemPlace)} {m n:Nat} {D:DataW H} (ho:Odd W B) (h:W.ownsMap Tryz.prog k R m n D):m≠B:=by
 rintro rfl
 obtain⟨v,hv⟩:=ho.obj
 obtain⟨es,clock,hb,-⟩:=h
 simp [World.cell?,hb] at hv
theorem owns_chg {H:Type} {k:TypeId} {R:Value→Option (DataW H×List MemPlace)} {m n:Nat} {D:DataW H} (hc:Chg B W W') (hne:m≠B) (h:W.ownsMap Tryz.prog k R m n D):W'.ownsMap Tryz.prog k R m n D:=by
 obtain⟨es,clock,hb,F⟩:=h
 exact⟨es,clock,(hc.2 m hne).trans hb,F⟩
theorem vals_odd {A:Option Addr} {n:Nat} {zs:List Int} (ho:Odd W B) (hc:Chg B W W') (h:Vals W A n (nums .i64 zs)):Vals W' A n (nums .i64 zs):=by
 refine⟨h.1,fun hn=>?_⟩
 obtain⟨b,off,rfl,hlt,hv⟩:=h.2 hn
 have hl:zs.length=n:=by have:=h.1;rwa [nums_len] at this
 have hne:b≠B:=by
  rintro rfl
  obtain⟨z,hz⟩:∃ z,zs[0]? = some z:=⟨_,List.getElem?_eq_getElem (by omega)⟩
  exact ho.no_int (hv 0 (.int .i64 z) (by unfold nums;rw [List.getElem?_map,hz];rfl))
 exact⟨b,off,rfl,by rw [hc.1];exact hlt,fun j v hj=>(hc.cell (p:=⟨b,off+j,none⟩) hne).trans (hv j v hj)⟩
theorem strs_odd {A:Option Addr} {n:Nat} {zs:List (List UInt8)} (ho:Odd W B) (hc:Chg B W W') (h:Vals W A n (strs zs)):Vals W' A n (strs zs):=by
 refine⟨h.1,fun hn=>?_⟩
 obtain⟨b,off,rfl,hlt,hv⟩:=h.2 hn
 have hl:zs.length=n:=by have:=h.1;rwa [strs_length] at this
 have hne:b≠B:=by
  rintro rfl
  obtain⟨z,hz⟩:∃ z,zs[0]? = some z:=⟨_,List.getElem?_eq_getElem (by omega)⟩
  rcases ho.only _ _ (hv 0 (.string (bs z)) (by unfold strs;rw [List.getElem?_map,hz];rfl)) with ⟨p,e⟩ | ⟨m,e⟩ <;> cases e
 exact⟨b,off,rfl,by rw [hc.1];exact hlt,fun j v hj=>(hc.cell (p:=⟨b,off+j,none⟩) hne).trans (hv j v hj)⟩
theorem rat_odd {A:Option Addr} {n:Nat} {ls:List Uc.Rw} (ho:Odd W B) (hc:Chg B W W') (h:Uc.RAt W A n ls):Uc.RAt W' A n ls:=by
 refine⟨h.1,fun hn=>?_⟩
 obtain⟨b,off,rfl,hlt,hv⟩:=h.2 hn
 have hl:=h.1
 have hne:b≠B:=by
  rintro rfl
  obtain⟨z,hz⟩:∃ z,ls[0]? = some z:=⟨_,List.getElem?_eq_getElem (by omega)⟩
  exact ho.no_int (hv 0 z hz).1
 refine⟨b,off,rfl,by rw [hc.1];exact hlt,fun j s hj=>?_⟩
 obtain⟨h1,h2,h3,h4,h5,h6⟩:=hv j s hj
 exact⟨(hc.cell (p:=⟨b,_,none⟩) hne).trans h1,(hc.cell (p:=⟨b,_,none⟩) hne).trans h2,(hc.cell (p:=⟨b,_,none⟩) hne).trans h3,(hc.cell (p:=⟨b,_,none⟩) hne).trans h4,(hc.cell (p:=⟨b,_,none⟩) hne).trans h5,(hc.cell (p:=⟨b,_,none⟩) hne).trans h6⟩
theorem sat_odd {A:Option Addr} {n:Nat} {ls:List Pq.Sp} (ho:Odd W B) (hc:Chg B W W') (h:Pq.SAt W A n ls):Pq.SAt W' A n ls:=by
 refine⟨h.1,fun hn=>?_⟩
 obtain⟨b,off,rfl,hlt,hv⟩:=h.2 hn
 have hl:=h.1
 have hne:b≠B:=by
  rintro rfl
  obtain⟨z,hz⟩:∃ z,ls[0]? = some z:=⟨_,List.getElem?_eq_getElem (by omega)⟩
  exact ho.no_int (hv 0 z hz).1
 refine⟨b,off,rfl,by rw [hc.1];exact hlt,fun j s hj=>?_⟩
 obtain⟨h1,h2,h3⟩:=hv j s hj
 exact⟨(hc.cell (p:=⟨b,_,none⟩) hne).trans h1,(hc.cell (p:=⟨b,_,none⟩) hne).trans h2,(hc.cell (p:=⟨b,_,none⟩) hne).trans h3⟩
def UniT (W:World) (p:Option Addr) (ps:List Uc.Pr):Prop:=∃ A c ls,Uc.TIn W p A c ls∧Uc.Ist W ls ps
def PrpT (W:World) (p:Option Addr) (ls:List Pq.Sp):Prop:=∃ A c,Pq.TIn W p A c ls
theorem uniT_odd {p:Option Addr} {ps:List Uc.Pr} (ho:Odd W B) (hc:Chg B W W') (h:UniT W p ps):UniT W' p ps:=by
 obtain⟨A,c,ls,h1,h2⟩:=h
 refine⟨A,c,ls,?_,Uc.Ist.of (fun _ _ q=>⟨q.1,q.2.1,q.2.2.1,q.2.2.2.1,q.2.2.2.2.1,q.2.2.2.2.2.1,vals_odd ho hc q.2.2.2.2.2.2⟩) h2⟩
 rcases h1 with h | ⟨b,rfl,hlt,hs,hr⟩
 · exact .inl h
 · have hne:b≠B:=by rintro rfl;exact ho.no_slice hs
   exact .inr ⟨b,rfl,by rw [hc.1];exact hlt,(hc.cell (p:=⟨b,0,none⟩) hne).trans hs,rat_odd ho hc hr⟩
theorem prpT_odd {p:Option Addr} {ls:List Pq.Sp} (ho:Odd W B) (hc:Chg B W W') (h:PrpT W p ls):PrpT W' p ls:=by
 obtain⟨A,c,h1⟩:=h
 refine⟨A,c,?_⟩
 rcases h1 with h | ⟨b,rfl,hlt,hs,hr,hl⟩
 · exact .inl h
 · have hne:b≠B:=by rintro rfl;exact ho.no_slice hs
   exact .inr ⟨b,rfl,by rw [hc.1];exact hlt,(hc.cell (p:=⟨b,0,none⟩) hne).trans hs,sat_odd ho hc hr,hl⟩
theorem ct_odd {p:Option Addr} {cf:List Cf.Pp} (ho:Odd W B) (hc:Chg B W W') (h:Cf.CT W p cf):Cf.CT W' p cf:=by
 obtain⟨A,k,h⟩:=h
 refine⟨A,k,?_⟩
 rcases h with h | ⟨b,mb,n,D,rfl,⟨h1,h2⟩,⟨h3,h4,h5⟩,h6⟩
 · exact .inl h
 · have hne:b≠B:=by rintro rfl;exact ho.no_slice h2
   exact .inr ⟨b,mb,n,D,rfl,⟨(hc.cell (p:=⟨b,0,none⟩) hne).trans h1,(hc.cell (p:=⟨b,1,none⟩) hne).trans h2⟩,⟨vals_odd ho hc h3,owns_chg hc (ho.map_ne h4) h4,⟨h5.1,fun r hr=>by obtain⟨A,k,q1,q2,q3⟩:=h5.2 r hr;exact⟨A,k,q1,vals_odd ho hc q2,q3⟩⟩⟩,h6⟩
theorem uniT_below {p:Option Addr} {ps:List Uc.Pr} (hb:Below W.heap.size W W') (h:UniT W p ps):UniT W' p ps:=by
 obtain⟨A,c,ls,h1,h2⟩:=h
 exact⟨A,c,ls,h1.below hb,h2.below hb⟩
theorem prpT_below {p:Option Addr} {ls:List Pq.Sp} (hb:Below W.heap.size W W') (h:PrpT W p ls):PrpT W' p ls:=by
 obtain⟨A,c,h1⟩:=h
 exact⟨A,c,h1.below hb⟩
theorem pf_set {b:Nat} {v:Value} {ps:List Uc.Pr} {sp:Nat→List Pq.Sp} {cf:List Cf.Pp} (ho:Odd W b) (h:PF W b ps sp cf):PF (W.setCell ⟨b,7,none⟩ v) b ps sp cf:=by
 have hc:=chg_set W b 7 v
 have cc:∀ {i:Nat} {x:Value},i≠7→W.cell? ⟨b,i,none⟩=some x→(W.setCell ⟨b,7,none⟩ v).cell? ⟨b,i,none⟩=some x:=fun hi hx=>(World.cell?_setCell_other _ _ _ _ (by intro q;injection q with q1 q2;exact hi q2.symm)).trans hx
 obtain⟨p,A,c,ls,h1,h2,h3⟩:=h.uni
 obtain⟨A',c',ls',h2',h3'⟩:=uniT_odd ho hc ⟨A,c,ls,h2,h3⟩
 refine⟨⟨p,A',c',ls',cc (by omega) h1,h2',h3'⟩,fun i hi=>?_,?_⟩
 · obtain⟨p,A,c,k1,k2⟩:=h.prs i hi
   obtain⟨A',c',k2'⟩:=prpT_odd ho hc ⟨A,c,k2⟩
   exact⟨p,A',c',cc (by omega) k1,k2'⟩
 · obtain⟨p,k1,k2⟩:=h.cnf
   exact⟨p,cc (by omega) k1,ct_odd ho hc k2⟩
end
end Go.Proofs.YtbkgbhlmeeodgaaGreatDoor
namespace Go.Proofs.YtbkgbhlmeeodgaaGreatDoor
open Go.RowKit Go.Shelf
attribute [local go_sem] Oper.semAt_some
def HanT (w:World):Prop:=(w.cell? ⟨0,0,none⟩=some (.int .i64 4352)∧w.cell? ⟨0,1,none⟩=some (.int .i64 4370)∧w.cell? ⟨0,2,none⟩=some (.int .i64 4449)∧w.cell? ⟨0,3,none⟩=some (.int .i64 4469))∧(w.cell? ⟨0,4,none⟩=some (.int .i64 4520)∧w.cell? ⟨0,5,none⟩=some (.int .i64 4546)∧w.cell? ⟨0,6,none⟩=some (.int .i64 44032)∧w.cell? ⟨0,7,none⟩=some (.int .i64 55203))
theorem HanT.lt {w:World} (h:HanT w):0<w.heap.size:=World.block_lt_of_cell? w _ h.1.1
theorem HanT.below {w w':World} {n:Nat} (h:HanT w) (hn:0<n) (hb:Below n w w'):HanT w':=
 have c:∀ i,w'.cell? ⟨0,i,none⟩=w.cell? ⟨0,i,none⟩:=fun i=>hb.cell (p:=⟨0,i,none⟩) hn
 ⟨⟨(c _).trans h.1.1,(c _).trans h.1.2.1,(c _).trans h.1.2.2.1,(c _).trans h.1.2.2.2⟩,(c _).trans h.2.1,(c _).trans h.2.2.1,(c _).trans h.2.2.2.1,(c _).trans h.2.2.2.2⟩
def inH (a b:Int):Nat→Prop
 | 0=>a≤4370∧4352≤b
 | 1=>a≤4469∧4449≤b
 | 2=>a≤4546∧4520≤b
 | _=>a≤55203∧44032≤b
instance (a b:Int) (k:Nat):Decidable (inH a b k):=by unfold inH;split <;> infer_instance
def spoB (c:Int) (n:Nat) (a b:Int):Bool:=decide ((¬c=0∨¬n=0)∧(inH a b 0∨inH a b 1∨inH a b 2∨inH a b 3))
def SpI (a b:Int) (W:World) (i:Value) (wr:World):Prop:=∃ k:Nat,(i=.int .i64 k∧k≤4)∧(∀ j,j<k→¬inH a b j)∧Below W.heap.size W wr
theorem sp_hit {c:Int} {n:Nat} {a b:Int} {k:Nat} (hc:¬c=0∨¬n=0) (hk:k<4) (h:inH a b k):spoB c n a b=true:=by
 refine decide_eq_true ⟨hc,?_⟩
 match k,hk,h with
 | 0,_,h=>exact .inl h
 | 1,_,h=>exact .inr (.inl h)
 | 2,_,h=>exact .inr (.inr (.inl h))
 | 3,_,h=>exact .inr (.inr (.inr h))
theorem sp_none {c:Int} {n:Nat} {a b:Int} (h:∀ j,j<4→¬inH a b j):spoB c n a b=false:=
 decide_eq_false (fun ⟨_,hh⟩=>by rcases hh with h1 | h1 | h1 | h1 <;> exact h _ (by omega) h1)
theorem sp_idle {c:Int} {n:Nat} {a b:Int} (h1:c=0) (h2:n=0):spoB c n a b=false:=decide_eq_false (fun ⟨hh,_⟩=>hh.elim (fun x=>x h1) (fun x=>x h2))
theorem sp_bad {r:Uc.Pr} (h:r.a≤r.b):spoB r.ccc r.dec.length r.a r.b=decide (badK r):=by
 unfold spoB badK
 refine decide_eq_decide.2 ?_
 have e:(inH r.a r.b 0∨inH r.a r.b 1∨inH r.a r.b 2∨inH r.a r.b 3)↔touB r.a r.b=true:=by
  unfold touB korB kors inH
  simp only [Bool.or_eq_true,decide_eq_true_eq,List.any_cons,List.any_nil,Bool.or_false]
  omega
 rw [e]
 constructor
 · rintro⟨h1,h2⟩;exact⟨by omega,h2⟩
 · rintro⟨h1,h2⟩;exact⟨by omega,h2⟩
theorem han0 (W:World):(Instr.index 193 (.agg #[.int .i64 4352,.int .i64 4370,.int .i64 4449,.int .i64 4469,.int .i64 4520,.int .i64 4546,.int .i64 44032,.int .i64 55203]) (.int .i64 0)).run Tryz.prog W=.ok (.agg #[.int .i64 4352,.int .i64 4370]) W:=by kernel_rfl
theorem han1 (W:World):(Instr.index 193 (.agg #[.int .i64 4352,.int .i64 4370,.int .i64 4449,.int .i64 4469,.int .i64 4520,.int .i64 4546,.int .i64 44032,.int .i64 55203]) (.int .i64 1)).run Tryz.prog W=.ok (.agg #[.int .i64 4449,.int .i64 4469]) W:=by kernel_rfl
theorem han2 (W:World):(Instr.index 193 (.agg #[.int .i64 4352,.int .i64 4370,.int .i64 4449,.int .i64 4469,.int .i64 4520,.int .i64 4546,.int .i64 44032,.int .i64 55203]) (.int .i64 2)).run Tryz.prog W=.ok (.agg #[.int .i64 4520,.int .i64 4546]) W:=by kernel_rfl
theorem han3 (W:World):(Instr.index 193 (.agg #[.int .i64 4352,.int .i64 4370,.int .i64 4449,.int .i64 4469,.int .i64 4520,.int .i64 4546,.int .i64 44032,.int .i64 55203]) (.int .i64 3)).run Tryz.prog W=.ok (.agg #[.int .i64 44032,.int .i64 55203]) W:=by kernel_rfl
set_option maxRecDepth 100000 in
set_option maxHeartbeats 4000000 in
theorem spoils72 (s:Uc.Rw) (w:World) (hH:HanT w):Calls Tryz.prog 81 #[Uc.rwV s] w fun e w'=>e=.returned (.bool (spoB s.ccc s.dm s.a s.b))∧Below w.heap.size w w':=by
 obtain⟨T,hT⟩:∃ T,bs s.gc=T:=⟨_,rfl⟩
 obtain⟨U,hU⟩:∃ T,bs s.bd=T:=⟨_,rfl⟩
 unfold Uc.rwV
 rw [hT,hU]
 obtain⟨a,ha⟩:∃ x,s.a=x:=⟨_,rfl⟩
 obtain⟨b,hb⟩:∃ x,s.b=x:=⟨_,rfl⟩
 obtain⟨c,hc⟩:∃ x,s.ccc=x:=⟨_,rfl⟩
 obtain⟨dp,hdp⟩:∃ x,s.dp=x:=⟨_,rfl⟩
 obtain⟨dm,hdm⟩:∃ x,s.dm=x:=⟨_,rfl⟩
 obtain⟨dc,hdc⟩:∃ x,s.dc=x:=⟨_,rfl⟩
 rw [ha,hb,hc,hdp,hdm,hdc]
 have hh0:=hH.lt
 have x0:=han0
 have x1:=han1
 have x2:=han2
 have x3:=han3
 have hb0:Below w.heap.size w (w.alloc (.cells #[.int .i64 a,.int .i64 b,.string T,.int .i64 c,.string U,.slice dp dm dc] 65)):=(Below.refl _ _).alloc (Nat.le_refl _) _
 obtain⟨⟨g0,g1,g2,g3⟩,g4,g5,g6,g7⟩:=hH
 have hne:¬w.heap.size=0:=by omega
 clear ha hb hc hdp hdm hdc hT hU
 by_cases hz:c=0∧dm=0
 · obtain⟨rfl,rfl⟩:=hz
   have HR:Hid (spoB 0 0 a b=false):=Lib.hid (sp_idle rfl rfl)
   have HB:=Lib.hid hb0
   clear hb0
   go_enter Tryz.func81,Tryz.ntmps81
   go_wp2
   go_ret
   exact⟨by rw [HR.out];rfl,HB.out⟩
 · have HZ:Hid (¬c=0∨¬dm=0):=Lib.hid (by omega)
   have HB:=Lib.hid hb0
   have HI0:Hid (SpI a b w (.int .i64 (0:Nat)) (w.alloc (.cells #[.int .i64 a,.int .i64 b,.string T,.int .i64 c,.string U,.slice dp dm dc] 65))):=Lib.hid ⟨0,⟨rfl,by omega⟩,fun j hj=>absurd hj (by omega),hb0⟩
   clear hb0
   have hways:(¬c=0∧(c==0)=false)∨((c==0)=true∧¬dm=0):=by
    by_cases h:c=0
    · exact .inr ⟨by rw [h];rfl,by omega⟩
    · exact .inl ⟨h,beq_false_of_ne h⟩
   clear hz HB
   rcases hways with ⟨h1,h2⟩ | ⟨h2,h1⟩
   all_goals
    go_enter Tryz.func81,Tryz.ntmps81
    go_wp2
    obtain⟨w1,hw1⟩:∃ w1,w.alloc (.cells #[.int .i64 a,.int .i64 b,.string T,.int .i64 c,.string U,.slice dp dm dc] 65)=w1:=⟨_,rfl⟩
    have hs1:w1.heap.size=w.heap.size+1:=by rw [←hw1];simp
    have b0:w1.cell? ⟨w.heap.size,0,none⟩=some (.int .i64 a):=by rw [←hw1];simp
    have b1:w1.cell? ⟨w.heap.size,1,none⟩=some (.int .i64 b):=by rw [←hw1];simp
    rw [hw1] at HI0 ⊢
    have HS:=Lib.hid (And.intro hs1 (And.intro b0 b1))
    have HBW:Hid (Below w.heap.size w w1):=Lib.hid (HI0.out.choose_spec.2.2)
    clear g0 g1 g2 g3 g4 g5 g6 g7 hw1 hs1 b0 b1
    go_loopw [15] (fun i wr=>SpI a b w1 i wr) (fun i _=>4-(intOf i).toNat)
    case atStart=>exact⟨0,⟨rfl,by omega⟩,fun j hj=>absurd hj (by omega),Below.refl _ _⟩
    case round=>
     clear HI0
     obtain⟨k,⟨rfl,hk⟩,hno,hb⟩:=hrel
     obtain⟨hs1,b0,b1⟩:=HS.out
     have e0:wr.cell? ⟨w.heap.size,0,none⟩=some (.int .i64 a):=(hb.cell (p:=⟨w.heap.size,0,none⟩) (show w.heap.size<w1.heap.size by omega)).trans b0
     have e1:wr.cell? ⟨w.heap.size,1,none⟩=some (.int .i64 b):=(hb.cell (p:=⟨w.heap.size,1,none⟩) (show w.heap.size<w1.heap.size by omega)).trans b1
     have hlr:w.heap.size<wr.heap.size:=World.block_lt_of_cell? wr _ e0
     have HW:=Lib.hid (And.intro hb (And.intro hno (HBW.out.trans (hb.mono (by omega)))))
     have hsz:=hb.size
     clear hb hno b0 b1
     rcases Nat.lt_or_ge k 4 with hk4 | hk4
     · have hb2:∀ o,Below w1.heap.size w1 (wr.alloc o):=fun o=>HW.out.1.alloc hsz o
       have hb3:∀ o,Below w.heap.size w (wr.alloc o):=fun o=>HW.out.2.2.alloc (by omega) o
       have HB2:=Lib.hid (And.intro hb2 hb3)
       clear hb2 hb3
       by_cases hin:inH a b k
       · have HR:Hid (spoB c dm a b=true):=Lib.hid (sp_hit HZ.out hk4 hin)
         match k,hk4,hin with
         | 0,_,hin | 1,_,hin | 2,_,hin | 3,_,hin=>
          obtain⟨i1,i2⟩:_∧_:=hin
          go_wp2
          go_ret
          exact⟨by rw [HR.out];rfl,HB2.out.2 _⟩
       · have HNX:Hid (∀ j,j<k+1→¬inH a b j):=Lib.hid (fun j hj=>by
          by_cases e:j=k
          · subst e;exact hin
          · exact HW.out.2.1 j (by omega))
         match k,hk4,hin with
         | 0,_,hin=>
          have hin:¬(a≤4370∧4352≤b):=hin
          by_cases i0:a≤4370
          · have i1:¬4352≤b:=fun h=>hin ⟨i0,h⟩
            clear hin
            go_wp2
            go_roundw
            case rel=>exact⟨1,⟨rfl,by decide⟩,HNX.out,HB2.out.1 _⟩
            case measure=>simp [intOf]
          · clear hin
            go_wp2
            go_roundw
            case rel=>exact⟨1,⟨rfl,by decide⟩,HNX.out,HB2.out.1 _⟩
            case measure=>simp [intOf]
         | 1,_,hin=>
          have hin:¬(a≤4469∧4449≤b):=hin
          by_cases i0:a≤4469
          · have i1:¬4449≤b:=fun h=>hin ⟨i0,h⟩
            clear hin
            go_wp2
            go_roundw
            case rel=>exact⟨2,⟨rfl,by decide⟩,HNX.out,HB2.out.1 _⟩
            case measure=>simp [intOf]
          · clear hin
            go_wp2
            go_roundw
            case rel=>exact⟨2,⟨rfl,by decide⟩,HNX.out,HB2.out.1 _⟩
            case measure=>simp [intOf]
         | 2,_,hin=>
          have hin:¬(a≤4546∧4520≤b):=hin
          by_cases i0:a≤4546
          · have i1:¬4520≤b:=fun h=>hin ⟨i0,h⟩
            clear hin
            go_wp2
            go_roundw
            case rel=>exact⟨3,⟨rfl,by decide⟩,HNX.out,HB2.out.1 _⟩
            case measure=>simp [intOf]
          · clear hin
            go_wp2
            go_roundw
            case rel=>exact⟨3,⟨rfl,by decide⟩,HNX.out,HB2.out.1 _⟩
            case measure=>simp [intOf]
         | 3,_,hin=>
          have hin:¬(a≤55203∧44032≤b):=hin
          by_cases i0:a≤55203
          · have i1:¬44032≤b:=fun h=>hin ⟨i0,h⟩
            clear hin
            go_wp2
            go_roundw
            case rel=>exact⟨4,⟨rfl,by decide⟩,HNX.out,HB2.out.1 _⟩
            case measure=>simp [intOf]
          · clear hin
            go_wp2
            go_roundw
            case rel=>exact⟨4,⟨rfl,by decide⟩,HNX.out,HB2.out.1 _⟩
            case measure=>simp [intOf]
     · have hk0:k=4:=by omega
       have HR:Hid (spoB c dm a b=false):=Lib.hid (sp_none (fun j hj=>HW.out.2.1 j (by omega)))
       subst hk0
       go_wp2
       go_ret
       exact⟨by rw [HR.out];rfl,HW.out.2.2⟩
end Go.Proofs.YtbkgbhlmeeodgaaGreatDoor
namespace Go.Proofs.YtbkgbhlmeeodgaaGreatDoor
open Go.RowKit Go.Shelf Go.Sort
attribute [local go_sem] Oper.semAt_some
theorem mixedD:Tryz.prog.follows .mixedOrders=true:=by kernel_rfl
def madeV (dm:Nat) (cc c1:Int) (h0:Bool):Bool:=decide (dm=2)&&(decide (cc=0)&&(decide (c1=0) && !h0))
set_option maxRecDepth 100000 in
set_option maxHeartbeats 4000000 in
theorem made99_at (b:Nat) (p A:Option Addr) (c:Nat) (ls:List Uc.Rw) (p0 A0:Option Addr) (c0:Nat) (l0:List Pq.Sp) (s:Uc.Rw) (d0:Int) (w:World) (h0:w.cell? ⟨b,0,none⟩=some (.pointer p)) (h1:w.cell? ⟨b,1,none⟩=some (.pointer p0)) (hT:Uc.TIn w p A c ls) (hn:ls.length≤100000) (hr:Uc.Rises ls) (hT0:Pq.TIn w p0 A0 c0 l0) (hn0:l0.length≤100000) (hr0:Pq.Rises l0) (hf0:∀ s∈l0,s.a≤s.b)
 (hd:s.dm=2→∃ b2 off,s.dp=some ⟨b2,off,none⟩∧w.cell? ⟨b2,off,none⟩=some (.int .i64 d0)):
 Calls Tryz.prog 124 #[.pointer (some ⟨b,0,none⟩),Uc.rwV s] w fun e w'=>e=.returned (.bool (madeV s.dm s.ccc (Uc.atOf ls d0).ccc (Pq.hasOf l0 s.a exclV)))∧Below w.heap.size w w':=by
 obtain⟨T,hT'⟩:∃ T,bs s.gc=T:=⟨_,rfl⟩
 obtain⟨U,hU⟩:∃ T,bs s.bd=T:=⟨_,rfl⟩
 unfold Uc.rwV
 rw [hT',hU]
 obtain⟨a,ha⟩:∃ x,s.a=x:=⟨_,rfl⟩
 obtain⟨sb,hsb⟩:∃ x,s.b=x:=⟨_,rfl⟩
 obtain⟨cc,hcc⟩:∃ x,s.ccc=x:=⟨_,rfl⟩
 obtain⟨dp,hdp⟩:∃ x,s.dp=x:=⟨_,rfl⟩
 obtain⟨dm,hdm⟩:∃ x,s.dm=x:=⟨_,rfl⟩
 obtain⟨dc,hdc⟩:∃ x,s.dc=x:=⟨_,rfl⟩
 rw [hdp,hdm] at hd
 rw [ha,hsb,hcc,hdp,hdm,hdc]
 clear ha hsb hcc hdp hdm hdc hT' hU
 have hbw:Below w.heap.size w (w.alloc (.cells #[.int .i64 a,.int .i64 sb,.string T,.int .i64 cc,.string U,.slice dp dm dc] 65)):=(Below.refl _ _).alloc (Nat.le_refl _) _
 obtain⟨W,hW⟩:∃ W,(w.alloc (.cells #[.int .i64 a,.int .i64 sb,.string T,.int .i64 cc,.string U,.slice dp dm dc] 65))=W:=⟨_,rfl⟩
 have e0:W.cell? ⟨w.heap.size,0,none⟩=some (.int .i64 a):=by rw [←hW];simp
 have e3:W.cell? ⟨w.heap.size,3,none⟩=some (.int .i64 cc):=by rw [←hW];simp
 have e5:W.cell? ⟨w.heap.size,5,none⟩=some (.slice dp dm dc):=by rw [←hW];simp
 obtain⟨l,hl⟩:∃ l,w.heap.size=l:=⟨_,rfl⟩
 rw [hW] at hbw
 have h0':W.cell? ⟨b,0,none⟩=some (.pointer p):=(hbw.cell (p:=⟨b,0,none⟩) (World.block_lt_of_cell? w _ h0)).trans h0
 have h1':W.cell? ⟨b,1,none⟩=some (.pointer p0):=(hbw.cell (p:=⟨b,1,none⟩) (World.block_lt_of_cell? w _ h1)).trans h1
 have hd':dm=2→∃ b2 off,dp=some ⟨b2,off,none⟩∧W.cell? ⟨b2,off,none⟩=some (.int .i64 d0):=fun h=>by
  obtain⟨b2,off,e,hc⟩:=hd h
  exact⟨b2,off,e,(hbw.cell (p:=⟨b2,off,none⟩) (World.block_lt_of_cell? w _ hc)).trans hc⟩
 have c32:=fun d os=>Uc.ccc15 p A c ls d0 (grow (redrawn W d) os) ((hT.below hbw).below (below_regrown W d os)) hn hr
 have c17:=fun d os=>exc17_at b p0 A0 c0 l0 a (grow (redrawn W d) os) (cell_regrown h1' d os) ((hT0.below hbw).below (below_regrown W d os)) hn0 hr0 hf0
 have z0:=cell_regrown e0
 have z3:=cell_regrown e3
 have z5:=cell_regrown e5
 have y0:=cell_regrown h0'
 have HB:=Lib.hid hbw
 have HW:=Lib.hid hW
 have HH:=Lib.hid hl
 rw [hl] at z0 z3 z5
 obtain⟨c1,hc1⟩:∃ x,(Uc.atOf ls d0).ccc=x:=⟨_,rfl⟩
 obtain⟨x0,hx0⟩:∃ x,Pq.hasOf l0 a exclV=x:=⟨_,rfl⟩
 rw [hc1] at c32 ⊢
 rw [hx0] at c17 ⊢
 have HD:=Lib.hid hd'
 clear hbw hW hl h0 h1 h0' h1' hd hd' e0 e3 e5 hT hr hT0 hr0 hf0 hc1 hx0
 by_cases g1:dm=2
 · subst g1
   obtain⟨b2,off,rfl,hq⟩:=HD.out rfl
   have q0:=cell_regrown hq
   clear hq HD
   by_cases g2:cc=0
   · subst g2
     by_cases g3:c1=0
     · subst g3
       have HV:Hid (madeV 2 0 0 x0 = !x0):=Lib.hid (by unfold madeV;simp)
       go_enter Tryz.func124,Tryz.ntmps124
       go_wp2_with fail
       rw [HW.out,HH.out]
       refine wp_region_quiet_below mixedD (by kernel_rfl) ?_
       repeat (go_big_quiet_step (first | (go_at_call 26;with_reducible exact Calls.regrown_of (c32 _ _)) | (go_at_call 160;with_reducible exact Calls.regrown_of (c17 _ _))))
       refine wpQuiet_nil ?_
       intro _ hw'
       obtain⟨⟨dq,osq⟩,hw''⟩:=hw'
       subst hw''
       go_wp2
       go_ret
       exact⟨by rw [HV.out];rfl,HB.out.trans ((below_regrown W dq osq).mono HB.out.size)⟩
     · have g3':(c1==0)=false:=beq_false_of_ne g3
       have HV:Hid (madeV 2 0 c1 x0=false):=Lib.hid (by unfold madeV;simp [g3])
       clear g3
       go_enter Tryz.func124,Tryz.ntmps124
       go_wp2_with fail
       rw [HW.out,HH.out]
       refine wp_region_quiet_below mixedD (by kernel_rfl) ?_
       repeat (go_big_quiet_step (first | (go_at_call 26;with_reducible exact Calls.regrown_of (c32 _ _)) | (go_at_call 160;with_reducible exact Calls.regrown_of (c17 _ _))))
       refine wpQuiet_nil ?_
       intro _ hw'
       obtain⟨⟨dq,osq⟩,hw''⟩:=hw'
       subst hw''
       go_wp2
       go_ret
       exact⟨by rw [HV.out];rfl,HB.out.trans ((below_regrown W dq osq).mono HB.out.size)⟩
   · have g2':(cc==0)=false:=beq_false_of_ne g2
     have HV:Hid (madeV 2 cc c1 x0=false):=Lib.hid (by unfold madeV;simp [g2])
     clear g2
     go_enter Tryz.func124,Tryz.ntmps124
     go_wp2_with fail
     rw [HW.out,HH.out]
     refine wp_region_quiet_below mixedD (by kernel_rfl) ?_
     repeat (go_big_quiet_step (first | (go_at_call 26;with_reducible exact Calls.regrown_of (c32 _ _)) | (go_at_call 160;with_reducible exact Calls.regrown_of (c17 _ _))))
     refine wpQuiet_nil ?_
     intro _ hw'
     obtain⟨⟨dq,osq⟩,hw''⟩:=hw'
     subst hw''
     go_wp2
     go_ret
     exact⟨by rw [HV.out];rfl,HB.out.trans ((below_regrown W dq osq).mono HB.out.size)⟩
 · have g1':((dm:Int)==2)=false:=beq_false_of_ne (by omega)
   have HV:Hid (madeV dm cc c1 x0=false):=Lib.hid (by unfold madeV;simp [g1])
   clear g1 HD
   go_enter Tryz.func124,Tryz.ntmps124
   go_wp2_with fail
   rw [HW.out,HH.out]
   refine wp_region_quiet_below mixedD (by kernel_rfl) ?_
   repeat (go_big_quiet_step (first | (go_at_call 26;with_reducible exact Calls.regrown_of (c32 _ _)) | (go_at_call 160;with_reducible exact Calls.regrown_of (c17 _ _))))
   refine wpQuiet_nil ?_
   intro _ hw'
   obtain⟨⟨dq,osq⟩,hw''⟩:=hw'
   subst hw''
   go_wp2
   go_ret
   exact⟨by rw [HV.out];rfl,HB.out.trans ((below_regrown W dq osq).mono HB.out.size)⟩
end Go.Proofs.YtbkgbhlmeeodgaaGreatDoor
namespace Go.Proofs.YtbkgbhlmeeodgaaGreatDoor
theorem cnt_pos {dec:Int→List Int}:∀ (n:Nat) (c:Int),1≤cnt dec n c
 | 0,_=>Nat.le_refl _
 | n+1,c=>by
  rw [cnt]
  by_cases h:dec c = []
  · rw [if_pos h];exact Nat.le_refl _
  · rw [if_neg h]
    obtain⟨d,l,e⟩:∃ d l,dec c=d::l:=by
     cases hd:dec c with
     | nil=>exact absurd hd h
     | cons d l=>exact⟨d,l,rfl⟩
    rw [e,List.map_cons,List.sum_cons]
    have:=cnt_pos (dec:=dec) n d
    omega
def sumS (sz:Int→Nat):List Int→Nat
 | []=>0
 | d::l=>max 1 (sz d)+sumS sz l
def sizeS (sz:Int→Nat) (l:List Int):Nat:=min (sumS sz l) 5
theorem sumS_snoc (sz:Int→Nat):∀ (l:List Int) (d:Int),sumS sz (l ++ [d])=sumS sz l+max 1 (sz d)
 | [],d=>by simp [sumS]
 | x::l,d=>by simp only [List.cons_append,sumS,sumS_snoc sz l d];omega
theorem sumS_le {sz:Int→Nat} (h5:∀ c,sz c≤5):∀ l:List Int,sumS sz l≤5*l.length
 | []=>by simp [sumS]
 | d::l=>by
  have h1:=sumS_le h5 l
  have h2:=h5 d
  simp only [sumS,List.length_cons]
  omega
theorem sumS_cnt {sz:Int→Nat} {f:Int→Nat}:∀ {l:List Int},(∀ d∈l,max 1 (sz d)=min 5 (f d))→min (sumS sz l) 5=min 5 ((l.map f).sum)
 | [],_=>by simp [sumS]
 | d::l,h=>by
  have h1:=h d (List.mem_cons_self ..)
  have h2:=sumS_cnt (l:=l) (fun x hx=>h x (List.mem_cons_of_mem _ hx))
  simp only [sumS,List.map_cons,List.sum_cons]
  omega
structure FI (dec:Int→List Int) (K O wk:List Int) (sz:Int→Nat) (lg:Nat):Prop where
 sub:∀ c∈O,c∈K
 out:∀ c,c∉O→∃ n,Ends dec n c∧sz c=if c∈K then min 5 (cnt dec n c) else 0
 ope:∀ c∈O,sz c=0
 wait:∀ c∈O,(∀ d∈dec c,d∉O)→c∈wk
 big:∀ c∈K,c∉O→sz c≤lg
 few:lg=0∨∃ c∈K,c∉O∧lg=sz c
theorem FI.five {dec:Int→List Int} {K O wk:List Int} {sz:Int→Nat} {lg:Nat} (h:FI dec K O wk sz lg) (c:Int):sz c≤5:=by
 by_cases hc:c∈O
 · rw [h.ope c hc];omega
 · obtain⟨n,-,e⟩:=h.out c hc
   rw [e]
   split <;> omega
theorem FI.lg5 {dec:Int→List Int} {K O wk:List Int} {sz:Int→Nat} {lg:Nat} (h:FI dec K O wk sz lg):lg≤5:=by
 rcases h.few with e | ⟨c,-,-,e⟩
 · omega
 · rw [e];exact h.five c
theorem fi_start {dec:Int→List Int} {K:List Int} (hK:∀ c,dec c ≠ []→c∈K):FI dec K K K (fun _=>0) 0:=
 ⟨fun _ h=>h,fun c hc=>⟨0,Classical.byContradiction (fun h=>hc (hK c h)),by rw [if_neg hc]⟩,fun _ _=>rfl,fun _ h _=>h,fun _ h h'=>absurd h h',.inl rfl⟩
theorem fi_gone {dec:Int→List Int} {K O wk:List Int} {sz:Int→Nat} {lg:Nat} {c:Int} (h:FI dec K O (wk ++ [c]) sz lg) (hc:c∉O):FI dec K O wk sz lg:=
 ⟨h.sub,h.out,h.ope,fun d hd hw=>(List.mem_append.1 (h.wait d hd hw)).elim id (fun e=>absurd ((List.mem_singleton.1 e)▸hd) hc),h.big,h.few⟩
theorem fi_later {dec:Int→List Int} {K O wk:List Int} {sz:Int→Nat} {lg:Nat} {c:Int} (h:FI dec K O (wk ++ [c]) sz lg) (hc:∃ d∈dec c,d∈O):FI dec K O wk sz lg:=
 ⟨h.sub,h.out,h.ope,fun d hd hw=>(List.mem_append.1 (h.wait d hd hw)).elim id (fun e=>by
  rw [List.mem_singleton.1 e] at hw
  obtain⟨x,hx,hx'⟩:=hc
  exact absurd hx' (hw x hx)),h.big,h.few⟩
theorem fi_size {dec:Int→List Int} {K O wk:List Int} {sz:Int→Nat} {lg:Nat} {c:Int} (h:FI dec K O wk sz lg) (hK:∀ c,dec c ≠ []→c∈K) (hK':∀ c∈K,dec c ≠ []) (hc:c∈K) (hw:∀ d∈dec c,d∉O):∃ n,Ends dec n c∧sizeS sz (dec c)=min 5 (cnt dec n c):=by
 have hex:∀ d∈dec c,∃ n,Ends dec n d∧max 1 (sz d)=min 5 (cnt dec n d):=fun d hd=>by
  obtain⟨n,h1,h2⟩:=h.out d (hw d hd)
  refine⟨n,h1,?_⟩
  have hp:=cnt_pos (dec:=dec) n d
  by_cases hk:d∈K
  · rw [if_pos hk] at h2;omega
  · rw [if_neg hk] at h2
    have hd0:dec d = []:=Classical.byContradiction (fun h=>hk (hK d h))
    have:cnt dec n d=1:=by
     cases n with
     | zero=>rfl
     | succ n=>rw [cnt,if_pos hd0]
    omega
 have hall:∀ l:List Int,(∀ d∈l,∃ n,Ends dec n d∧max 1 (sz d)=min 5 (cnt dec n d))→∃ N,∀ d∈l,Ends dec N d∧max 1 (sz d)=min 5 (cnt dec N d):=by
  intro l
  induction l with
  | nil=>exact fun _=>⟨0,fun d hd=>by cases hd⟩
  | cons x l ih=>
   intro hl
   obtain⟨N,hN⟩:=ih (fun d hd=>hl d (List.mem_cons_of_mem _ hd))
   obtain⟨n,h1,h2⟩:=hl x (List.mem_cons_self ..)
   refine⟨max N n,fun d hd=>?_⟩
   rcases List.mem_cons.1 hd with rfl | hd
   · exact⟨h1.mono (Nat.le_max_right _ _),by rw [cnt_same (Nat.le_max_right _ _) h1];exact h2⟩
   · obtain⟨g1,g2⟩:=hN d hd
     exact⟨g1.mono (Nat.le_max_left _ _),by rw [cnt_same (Nat.le_max_left _ _) g1];exact g2⟩
 obtain⟨N,hN⟩:=hall (dec c) hex
 refine⟨N+1,fun d hd=>(hN d hd).1,?_⟩
 unfold sizeS
 rw [sumS_cnt (f:=cnt dec N) (fun d hd=>(hN d hd).2),cnt,if_neg (hK' c hc)]
def putS (sz:Int→Nat) (c:Int) (n:Nat):Int→Nat:=fun x=>if x=c then n else sz x
theorem putS_same (sz:Int→Nat) (c:Int) (n:Nat):putS sz c n c=n:=by unfold putS;rw [if_pos rfl]
theorem putS_other {sz:Int→Nat} {c x:Int} {n:Nat} (h:x≠c):putS sz c n x=sz x:=by unfold putS;rw [if_neg h]
def cutO (O:List Int) (c:Int):List Int:=O.filter fun x=>decide (x≠c)
theorem cutO_mem {O:List Int} {c x:Int}:x∈cutO O c↔x∈O∧x≠c:=by unfold cutO;rw [List.mem_filter];simp
theorem fi_done {dec:Int→List Int} {K O wk us:List Int} {sz:Int→Nat} {lg:Nat} {c:Int} (h:FI dec K O (wk ++ [c]) sz lg) (hK:∀ c,dec c ≠ []→c∈K) (hK':∀ c∈K,dec c ≠ []) (hc:c∈O) (hw:∀ d∈dec c,d∉O)
 (hu:∀ x∈K,c∈dec x→x∈us):FI dec K (cutO O c) (wk++us) (putS sz c (sizeS sz (dec c))) (max lg (sizeS sz (dec c))):=by
 have hcK:=h.sub c hc
 obtain⟨n,he,hs⟩:=fi_size h hK hK' hcK hw
 refine⟨fun x hx=>h.sub x (cutO_mem.1 hx).1,fun x hx=>?_,fun x hx=>?_,fun x hx hwx=>?_,fun x hx hxo=>?_,?_⟩
 · by_cases e:x=c
   · subst e;exact⟨n,he,by rw [putS_same,if_pos hcK,hs]⟩
   · obtain⟨m,g1,g2⟩:=h.out x (fun hh=>hx (cutO_mem.2 ⟨hh,e⟩))
     exact⟨m,g1,by rw [putS_other e];exact g2⟩
 · obtain⟨h1,h2⟩:=cutO_mem.1 hx
   rw [putS_other h2];exact h.ope x h1
 · obtain⟨h1,h2⟩:=cutO_mem.1 hx
   by_cases hcx:c∈dec x
   · exact List.mem_append_right _ (hu x (h.sub x h1) hcx)
   · refine List.mem_append_left _ ?_
     have:=h.wait x h1 (fun d hd hdo=>hwx d hd (cutO_mem.2 ⟨hdo,fun e=>hcx (e▸hd)⟩))
     rcases List.mem_append.1 this with hh | hh
     · exact hh
     · exact absurd (List.mem_singleton.1 hh) h2
 · by_cases e:x=c
   · subst e;rw [putS_same];exact Nat.le_max_right _ _
   · rw [putS_other e]
     exact Nat.le_trans (h.big x hx (fun hh=>hxo (cutO_mem.2 ⟨hh,e⟩))) (Nat.le_max_left _ _)
 · have hcn:c∉cutO O c:=fun hh=>(cutO_mem.1 hh).2 rfl
   by_cases hle:lg≤sizeS sz (dec c)
   · exact .inr ⟨c,hcK,hcn,by rw [putS_same];exact Nat.max_eq_right hle⟩
   · rcases h.few with e | ⟨x,hx,hxo,e⟩
     · omega
     · have hxc:x≠c:=fun e=>hxo (e▸hc)
       exact .inr ⟨x,hx,fun hh=>hxo (cutO_mem.1 hh).1,by rw [putS_other hxc,←e];exact Nat.max_eq_left (by omega)⟩
theorem fi_end {dec:Int→List Int} {K O:List Int} {sz:Int→Nat} {lg:Nat} (h:FI dec K O [] sz lg) (hK:∀ c,dec c ≠ []→c∈K):(O ≠ []↔∃ c∈K,Plus dec c c):=by
 constructor
 · intro hO
   refine Classical.byContradiction fun hno=>?_
   obtain⟨c,hc⟩:∃ c,c∈O:=by
    cases O with
    | nil=>exact absurd rfl hO
    | cons c l=>exact⟨c,List.mem_cons_self ..⟩
   have he:=all_end hK (fun c hc hp=>hno ⟨c,hc,hp⟩) c
   have hstep:∀ n c,c∈O→¬Ends dec n c:=by
    intro n
    induction n with
    | zero=>
     intro c hc h0
     have h0:dec c = []:=h0
     have:=h.wait c hc (fun d hd=>by rw [h0] at hd;cases hd)
     cases this
    | succ n ih=>
     intro c hc h1
     have:¬∀ d∈dec c,d∉O:=fun hw=>by have:=h.wait c hc hw;cases this
     exact this (fun d hd hdo=>ih d hdo (h1 d hd))
   exact hstep _ c hc he
 · rintro⟨c,hc,hp⟩ rfl
   obtain⟨n,he,-⟩:=h.out c (by simp)
   have hend:∀ n c,Ends dec n c→¬Plus dec c c:=by
    intro n
    induction n with
    | zero=>exact fun c h0 hp=>hp.has h0
    | succ n ih=>
     intro c h1 hp
     cases hp with
     | one hd=>exact ih c (h1 c hd) (.one hd)
     | more hd t=>exact ih _ (h1 _ hd) (t.trans (.one hd))
   exact hend n c he hp
theorem cnt_any {dec:Int→List Int} {n m:Nat} {c:Int} (h:Ends dec n c) (h':Ends dec m c):cnt dec n c=cnt dec m c:=by
 rw [←cnt_same (Nat.le_max_left n m) h,←cnt_same (Nat.le_max_right n m) h']
theorem fi_long {dec:Int→List Int} {K:List Int} {sz:Int→Nat} {lg N:Nat} (h:FI dec K [] [] sz lg) (hN:∀ c,Ends dec N c):(4<lg↔∃ c∈K,4<cnt dec N c):=by
 have hsz:∀ c∈K,sz c=min 5 (cnt dec N c):=fun c hc=>by
  obtain⟨n,he,e⟩:=h.out c (by simp)
  rw [e,if_pos hc,cnt_any he (hN c)]
 constructor
 · intro hl
   rcases h.few with e | ⟨c,hc,-,e⟩
   · omega
   · exact⟨c,hc,by have:=hsz c hc;omega⟩
 · rintro⟨c,hc,hl⟩
   have:=h.big c hc (by simp)
   have:=hsz c hc
   omega
def toDo (us:Int→List Int):List Int→Nat
 | []=>0
 | c::l=>(us c).length+toDo us l
theorem toDo_cut {us:Int→List Int} {c:Int}:∀ {O:List Int},c∈O→toDo us (cutO O c)+(us c).length≤toDo us O
 | [],h=>by cases h
 | x::l,h=>by
  by_cases e:x=c
  · subst e
    have h1:cutO (x::l) x=cutO l x:=by unfold cutO;rw [List.filter_cons_of_neg (by simp)]
    rw [h1,toDo]
    have:toDo us (cutO l x)≤toDo us l:=by
     clear h h1
     induction l with
     | nil=>exact Nat.le_refl _
     | cons y l ih=>
      by_cases e:y=x
      · subst e
        have h1:cutO (y::l) y=cutO l y:=by unfold cutO;rw [List.filter_cons_of_neg (by simp)]
        rw [h1,toDo];omega
      · have h1:cutO (y::l) x=y::cutO l x:=by unfold cutO;rw [List.filter_cons_of_pos (by simpa using e)]
        rw [h1,toDo,toDo];omega
    omega
  · have h1:cutO (x::l) c=x::cutO l c:=by unfold cutO;rw [List.filter_cons_of_pos (by simpa using e)]
    rw [h1,toDo,toDo]
    have:=toDo_cut (us:=us) (c:=c) (O:=l) ((List.mem_cons.1 h).elim (fun hh=>absurd hh.symm e) id)
    omega
end Go.Proofs.YtbkgbhlmeeodgaaGreatDoor
