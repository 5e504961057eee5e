/- A part. -/
import Derived.Test.YtbkgbhlmeeodgaaGreatDoorQc15
import Derived.Test.YtbkgbhlmeeodgaaGreatDoorQc16
import Derived.Deep.AppendLies
import Derived.Deep.DeepCutAuto
namespace Go.Proofs.YtbkgbhlmeeodgaaGreatDoor.Uc
open Go.RowKit Go.Shelf
def GA (bo:Nat) (W:World) (k:Nat):Prop:=∃ v,W.cell? ⟨bo,0,none⟩=some v∧k≠bo∧v.ownBlock≠some k
theorem ga_lets (bo:Nat):Lets (GA bo):=fun _ _ _ _ ⟨v,h1,h2⟩ hg hr=>⟨v,cell_kept h1 hg hr,h2⟩
def RBx (W:World) (R:Nat) (v:Value) (o:Bool) (num:Int) (nm:ByteArray) (bare:Bool) (s:Rw):Prop:=
 (W.cell? ⟨R,0,none⟩=some v∧W.cell? ⟨R,1,none⟩=some (.bool o)∧W.cell? ⟨R,2,none⟩=some (.int .i64 num)∧W.cell? ⟨R,3,none⟩=some (.string nm)∧W.cell? ⟨R,4,none⟩=some (.bool bare)∧W.cell? ⟨R,5,none⟩=some (.int .i64 s.a)∧W.cell? ⟨R,6,none⟩=some (.int .i64 s.b)∧W.cell? ⟨R,7,none⟩=some (.string (bs s.gc))∧W.cell? ⟨R,8,none⟩=some (.int .i64 s.ccc)∧W.cell? ⟨R,9,none⟩=some (.string (bs s.bd))∧W.cell? ⟨R,10,none⟩=some (.slice s.dp s.dm s.dc))∧∀ i,W.frozen? ⟨R,i,none⟩=false
theorem RBx.lt {W:World} {R:Nat} {v:Value} {o:Bool} {num:Int} {nm:ByteArray} {bare:Bool} {s:Rw} (h:RBx W R v o num nm bare s):R<W.heap.size:=World.block_lt_of_cell? W _ h.1.1
theorem rbx_block {W W':World} {R:Nat} {v:Value} {o:Bool} {num:Int} {nm:ByteArray} {bare:Bool} {s:Rw} (h:RBx W R v o num nm bare s) (he:W'.heap[R]? = W.heap[R]?):RBx W' R v o num nm bare s:=by
 obtain⟨⟨h0,h1,h2,h3,h4,h5,h6,h7,h8,h9,h10⟩,hf⟩:=h
 have c:∀ i u,W.cell? ⟨R,i,none⟩=some u→W'.cell? ⟨R,i,none⟩=some u:=fun i u hu=>(World.cell?_of_block (a:=⟨R,i,none⟩) he).trans hu
 exact⟨⟨c _ _ h0,c _ _ h1,c _ _ h2,c _ _ h3,c _ _ h4,c _ _ h5,c _ _ h6,c _ _ h7,c _ _ h8,c _ _ h9,c _ _ h10⟩,fun i=>(World.frozen?_of_block (a:=⟨R,i,none⟩) he).trans (hf i)⟩
theorem RBx.below {W W':World} {R:Nat} {v:Value} {o:Bool} {num:Int} {nm:ByteArray} {bare:Bool} {s:Rw} (h:RBx W R v o num nm bare s) (hb:Below W.heap.size W W'):RBx W' R v o num nm bare s:=rbx_block h (hb.block R h.lt)
def Opn (op:Option Ln) (num:Int) (nm:List UInt8) (bare:Bool) (s:Rw):Prop:=
 ∀ x,op=some x→num=x.1∧nm=fld x.2 1∧bare=decide (fld x.2 5 = [])∧s.a=(rowVal x.2).a∧s.gc=(rowVal x.2).gc∧s.ccc=(rowVal x.2).ccc∧s.bd=(rowVal x.2).bd
def RRows (R base:Nat) (v:Value) (ls:List Rw) (ps:List Pr) (W:World):Prop:=
 W.ownsRow base 65 6 v ls.length (rwvs ls)∧Ist W ls ps∧(∀ t∈ls,0<t.dm→∀ a,t.dp=some a→v.ownBlock≠some a.block∧R<a.block)∧R<base
def RdrI (R base:Nat) (ps:List Pr) (op:Option Ln) (W:World):Prop:=
 ∃ v ls num nm bare s,RBx W R v op.isSome num (bs nm) bare s∧RRows R base v ls ps W∧Opn op num nm bare s∧(op.isSome=true→0<ps.length)
theorem RRows.below {R base:Nat} {v:Value} {ls:List Rw} {ps:List Pr} {W W':World} (h:RRows R base v ls ps W) (hb:Below W.heap.size W W'):RRows R base v ls ps W':=
 ⟨own_below h.1 hb (Nat.le_refl _),h.2.1.below hb,h.2.2⟩
theorem RdrI.below {R base:Nat} {ps:List Pr} {op:Option Ln} {W W':World} (h:RdrI R base ps op W) (hb:Below W.heap.size W W'):RdrI R base ps op W':=by
 obtain⟨v,ls,num,nm,bare,s,h1,h2,h3⟩:=h
 exact⟨v,ls,num,nm,bare,s,h1.below hb,h2.below hb,h3⟩
theorem join_eq {x y:Ln} {num:Int} {nm:List UInt8} {bare:Bool} {s t:Rw} (ho:Opn (some x) num nm bare s) (ht:t.a=(rowVal y.2).a∧t.gc=(rowVal y.2).gc∧t.ccc=(rowVal y.2).ccc∧t.bd=(rowVal y.2).bd):
 joinV (fld y.2 1) s t bare (decide (fld y.2 5 = []))=joinB x.2 y.2:=by
 obtain⟨h1,h2,h3,h4,h5,h6,h7⟩:=ho x rfl
 unfold joinV joinB
 rw [h3,h4,h5,h6,h7,ht.1,ht.2.1,ht.2.2.1,ht.2.2.2]
theorem hold_two {R:Nat} {v:Value} {W W':World} (hv:W.cell? ⟨R,0,none⟩=some v) (hs:W.heap.size≤W'.heap.size) (hk:∀ k,k<W.heap.size→k≠R→v.ownBlock≠some k→W'.heap[k]? = W.heap[k]?)
 {v':Value} (hv':W'.cell? ⟨R,0,none⟩=some v') (ho:∀ k,k<W.heap.size→v'.ownBlock=some k→v.ownBlock=some k):Hold (GA R) W W':=by
 refine⟨hs,fun k ⟨u,h1,h2,h3⟩ hlt=>?_⟩
 rw [hv] at h1
 cases h1
 exact⟨hk k hlt h2 h3,v',hv',h2,fun e=>h3 (ho k hlt e)⟩
theorem rwvs_set {ls:List Rw} {t:Rw} {b:Int}:(rwvs (ls ++ [t])).set (ls.length*6+1) (.int .i64 b)=rwvs (ls ++ [{ t with b:=b }]):=by
 unfold rwvs
 rw [List.flatMap_append,List.flatMap_append]
 have hl:(ls.flatMap rwv).length=ls.length*6:=rwvs_length ls
 rw [List.set_append_right _ _ (by omega),hl,Nat.add_sub_cancel_left]
 rfl
theorem snoc_of {α:Type} {l:List α} (h:0<l.length):∃ m t,l=m ++ [t]:=⟨l.dropLast,l.getLast (List.ne_nil_of_length_pos h),(List.dropLast_concat_getLast _).symm⟩
theorem Ist.unsnoc {w:World}:∀ {ls:List Rw} {t:Rw} {ps:List Pr},Ist w (ls ++ [t]) ps→∃ qs q,ps=qs ++ [q]∧Ist w ls qs∧Is w t q
 | [],t,[p],h=>⟨[],p,rfl,trivial,h.1⟩
 | [],t,[],h=>h.elim
 | [],t,_::_::_,h=>h.2.elim
 | s::ls,t,p::ps,h=>by
  obtain⟨qs,q,h1,h2,h3⟩:=Ist.unsnoc h.2
  exact⟨p::qs,q,by rw [h1];rfl,⟨h.1,h2⟩,h3⟩
 | _::_,_,[],h=>h.elim
end Go.Proofs.YtbkgbhlmeeodgaaGreatDoor.Uc
namespace Go.Proofs.YtbkgbhlmeeodgaaGreatDoor.Uc
open Go.RowKit Go.Shelf Go.Sort
def EndBad (num:Int) (w:World) (e:Ending) (w':World):Prop:=e=.returned (.tuple #[.int .i64 14,.int .i64 num])∧Below w.heap.size w w'
set_option maxRecDepth 100000 in
set_option maxHeartbeats 4000000 in
theorem end35_bad (R:Nat) (v:Value) (o:Bool) (num n2:Int) (m1:ByteArray) (nm:List UInt8) (b1 b2:Bool) (s t:Rw) (w:World) (hx:RBx w R v o num m1 b1 s) (hl:nm.length≤1000000) (hj:joinV nm s t b1 b2=false):
 Calls Tryz.prog 139 #[.pointer (some ⟨R,0,none⟩),enV n2 (bs nm) b2 t] w (EndBad num w):=by
 have mixed:Tryz.prog.follows .mixedOrders=true:=by kernel_rfl
 have c62:=fun W=>joins62 num n2 m1 nm b1 b2 s t W hl
 rw [hj] at c62
 obtain⟨⟨h0,h1,h2,h3,h4,h5,h6,h7,h8,h9,h10⟩,hf⟩:=hx
 have hR:R<w.heap.size:=World.block_lt_of_cell? w _ h0
 obtain⟨sa,sb,sg,sc,sd,sp,sm,sk⟩:=s
 obtain⟨ta,tb,tg,tc,td,tp,tm,tk⟩:=t
 unfold enV at c62 ⊢
 simp only at h5 h6 h7 h8 h9 h10 c62 ⊢
 obtain⟨S,hS⟩:∃ S,bs nm=S:=⟨_,rfl⟩
 obtain⟨Sg,hSg⟩:∃ S,bs sg=S:=⟨_,rfl⟩
 obtain⟨Tg,hTg⟩:∃ S,bs tg=S:=⟨_,rfl⟩
 obtain⟨Sd,hSd⟩:∃ S,bs sd=S:=⟨_,rfl⟩
 obtain⟨Td,hTd⟩:∃ S,bs td=S:=⟨_,rfl⟩
 simp only [hS,hSg,hTg,hSd,hTd] at c62 h7 h9 ⊢
 have hb:Below w.heap.size w (w.alloc (.cells #[.int .i64 n2,.string S,.bool b2,.int .i64 ta,.int .i64 tb,.string Tg,.int .i64 tc,.string Td,.slice tp tm tk] 158)):=(Below.refl _ _).alloc (Nat.le_refl _) _
 have bx:=(box9_new w (.int .i64 n2) (.string S) (.bool b2) (.int .i64 ta) (.int .i64 tb) (.string Tg) (.int .i64 tc) (.string Td) (.slice tp tm tk) 158).1
 obtain⟨W,hW⟩:∃ W,(w.alloc (.cells #[.int .i64 n2,.string S,.bool b2,.int .i64 ta,.int .i64 tb,.string Tg,.int .i64 tc,.string Td,.slice tp tm tk] 158))=W:=⟨_,rfl⟩
 have HW:=Lib.hid hW
 rw [hW] at hb bx
 have k2:=cell_regrown ((hb.cell (p:=⟨R,2,none⟩) hR).trans h2)
 have k3:=cell_regrown ((hb.cell (p:=⟨R,3,none⟩) hR).trans h3)
 have k4:=cell_regrown ((hb.cell (p:=⟨R,4,none⟩) hR).trans h4)
 have k5:=cell_regrown ((hb.cell (p:=⟨R,5,none⟩) hR).trans h5)
 have k6:=cell_regrown ((hb.cell (p:=⟨R,6,none⟩) hR).trans h6)
 have k7:=cell_regrown ((hb.cell (p:=⟨R,7,none⟩) hR).trans h7)
 have k8:=cell_regrown ((hb.cell (p:=⟨R,8,none⟩) hR).trans h8)
 have k9:=cell_regrown ((hb.cell (p:=⟨R,9,none⟩) hR).trans h9)
 have k10:=cell_regrown ((hb.cell (p:=⟨R,10,none⟩) hR).trans h10)
 obtain⟨y0,y1,y2,y3,y4,y5,y6,y7,y8⟩:=bx
 have z0:=cell_regrown y0
 have z1:=cell_regrown y1
 have z2:=cell_regrown y2
 have z3:=cell_regrown y3
 have z4:=cell_regrown y4
 have z5:=cell_regrown y5
 have z6:=cell_regrown y6
 have z7:=cell_regrown y7
 have z8:=cell_regrown y8
 obtain⟨h,hh⟩:∃ h,w.heap.size=h:=⟨_,rfl⟩
 have HH:=Lib.hid hh
 have HB:=Lib.hid hb
 rw [hh] at z0 z1 z2 z3 z4 z5 z6 z7 z8
 clear hj hS hSg hTg hSd hTd hW y0 y1 y2 y3 y4 y5 y6 y7 y8 h0 h1 h2 h3 h4 h5 h6 h7 h8 h9 h10 hf hb hh
 go_enter Tryz.func139,Tryz.ntmps139
 go_wp2_with fail
 rw [HW.out,HH.out]
 refine wp_region_quiet_below mixed (by kernel_rfl) ?_
 repeat (go_big_quiet_step (first | (go_at_call 178;with_reducible exact Calls.regrown_of (c62 _))))
 refine wpQuiet_nil ?_
 intro _ hw'
 obtain⟨⟨dq,osq⟩,hw''⟩:=hw'
 subst hw''
 have q2:=k2 dq osq
 have HBR:=Lib.hid (below_regrown W dq osq)
 generalize grow (redrawn W dq) osq=W3 at q2 HBR ⊢
 clear k2 k3 k4 k5 k6 k7 k8 k9 k10 z0 z1 z2 z3 z4 z5 z6 z7 z8 c62
 go_wp2
 go_quiet (fail)
 go_wp2
 go_ret2
 exact⟨rfl,below_drewN (HB.out.trans (HBR.out.mono HB.out.size)) _⟩
theorem own_block {W W':World} {base:Nat} {e:TypeId} {size n:Nat} {v:Value} {xs:List Value} (h:W.ownsRow base e size v n xs) (he:∀ k,v.ownBlock=some k→W'.heap[k]? = W.heap[k]?):W'.ownsRow base e size v n xs:=by
 refine⟨h.1,?_⟩
 rcases h.2 with hn | ⟨g,cap,cur,rfl,hb,hg,rest⟩
 · exact .inl hn
 · exact .inr ⟨g,cap,cur,rfl,hb,(he g rfl).trans hg,rest⟩
theorem vals_block {W W':World} {A:Option Addr} {n:Nat} {vs:List Value} (h:Vals W A n vs) (hs:W.heap.size≤W'.heap.size) (he:0<n→∀ a,A=some a→a.block<W.heap.size→W'.heap[a.block]? = W.heap[a.block]?):Vals W' A n vs:=by
 refine⟨h.1,fun hn=>?_⟩
 obtain⟨b,off,rfl,hlt,hc⟩:=h.2 hn
 exact⟨b,off,rfl,Nat.lt_of_lt_of_le hlt hs,fun j u hj=>(World.cell?_of_block (a:=⟨b,off+j,none⟩) (he hn ⟨b,off,none⟩ rfl hlt)).trans (hc j u hj)⟩
theorem Ist.blocks {W W':World} (hs:W.heap.size≤W'.heap.size):∀ {ls:List Rw} {ps:List Pr},Ist W ls ps→(∀ t∈ls,0<t.dm→∀ a,t.dp=some a→a.block<W.heap.size→W'.heap[a.block]? = W.heap[a.block]?)→Ist W' ls ps
 | [],[],_,_=>trivial
 | t::_,_::_,hc,he=>⟨⟨hc.1.1,hc.1.2.1,hc.1.2.2.1,hc.1.2.2.2.1,hc.1.2.2.2.2.1,hc.1.2.2.2.2.2.1,vals_block hc.1.2.2.2.2.2.2 hs (he t (List.mem_cons_self ..))⟩,Ist.blocks hs hc.2 fun u hu=>he u (List.mem_cons_of_mem _ hu)⟩
 | [],_::_,hc,_=>hc.elim
 | _::_,[],hc,_=>hc.elim
theorem rbx_shut {W:World} {R:Nat} {v:Value} {o:Bool} {num:Int} {nm:ByteArray} {bare:Bool} {s:Rw} (h:RBx W R v o num nm bare s) (o':Bool):RBx (W.setCell ⟨R,1,none⟩ (.bool o')) R v o' num nm bare s:=by
 obtain⟨⟨h0,h1,h2,h3,h4,h5,h6,h7,h8,h9,h10⟩,hf⟩:=h
 have c:∀ i u,i≠1→W.cell? ⟨R,i,none⟩=some u→(W.setCell ⟨R,1,none⟩ (.bool o')).cell? ⟨R,i,none⟩=some u:=fun i u hi hu=>by
  rw [World.cell?_setCell_other _ _ _ _ (by intro e;injection e with e1 e2;exact hi e2.symm)]
  exact hu
 exact⟨⟨c _ _ (by decide) h0,World.cell?_setCell_same' _ _ _ (by rw [h1];rfl),c _ _ (by decide) h2,c _ _ (by decide) h3,c _ _ (by decide) h4,c _ _ (by decide) h5,c _ _ (by decide) h6,c _ _ (by decide) h7,c _ _ (by decide) h8,c _ _ (by decide) h9,c _ _ (by decide) h10⟩,fun i=>by rw [World.frozen?_setCell];exact hf i⟩
theorem end_done {R base g m cap:Nat} {ls:List Rw} {t:Rw} {ps:List Pr} {num:Int} {nm:List UInt8} {b1 o:Bool} {s:Rw} {W:World} (b:Int) (hx:RBx W R (.slice (some ⟨g,0,none⟩) (m+1) cap) o num (bs nm) b1 s) (hm:ls.length=m) (hr:RRows R base (.slice (some ⟨g,0,none⟩) (m+1) cap) (ls ++ [t]) ps W):
 RdrI R base (setB ps b) none ((W.setCell ⟨g,m*6+1,none⟩ (.int .i64 b)).setCell ⟨R,1,none⟩ (.bool false))∧Hold (GA R) W ((W.setCell ⟨g,m*6+1,none⟩ (.int .i64 b)).setCell ⟨R,1,none⟩ (.bool false))∧Below R W ((W.setCell ⟨g,m*6+1,none⟩ (.int .i64 b)).setCell ⟨R,1,none⟩ (.bool false)):=by
 obtain⟨hown,hist,hap,hRb⟩:=hr
 rw [List.length_append,List.length_singleton,hm] at hown
 have hg:=hown.lt g rfl
 have hgR:g≠R:=by omega
 obtain⟨qs,q,rfl,hi1,hi2⟩:=hist.unsnoc
 have st:=hown.stored (m*6+1) (.int .i64 b)
 have e1:(rwvs (ls ++ [t])).set (m*6+1) (.int .i64 b)=rwvs (ls ++ [{ t with b:=b }]):=by rw [←hm];exact rwvs_set
 rw [e1] at st
 have blk:∀ k,k≠g→k≠R→((W.setCell ⟨g,m*6+1,none⟩ (.int .i64 b)).setCell ⟨R,1,none⟩ (.bool false)).heap[k]? = W.heap[k]?:=fun k h1 h2=>by
  rw [heap_setCell_other _ ⟨R,1,none⟩ k _ (fun e=>h2 (by simpa using e)),heap_setCell_other _ ⟨g,m*6+1,none⟩ k _ (fun e=>h1 (by simpa using e))]
 have sz:((W.setCell ⟨g,m*6+1,none⟩ (.int .i64 b)).setCell ⟨R,1,none⟩ (.bool false)).heap.size=W.heap.size:=by rw [World.size_setCell,World.size_setCell]
 have hxx:=rbx_shut (rbx_block (W':=W.setCell ⟨g,m*6+1,none⟩ (.int .i64 b)) hx (heap_setCell_other _ ⟨g,m*6+1,none⟩ R _ (fun e=>hgR (by simpa using e.symm)))) false
 have hist':Ist ((W.setCell ⟨g,m*6+1,none⟩ (.int .i64 b)).setCell ⟨R,1,none⟩ (.bool false)) (ls ++ [{ t with b:=b }]) (qs ++ [{ q with b:=b }]):=by
  refine Ist.blocks (W:=W) (by rw [sz];exact Nat.le_refl _) (Ist.snoc (s:={ t with b:=b }) (p:={ q with b:=b }) ⟨hi2.1,rfl,hi2.2.2.1,hi2.2.2.2.1,hi2.2.2.2.2.1,hi2.2.2.2.2.2.1,hi2.2.2.2.2.2.2⟩ hi1) fun u hu hd a ha _=>?_
  have hua:∃ u'∈ls ++ [t],0<u'.dm∧u'.dp=some a:=by
   rcases List.mem_append.1 hu with h | h
   · exact⟨u,List.mem_append_left _ h,hd,ha⟩
   · rw [List.mem_singleton.1 h] at ha hd
     exact⟨t,by simp,hd,ha⟩
  obtain⟨u',hu',hd',ha'⟩:=hua
  have:=hap u' hu' hd' a ha'
  exact blk _ (fun e=>this.1 (by rw [←e];rfl)) (Nat.ne_of_gt this.2)
 refine⟨⟨.slice (some ⟨g,0,none⟩) (m+1) cap,ls ++ [{ t with b:=b }],num,nm,b1,s,hxx,⟨?_,?_,?_,hRb⟩,(fun x h=>by cases h),(fun h=>by cases h)⟩,?_,?_⟩
 · rw [List.length_append,List.length_singleton,hm]
   exact own_block st.1 fun k e=>by
    have e:some g=some k:=e
    cases e
    exact heap_setCell_other _ ⟨R,1,none⟩ g _ (fun e=>hgR (by simpa using e))
 · rw [setB_snoc];exact hist'
 · intro u hu hd a ha
   rcases List.mem_append.1 hu with h | h
   · exact hap u (List.mem_append_left _ h) hd a ha
   · rw [List.mem_singleton.1 h] at ha hd
     exact hap t (by simp) hd a ha
 · exact hold_two hx.1.1 (by rw [sz];exact Nat.le_refl _) (fun k _ h1 h2=>blk k (fun e=>h2 (by rw [e];rfl)) h1) hxx.1.1 (fun k _ e=>e)
 · exact ((Below.refl R W).setCell (p:=⟨g,m*6+1,none⟩) (by show R≤g;omega) _).setCell (p:=⟨R,1,none⟩) (Nat.le_refl _) _
def EndOk (R base:Nat) (ps:List Pr) (b:Int) (w:World) (e:Ending) (w':World):Prop:=e=.returned (.tuple #[.int .i64 0,.int .i64 0])∧RdrI R base (setB ps b) none w'∧Hold (GA R) w w'∧Below R w w'
set_option maxRecDepth 100000 in
set_option maxHeartbeats 4000000 in
theorem end35_ok (R base g m cap:Nat) (ls:List Rw) (tl:Rw) (ps:List Pr) (o:Bool) (num n2:Int) (m1:List UInt8) (nm:List UInt8) (b1 b2:Bool) (s t:Rw) (w:World) (hx:RBx w R (.slice (some ⟨g,0,none⟩) (m+1) cap) o num (bs m1) b1 s) (hm:ls.length=m) (hr:RRows R base (.slice (some ⟨g,0,none⟩) (m+1) cap) (ls ++ [tl]) ps w) (hmb:m≤1000000) (hl:nm.length≤1000000) (hj:joinV nm s t b1 b2=true):
 Calls Tryz.prog 139 #[.pointer (some ⟨R,0,none⟩),enV n2 (bs nm) b2 t] w (EndOk R base ps t.a w):=by
 have HM:=Lib.hid hm
 have mixed:Tryz.prog.follows .mixedOrders=true:=by kernel_rfl
 have c62:=fun W=>joins62 num n2 (bs m1) nm b1 b2 s t W hl
 rw [hj] at c62
 have HX:=Lib.hid hx
 have HR:=Lib.hid hr
 obtain⟨⟨h0,h1,h2,h3,h4,h5,h6,h7,h8,h9,h10⟩,hf⟩:=hx
 have hR:R<w.heap.size:=World.block_lt_of_cell? w _ h0
 obtain⟨sa,sb,sg,sc,sd,sp,sm,sk⟩:=s
 obtain⟨ta,tb,tg,tc,td,tp,tm,tk⟩:=t
 unfold enV at c62 ⊢
 simp only at h5 h6 h7 h8 h9 h10 c62 ⊢
 obtain⟨M1,hM1⟩:∃ S,bs m1=S:=⟨_,rfl⟩
 obtain⟨S,hS⟩:∃ S,bs nm=S:=⟨_,rfl⟩
 obtain⟨Sg,hSg⟩:∃ S,bs sg=S:=⟨_,rfl⟩
 obtain⟨Tg,hTg⟩:∃ S,bs tg=S:=⟨_,rfl⟩
 obtain⟨Sd,hSd⟩:∃ S,bs sd=S:=⟨_,rfl⟩
 obtain⟨Td,hTd⟩:∃ S,bs td=S:=⟨_,rfl⟩
 simp only [hM1,hS,hSg,hTg,hSd,hTd] at c62 h3 h7 h9 ⊢
 have hb:Below w.heap.size w (w.alloc (.cells #[.int .i64 n2,.string S,.bool b2,.int .i64 ta,.int .i64 tb,.string Tg,.int .i64 tc,.string Td,.slice tp tm tk] 158)):=(Below.refl _ _).alloc (Nat.le_refl _) _
 have bx:=(box9_new w (.int .i64 n2) (.string S) (.bool b2) (.int .i64 ta) (.int .i64 tb) (.string Tg) (.int .i64 tc) (.string Td) (.slice tp tm tk) 158).1
 obtain⟨W,hW⟩:∃ W,(w.alloc (.cells #[.int .i64 n2,.string S,.bool b2,.int .i64 ta,.int .i64 tb,.string Tg,.int .i64 tc,.string Td,.slice tp tm tk] 158))=W:=⟨_,rfl⟩
 have HW:=Lib.hid hW
 rw [hW] at hb bx
 have k0:=cell_regrown ((hb.cell (p:=⟨R,0,none⟩) hR).trans h0)
 have k2:=cell_regrown ((hb.cell (p:=⟨R,2,none⟩) hR).trans h2)
 have k3:=cell_regrown ((hb.cell (p:=⟨R,3,none⟩) hR).trans h3)
 have k4:=cell_regrown ((hb.cell (p:=⟨R,4,none⟩) hR).trans h4)
 have k5:=cell_regrown ((hb.cell (p:=⟨R,5,none⟩) hR).trans h5)
 have k6:=cell_regrown ((hb.cell (p:=⟨R,6,none⟩) hR).trans h6)
 have k7:=cell_regrown ((hb.cell (p:=⟨R,7,none⟩) hR).trans h7)
 have k8:=cell_regrown ((hb.cell (p:=⟨R,8,none⟩) hR).trans h8)
 have k9:=cell_regrown ((hb.cell (p:=⟨R,9,none⟩) hR).trans h9)
 have k10:=cell_regrown ((hb.cell (p:=⟨R,10,none⟩) hR).trans h10)
 obtain⟨y0,y1,y2,y3,y4,y5,y6,y7,y8⟩:=bx
 have z0:=cell_regrown y0
 have z1:=cell_regrown y1
 have z2:=cell_regrown y2
 have z3:=cell_regrown y3
 have z4:=cell_regrown y4
 have z5:=cell_regrown y5
 have z6:=cell_regrown y6
 have z7:=cell_regrown y7
 have z8:=cell_regrown y8
 obtain⟨h,hh⟩:∃ h,w.heap.size=h:=⟨_,rfl⟩
 have HH:=Lib.hid hh
 have HB:=Lib.hid hb
 rw [hh] at z0 z1 z2 z3 z4 z5 z6 z7 z8
 clear hj hM1 hr hm hS hSg hTg hSd hTd hW y0 y1 y2 y3 y4 y5 y6 y7 y8 h0 h1 h2 h3 h4 h5 h6 h7 h8 h9 h10 hf hb hh
 go_enter Tryz.func139,Tryz.ntmps139
 go_wp2_with fail
 rw [HW.out,HH.out]
 refine wp_region_quiet_below mixed (by kernel_rfl) ?_
 repeat (go_big_quiet_step (first | (go_at_call 178;with_reducible exact Calls.regrown_of (c62 _))))
 refine wpQuiet_nil ?_
 intro _ hw'
 obtain⟨⟨dq,osq⟩,hw''⟩:=hw'
 subst hw''
 have HBR:=Lib.hid (below_regrown W dq osq)
 have hz3:=z3 dq osq
 generalize grow (redrawn W dq) osq=W3 at HBR hz3 ⊢
 clear k0 k2 k3 k4 k5 k6 k7 k8 k9 k10 z0 z1 z2 z3 z4 z5 z6 z7 z8 c62
 have hB3:=HB.out.trans (HBR.out.mono HB.out.size)
 have HX3:=Lib.hid (HX.out.below hB3)
 have HR3:=Lib.hid (HR.out.below hB3)
 have HB3:=Lib.hid hB3
 obtain⟨⟨x0,x1,-⟩,xf⟩:=HX3.out
 have hown:=HR3.out.1
 rw [List.length_append,List.length_singleton,HM.out] at hown
 have hgl:=hown.lt g rfl
 obtain⟨cv,hcv⟩:∃ u,W3.cell? ⟨g,m*6+1,none⟩=some u:=⟨_,(hown.cellAt (m*6+1) (by omega)).trans (List.getElem?_eq_getElem (by rw [rwvs_length,List.length_append,List.length_singleton,HM.out];omega))⟩
 have hcf:=hown.frozenAt (m*6+1)
 have hne1:¬g=R:=by have:=HR3.out.2.2.2;omega
 have hne2:¬R=g:=by omega
 have HD:=Lib.hid (end_done ta HX3.out HM.out HR3.out)
 clear hown hB3
 go_wp2_with fail
 go_region
 clear HX3 HR3 x0 hcv hcf hz3
 go_wp2
 go_ret2
 exact⟨rfl,HD.out.1.below (below_drew (Below.refl _ _)),((Hold.of_below (ga_lets R) HB3.out).trans HD.out.2.1).trans (Hold.of_below (ga_lets R) (below_drew (Below.refl _ _))),(HB3.out.mono (by omega)).trans (below_drew HD.out.2.2)⟩
theorem info36:(Tryz.prog.info? 65).map (fun i=>(i.zero,i.size,i.bytes))=some (some (.agg #[.int .i64 0,.int .i64 0,.string ⟨#[]⟩,.int .i64 0,.string ⟨#[]⟩,.slice none 0 0]),6,80):=by kernel_rfl
set_option maxRecDepth 100000 in
set_option maxHeartbeats 4000000 in
theorem take20_err (R:Nat) (num:Int) (F:Option Addr) (n:Nat) (f:List (List UInt8)) (w:World) (c34:∀ W,Below w.heap.size w W→Calls Tryz.prog 138 #[.agg #[.int .i64 num,.slice F n n]] W (EntBad f W)) (he:¬rowErr f=0):
 Calls Tryz.prog 111 #[.pointer (some ⟨R,0,none⟩),.agg #[.int .i64 num,.slice F n n]] w fun e w'=>e=.returned (.tuple #[.int .i64 (rowErr f),.int .i64 num])∧Below w.heap.size w w':=by
 have hb:Below w.heap.size w (w.alloc (.cells #[.int .i64 num,.slice F n n] 164)):=(Below.refl _ _).alloc (Nat.le_refl _) _
 have k34:=c34 _ hb
 unfold EntBad enV at k34
 have e0:bs rw0.gc=⟨#[]⟩:=rfl
 have e1:bs rw0.bd=⟨#[]⟩:=rfl
 rw [e0,e1] at k34
 unfold rw0 at k34
 simp only at k34
 obtain⟨X,hX⟩:∃ X,rowErr f=X:=⟨_,rfl⟩
 rw [hX] at he k34 ⊢
 have hx1:(X==0)=false:=beq_false_of_ne he
 have hx2:(X != 0)=true:=bne_iff_ne.2 he
 have HB:=Lib.hid hb
 clear hX he c34 e0 e1 hb
 go_enter Tryz.func111,Tryz.ntmps111
 go_wp2_with (go_at_call 138;(with_reducible refine k34.mono ?_);rintro e w1 ⟨rfl,hb1⟩;have HB1:=Lib.hid hb1;have hn1:=(hb1.cell (p:=⟨w.heap.size,0,none⟩) (by show w.heap.size<_;simp)).trans (show (w.alloc (.cells #[.int .i64 num,.slice F n n] 164)).cell? ⟨w.heap.size,0,none⟩=some (.int .i64 num) by simp);have hl1:w.heap.size<w1.heap.size:=World.block_lt_of_cell? w1 _ hn1;clear hb1)
 go_quiet (fail)
 go_wp2
 go_ret2
 exact⟨rfl,below_drewN (((HB.out.trans (HB1.out.mono HB.out.size))).alloc (by have:=HB1.out.size;have:=HB.out.size;omega) _) _⟩
theorem ent_alloc {w w1:World} {num:Int} {nm:ByteArray} {bare:Bool} {t:Rw} (h:Below w.heap.size w w1):Below w.heap.size w (w1.alloc (.cells #[.int .i64 num,.string nm,.bool bare,.int .i64 t.a,.int .i64 t.b,.string (bs t.gc),.int .i64 t.ccc,.string (bs t.bd),.slice t.dp t.dm t.dc] 158)):=h.alloc h.size _
def TakeOpen (R base:Nat) (ps:List Pr) (x y:Ln) (w:World) (e:Ending) (w':World):Prop:=
 Hold (GA R) w w'∧Below R w w'∧((joinB x.2 y.2=false∧e=.returned (.tuple #[.int .i64 14,.int .i64 x.1]))∨(joinB x.2 y.2=true∧e=.returned (.tuple #[.int .i64 0,.int .i64 0])∧RdrI R base (setB ps (rowVal y.2).a) none w'))
theorem end_any {R base:Nat} {ps:List Pr} {x:Ln} {num:Int} {f:List (List UInt8)} {t:Rw} {W:World} (hI:RdrI R base ps (some x) W) (hl:(fld f 1).length≤1000000) (hb:ps.length≤1000000) (ht:t.a=(rowVal f).a∧t.gc=(rowVal f).gc∧t.ccc=(rowVal f).ccc∧t.bd=(rowVal f).bd):
 Calls Tryz.prog 139 #[.pointer (some ⟨R,0,none⟩),enV num (bs (fld f 1)) (decide (fld f 5 = [])) t] W fun e w'=>∃ a b,e=.returned (.tuple #[.int .i64 a,.int .i64 b])∧TakeOpen R base ps x (num,f) W e w':=by
 obtain⟨v,ls,n1,nm,bare,s,hx,hr,ho,hp⟩:=hI
 have hje:=join_eq (y:=(num,f)) ho ht
 have hlt:R<W.heap.size:=hx.lt
 cases hj:joinB x.2 f with
 | false=>
  refine (end35_bad R v true n1 num (bs nm) (fld f 1) bare (decide (fld f 5 = [])) s t W hx hl (hje.trans hj)).mono ?_
  rintro e w' ⟨rfl,hb'⟩
  exact⟨14,n1,rfl,Hold.of_below (ga_lets R) hb',hb'.mono (Nat.le_of_lt hlt),.inl ⟨hj,by rw [(ho x rfl).1]⟩⟩
 | true=>
  have hlen:=hr.2.1.len
  obtain⟨m,tl,rfl⟩:=snoc_of (l:=ls) (by rw [hlen];exact hp rfl)
  obtain⟨g,cap,rfl,-,-⟩:=hr.1.form (by simp)
  rw [List.length_append,List.length_singleton] at hx hr hlen
  refine (end35_ok R base g m.length cap m tl ps true n1 num nm (fld f 1) bare (decide (fld f 5 = [])) s t W hx rfl hr (by omega) hl (hje.trans hj)).mono ?_
  rintro e w' ⟨rfl,h1,h2,h3⟩
  rw [ht.1] at h1
  exact⟨0,0,rfl,h2,h3,.inr ⟨hj,rfl,h1⟩⟩
theorem open_cell {R base:Nat} {ps:List Pr} {x:Ln} {W:World} (h:RdrI R base ps (some x) W):W.cell? ⟨R,1,none⟩=some (.bool true):=by
 obtain⟨v,ls,n1,nm,bare,s,hx,-⟩:=h
 exact hx.1.2.1
set_option maxRecDepth 100000 in
set_option maxHeartbeats 4000000 in
theorem take20_open (R base:Nat) (ps:List Pr) (x:Ln) (num:Int) (F:Option Addr) (n:Nat) (f:List (List UInt8)) (w:World) (c34:∀ W,Below w.heap.size w W→Calls Tryz.prog 138 #[.agg #[.int .i64 num,.slice F n n]] W (EntOk num f W)) (hI:RdrI R base ps (some x) w) (hl:(fld f 1).length≤1000000) (hp:ps.length≤1000000):
 Calls Tryz.prog 111 #[.pointer (some ⟨R,0,none⟩),.agg #[.int .i64 num,.slice F n n]] w (TakeOpen R base ps x (num,f) w):=by
 have hb:Below w.heap.size w (w.alloc (.cells #[.int .i64 num,.slice F n n] 164)):=(Below.refl _ _).alloc (Nat.le_refl _) _
 have k34:=c34 _ hb
 unfold EntOk at k34
 have HB:=Lib.hid hb
 have HI:=Lib.hid hI
 have c35:=fun (t:Rw) (ht:t.a=(rowVal f).a∧t.gc=(rowVal f).gc∧t.ccc=(rowVal f).ccc∧t.bd=(rowVal f).bd) W (hW:Below w.heap.size w W)=>end_any (num:=num) (hI.below hW) hl hp ht
 have C35:=Lib.hid c35
 have hR:R<w.heap.size:=by obtain⟨v,ls,n1,nm,bare,s,hx,-⟩:=hI;exact hx.lt
 clear hI hb c34 c35
 obtain⟨S1,hS1⟩:∃ S,bs (fld f 1)=S:=⟨_,rfl⟩
 obtain⟨B5,hB5⟩:∃ B,decide (fld f 5 = [])=B:=⟨_,rfl⟩
 rw [hS1,hB5] at k34
 rw [hS1,hB5] at C35
 clear hS1 hB5
 go_enter Tryz.func111,Tryz.ntmps111
 go_wp2_with (first
  | (go_at_call 138;(with_reducible refine k34.mono ?_);rintro e w1 ⟨hb1,t,rfl,hIs⟩;have hb01:=Lib.hid (HB.out.trans (hb1.mono HB.out.size));have hb02:=Lib.hid (ent_alloc (num:=num) (nm:=S1) (bare:=B5) (t:=t) hb01.out);have ho1:=open_cell (HI.out.below hb02.out);have k35:=C35.out t ⟨hIs.out.1.1,hIs.out.1.2.2.1,hIs.out.1.2.2.2.1,hIs.out.1.2.2.2.2.1⟩ _ hb02.out;unfold enV at k35 ⊢;clear hb1 hIs)
  | (go_at_call 139;(with_reducible refine k35.mono ?_);rintro e w2 ⟨a2,b2,rfl,hT⟩;have HT:=Lib.hid hT;clear hT))
 go_ret2
 exact⟨(Hold.of_below (ga_lets R) hb02.out).trans HT.out.1,(hb02.out.mono (Nat.le_of_lt hR)).trans HT.out.2.1,HT.out.2.2⟩
def TkW (w:World) (num:Int) (R eb:Nat) (v:Value) (n1:Int) (m1:ByteArray) (b1:Bool) (s1:Rw) (nm:ByteArray) (bare:Bool) (t:Rw) (W:World):Prop:=
 (W.cell? ⟨w.heap.size,0,none⟩=some (.int .i64 num)∧Box9 W eb (.int .i64 num) (.string nm) (.bool bare) (.int .i64 t.a) (.int .i64 t.b) (.string (bs t.gc)) (.int .i64 t.ccc) (.string (bs t.bd)) (.slice t.dp t.dm t.dc)) ∧
 (RBx W R v false n1 m1 b1 s1∧Below w.heap.size w W∧w.heap.size<eb∧eb<W.heap.size)
theorem tk_first {w w1:World} {num:Int} {F:Option Addr} {n R:Nat} {v:Value} {n1:Int} {m1:ByteArray} {b1:Bool} {s1:Rw} {nm:ByteArray} {bare:Bool} {t:Rw} (hx:RBx w R v false n1 m1 b1 s1) (hb1:Below (w.alloc (.cells #[.int .i64 num,.slice F n n] 164)).heap.size (w.alloc (.cells #[.int .i64 num,.slice F n n] 164)) w1):
 TkW w num R w1.heap.size v n1 m1 b1 s1 nm bare t (w1.alloc (.cells #[.int .i64 num,.string nm,.bool bare,.int .i64 t.a,.int .i64 t.b,.string (bs t.gc),.int .i64 t.ccc,.string (bs t.bd),.slice t.dp t.dm t.dc] 158)):=by
 have hb:Below w.heap.size w (w.alloc (.cells #[.int .i64 num,.slice F n n] 164)):=(Below.refl _ _).alloc (Nat.le_refl _) _
 have hb01:=hb.trans (hb1.mono hb.size)
 have hb02:=ent_alloc (num:=num) (nm:=nm) (bare:=bare) (t:=t) hb01
 have hs:w.heap.size<w1.heap.size:=by have:=hb1.size;rw [World.size_alloc] at this;omega
 have ha:Below w1.heap.size w1 (w1.alloc (.cells #[.int .i64 num,.string nm,.bool bare,.int .i64 t.a,.int .i64 t.b,.string (bs t.gc),.int .i64 t.ccc,.string (bs t.bd),.slice t.dp t.dm t.dc] 158)):=(Below.refl _ _).alloc (Nat.le_refl _) _
 refine⟨⟨(ha.cell (p:=⟨w.heap.size,0,none⟩) hs).trans ((hb1.cell (p:=⟨w.heap.size,0,none⟩) (by show w.heap.size<_;simp)).trans (by simp)),box9_new _ _ _ _ _ _ _ _ _ _ _⟩,hx.below hb02,hb02,hs,by simp⟩
theorem twice_last {ps:List Pr} {r:Pr} (h:twice ps r=true):0<ps.length:=by
 cases ps with
 | nil=>cases h
 | cons _ _=>simp
set_option maxRecDepth 100000 in
set_option maxHeartbeats 4000000 in
theorem take20_twice (R base:Nat) (ps:List Pr) (num:Int) (F:Option Addr) (n:Nat) (f:List (List UInt8)) (w:World) (c34:∀ W,Below w.heap.size w W→Calls Tryz.prog 138 #[.agg #[.int .i64 num,.slice F n n]] W (EntOk num f W)) (hI:RdrI R base ps none w) (hp:ps.length≤1000000) (ht:twice ps (rowVal f)=true):
 Calls Tryz.prog 111 #[.pointer (some ⟨R,0,none⟩),.agg #[.int .i64 num,.slice F n n]] w fun e w'=>e=.returned (.tuple #[.int .i64 15,.int .i64 num])∧Below w.heap.size w w':=by
 have hb:Below w.heap.size w (w.alloc (.cells #[.int .i64 num,.slice F n n] 164)):=(Below.refl _ _).alloc (Nat.le_refl _) _
 have k34:=c34 _ hb
 unfold EntOk at k34
 obtain⟨v,ls,n1,m1,b1,s1,hx,hr,-,-⟩:=hI
 have hlen:=hr.2.1.len
 have hpos:=twice_last ht
 obtain⟨ls,tl,rfl⟩:=snoc_of (l:=ls) (by omega)
 obtain⟨qs,q,rfl,-,hi⟩:=hr.2.1.unsnoc
 obtain⟨g,cap,rfl,-,-⟩:=hr.1.form (by simp)
 have hown:=hr.1
 rw [List.length_append,List.length_singleton] at hx hown
 obtain⟨m,hm⟩:∃ m,ls.length=m:=⟨_,rfl⟩
 have hmb:m≤1000000:=by rw [List.length_append,List.length_append] at hlen;simp at hlen hp;omega
 have hcl:w.cell? ⟨g,m*6+1,none⟩=some (.int .i64 tl.b):=by
  rw [←hm,hown.cellAt _ (by omega)]
  have:=(rwvs_get (ls:=ls ++ [tl]) (j:=ls.length) (s:=tl) (by simp)).2.1
  exact this
 rw [hm] at hx
 unfold twice at ht
 rw [lastB_snoc] at ht
 have hle:(rowVal f).a≤tl.b:=by rw [hi.2.1];exact of_decide_eq_true ht
 have HX:=Lib.hid hx
 have hg:=(hown.lt g rfl).2
 have HLE:=Lib.hid hle
 clear c34 hr hi hown ht hx hlen hpos hm hle hp
 obtain⟨S1,hS1⟩:∃ S,bs (fld f 1)=S:=⟨_,rfl⟩
 obtain⟨B5,hB5⟩:∃ B,decide (fld f 5 = [])=B:=⟨_,rfl⟩
 rw [hS1,hB5] at k34
 clear hS1 hB5 hb
 go_enter Tryz.func111,Tryz.ntmps111
 go_wp2_with (go_at_call 138;(with_reducible refine k34.mono ?_);rintro e w1 ⟨hb1,t,rfl,hIs⟩;have TK:=Lib.hid (tk_first (nm:=S1) (bare:=B5) (t:=t) HX.out hb1);obtain⟨⟨l0,⟨⟨y0,y1,y2,y3,y4,y5,y6,y7,y8⟩,yf⟩⟩,⟨⟨x0,x1,-⟩,xf⟩,hbw,hel,heb⟩:=TK.out;have hcl2:=(hbw.cell (p:=⟨g,m*6+1,none⟩) hg).trans hcl;have hta:t.a≤tl.b:=(by rw [hIs.out.1.1];exact HLE.out);have hd:decide (t.a≤tl.b)=true:=decide_eq_true hta;have HBW:=Lib.hid hbw;clear hbw;unfold enV)
 go_quiet (fail)
 go_wp2
 go_quiet (fail)
 go_wp2
 go_ret2
 exact⟨rfl,below_drewN (below_drewN HBW.out _) _⟩
def wr11 (W:World) (R:Nat) (v:Value) (o:Bool) (num:Int) (nm:ByteArray) (bare:Bool) (s:Rw):World:=
 ((((((((((W.setCell ⟨R,0,none⟩ v).setCell ⟨R,1,none⟩ (.bool o)).setCell ⟨R,2,none⟩ (.int .i64 num)).setCell ⟨R,3,none⟩ (.string nm)).setCell ⟨R,4,none⟩ (.bool bare)).setCell ⟨R,5,none⟩ (.int .i64 s.a)).setCell ⟨R,6,none⟩ (.int .i64 s.b)).setCell ⟨R,7,none⟩ (.string (bs s.gc))).setCell ⟨R,8,none⟩ (.int .i64 s.ccc)).setCell ⟨R,9,none⟩ (.string (bs s.bd))).setCell ⟨R,10,none⟩ (.slice s.dp s.dm s.dc)
theorem wr11_other {W:World} {R k:Nat} {v:Value} {o:Bool} {num:Int} {nm:ByteArray} {bare:Bool} {s:Rw} (h:k≠R):(wr11 W R v o num nm bare s).heap[k]? = W.heap[k]?:=by
 have e:∀ (X:World) (i:Nat) (u:Value),(X.setCell ⟨R,i,none⟩ u).heap[k]? = X.heap[k]?:=fun X i u=>heap_setCell_other X ⟨R,i,none⟩ k u (fun e=>h (by simpa using e))
 unfold wr11
 rw [e,e,e,e,e,e,e,e,e,e,e]
theorem wr11_size {W:World} {R:Nat} {v:Value} {o:Bool} {num:Int} {nm:ByteArray} {bare:Bool} {s:Rw}:(wr11 W R v o num nm bare s).heap.size=W.heap.size:=by
 unfold wr11
 simp only [World.size_setCell]
theorem wr11_below {W w0:World} {R B:Nat} {v:Value} {o:Bool} {num:Int} {nm:ByteArray} {bare:Bool} {s:Rw} (h:Below B w0 W) (hB:B≤R):Below B w0 (wr11 W R v o num nm bare s):=by
 have e:∀ (X:World) (i:Nat) (u:Value),Below B w0 X→Below B w0 (X.setCell ⟨R,i,none⟩ u):=fun X i u hx=>hx.setCell (p:=⟨R,i,none⟩) hB u
 unfold wr11
 exact e _ _ _ (e _ _ _ (e _ _ _ (e _ _ _ (e _ _ _ (e _ _ _ (e _ _ _ (e _ _ _ (e _ _ _ (e _ _ _ (e _ _ _ h))))))))))
theorem wr11_box {W:World} {R:Nat} {v v':Value} {o o':Bool} {num num':Int} {nm nm':ByteArray} {bare bare':Bool} {s s':Rw} (h:RBx W R v o num nm bare s):RBx (wr11 W R v' o' num' nm' bare' s') R v' o' num' nm' bare' s':=by
 obtain⟨⟨h0,h1,h2,h3,h4,h5,h6,h7,h8,h9,h10⟩,hf⟩:=h
 unfold wr11
 exact⟨⟨by simp [go_sem,h0],by simp [go_sem,h1],by simp [go_sem,h2],by simp [go_sem,h3],by simp [go_sem,h4],by simp [go_sem,h5],by simp [go_sem,h6],by simp [go_sem,h7],by simp [go_sem,h8],by simp [go_sem,h9],by simp [go_sem,h10]⟩,fun i=>by simp only [World.frozen?_setCell];exact hf i⟩
theorem is_lt {W:World} {u:Rw} {p:Pr} (h:Is W u p) (hd:0<u.dm) {a:Addr} (ha:u.dp=some a):a.block<W.heap.size:=by
 obtain⟨b,off,e,hlt,-⟩:=h.2.2.2.2.2.2.2 hd
 rw [ha] at e
 cases e
 exact hlt
theorem add_done {w W w3:World} {R base N gg cap:Nat} {v:Value} {ls:List Rw} {t:Rw} {ps:List Pr} {num n1:Int} {m1:ByteArray} {b1 o nb:Bool} {s1:Rw} {f:List (List UInt8)} {ob:Obj}
 (hx:RBx W R v o n1 m1 b1 s1) (hN:ls.length=N) (hr:RRows R base v ls ps W) (hvw:∀ k,v.ownBlock=some k→k<w.heap.size) (hRw:R<w.heap.size) (hwW:w.heap.size≤W.heap.size)
 (hown:w3.ownsRow base 65 6 (.slice (some ⟨gg,0,none⟩) (N+1) cap) (N+1) (rwvs ls ++ [.int .i64 t.a,.int .i64 t.b,.string (bs t.gc),.int .i64 t.ccc,.string (bs t.bd),.slice t.dp t.dm t.dc])) (hg:((W.alloc ob).drew).grownBy w3 v.ownBlock) (hat:v.ownBlock=some gg∨gg=W.heap.size+1)
 (hi:Is W t (rowVal f)) (hfr:∀ a,t.dp=some a→w.heap.size≤a.block) (hnb:nb=namedB (fld f 1) nmF):
 RdrI R base (ps ++ [rowVal f]) (if namedB (fld f 1) nmF=true then some (num,f) else none) (wr11 w3 R (.slice (some ⟨gg,0,none⟩) (N+1) cap) nb num (bs (fld f 1)) (decide (fld f 5 = [])) t) ∧
 Hold (GA R) W (wr11 w3 R (.slice (some ⟨gg,0,none⟩) (N+1) cap) nb num (bs (fld f 1)) (decide (fld f 5 = [])) t)∧Below R W (wr11 w3 R (.slice (some ⟨gg,0,none⟩) (N+1) cap) nb num (bs (fld f 1)) (decide (fld f 5 = [])) t):=by
 obtain⟨ho,hist,hap,hRb⟩:=hr
 have hsz:W.heap.size+1≤w3.heap.size:=by have:=hg.size;simpa [World.drew] using this
 have blk0:∀ k,k<W.heap.size→v.ownBlock≠some k→w3.heap[k]? = W.heap[k]?:=fun k hk hne=>by
  rw [hg.block k (by simp [World.drew];omega) (fun e=>hne e.symm)]
  exact Below.heap_alloc W ob k hk
 have hRo:v.ownBlock≠some R:=fun e=>by have:=(ho.lt R e).1;omega
 have hggR:gg≠R:=by have:=(hown.lt gg rfl).1;omega
 have hx3:RBx w3 R v o n1 m1 b1 s1:=rbx_block hx (blk0 R (by omega) hRo)
 have hxx:=wr11_box (v':=.slice (some ⟨gg,0,none⟩) (N+1) cap) (o':=nb) (num':=num) (nm':=bs (fld f 1)) (bare':=decide (fld f 5 = [])) (s':=t) hx3
 have blk:∀ k,k<W.heap.size→k≠R→v.ownBlock≠some k→(wr11 w3 R (.slice (some ⟨gg,0,none⟩) (N+1) cap) nb num (bs (fld f 1)) (decide (fld f 5 = [])) t).heap[k]? = W.heap[k]?:=fun k h1 h2 h3=>by rw [wr11_other h2,blk0 k h1 h3]
 have hapt:∀ u∈ls ++ [t],0<u.dm→∀ a,u.dp=some a→a.block<W.heap.size∧v.ownBlock≠some a.block∧R<a.block∧gg≠a.block:=by
  intro u hu hd a ha
  have hlt:a.block<W.heap.size:=by
   rcases List.mem_append.1 hu with h | h
   · obtain⟨p,-,hp⟩:=ist_mem hist h
     exact is_lt hp hd ha
   · rw [List.mem_singleton.1 h] at ha hd
     exact is_lt hi hd ha
  have hother:v.ownBlock≠some a.block∧R<a.block:=by
   rcases List.mem_append.1 hu with h | h
   · exact hap u h hd a ha
   · rw [List.mem_singleton.1 h] at ha
     have:=hfr a ha
     exact⟨fun e=>by have:=hvw _ e;omega,by omega⟩
  refine⟨hlt,hother.1,hother.2,fun e=>?_⟩
  rcases hat with h | h
  · exact hother.1 (by rw [h,e])
  · omega
 refine⟨⟨.slice (some ⟨gg,0,none⟩) (N+1) cap,ls ++ [t],num,fld f 1,decide (fld f 5 = []),t,?_,⟨?_,?_,?_,hRb⟩,?_,?_⟩,?_,?_⟩
 · have e:(if namedB (fld f 1) nmF=true then some ((num,f):Ln) else none).isSome=nb:=by
    rw [hnb]
    cases namedB (fld f 1) nmF <;> rfl
   rw [e]
   exact hxx
 · rw [List.length_append,List.length_singleton,hN,←rwvs_snoc]
   exact own_block hown fun k e=>by
    have e:some gg=some k:=e
    cases e
    exact wr11_other hggR
 · exact Ist.blocks (W:=W) (by rw [wr11_size];omega) (Ist.snoc hi hist) fun u hu hd a ha _=>by
    obtain⟨h1,h2,h3,-⟩:=hapt u hu hd a ha
    exact blk _ h1 (Nat.ne_of_gt h3) h2
 · intro u hu hd a ha
   obtain⟨h1,h2,h3,h4⟩:=hapt u hu hd a ha
   exact⟨fun e=>by have e:some gg=some a.block:=e;cases e;exact h4 rfl,h3⟩
 · intro x hxe
   split at hxe
   · cases hxe
     exact⟨rfl,rfl,rfl,hi.1,hi.2.2.1,hi.2.2.2.1,hi.2.2.2.2.1⟩
   · cases hxe
 · intro _
   simp
 · exact hold_two hx.1.1 (by rw [wr11_size];omega) (fun k hk h1 h2=>blk k hk h1 h2) hxx.1.1 (fun k hk e=>by
    have e:some gg=some k:=e
    cases e
    rcases hat with h | h
    · exact h
    · omega)
 · exact wr11_below ((below_drew ((Below.refl R W).alloc (by omega) ob)).grown hg (by simp [World.drew];omega) (fun g e=>by have:=(ho.lt g e).1;omega)) (Nat.le_refl _)
end Go.Proofs.YtbkgbhlmeeodgaaGreatDoor.Uc
