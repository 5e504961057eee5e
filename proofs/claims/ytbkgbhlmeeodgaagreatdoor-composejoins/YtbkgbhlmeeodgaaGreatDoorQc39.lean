/- A part. -/
import Derived.Test.YtbkgbhlmeeodgaaGreatDoorQc38
import Derived.Deep.OwnRows
namespace Go.Proofs.YtbkgbhlmeeodgaaGreatDoor
open Go.RowKit Go.Lib Go.Shelf
structure RowC (w:World) (g c:Nat):Prop where
 has:∃ cur,w.heap[g]? = some (.cells cur 3 (0,0))∧cur.size=c
theorem rc_own {w:World} {base g n c:Nat} {xs:List Value} (h:w.ownsRow base 3 1 (.slice (some ⟨g,0,none⟩) n c) n xs):RowC w g c∧base≤g∧n≤c∧c≤maxLen∧∀ j u,xs[j]? = some u→w.cell? ⟨g,j,none⟩=some u:=by
 have hcc:=fun j u hj=>h.cells (g:=g) rfl j u hj
 rcases h.2 with ⟨h,_⟩ | ⟨g',cap,cur,e,hb,hg,hc,hm,hs,-⟩
 · cases h
 · cases e
   refine⟨⟨cur,hg,by omega⟩,hb,hc,hm,fun j u hj=>?_⟩
   have:=hcc j u hj
   rwa [add_at,Nat.zero_add] at this
theorem rc_set {g c:Nat}:∀ (us:List Value) (o:Nat) {w:World},RowC w g c→RowC (w.setCells g o us) g c
 | [],_,_,h=>h
 | v::r,o,w,⟨cur,h,hs⟩=>by
  rw [World.setCells]
  exact rc_set r (o+1) ⟨cur.setIfInBounds o v,by simp [World.setCell,Array.getElem?_modify,h],by simpa using hs⟩
theorem RowC.isSome {w:World} {g c:Nat} (h:RowC w g c) (j:Nat) (hj:j<c):(w.cell? ⟨g,j,none⟩).isSome=true:=by
 obtain⟨cur,h1,h2⟩:=h
 subst h2
 simp [World.cell?,h1,hj]
theorem RowC.frozen {w:World} {g c:Nat} (h:RowC w g c) (j:Nat):w.frozen? ⟨g,j,none⟩=false:=by
 obtain⟨cur,h1,-⟩:=h
 simp only [World.frozen?]
 rw [h1]
 simp
theorem RowC.shape {w:World} {g c:Nat} (h:RowC w g c):w.shape? g=some (3,c):=by
 obtain⟨cur,h1,h2⟩:=h
 simp [World.shape?,h1,h2]
theorem RowC.own {w:World} {base g n c:Nat} {xs:List Value} (h:RowC w g c) (hb:base≤g) (hn:n≤c) (hm:c≤maxLen) (hl:xs.length=n) (hc:∀ j u,xs[j]? = some u→w.cell? ⟨g,j,none⟩=some u):w.ownsRow base 3 1 (.slice (some ⟨g,0,none⟩) n c) n xs:=by
 obtain⟨cur,h1,h2⟩:=h
 refine⟨by omega,.inr ⟨g,c,cur,rfl,hb,h1,hn,hm,by omega,?_⟩⟩
 apply List.ext_getElem?
 intro j
 rcases Nat.lt_or_ge j n with hj | hj
 · rw [List.getElem?_take_of_lt (by omega),List.getElem?_eq_getElem (by simpa [h2] using Nat.lt_of_lt_of_le hj hn)]
   have h3:=hc j _ (List.getElem?_eq_getElem (by omega))
   simp [World.cell?,h1] at h3
   obtain⟨h4,h5⟩:=Array.getElem?_eq_some_iff.1 h3
   rw [List.getElem?_eq_getElem (by omega)]
   simpa using h5
 · rw [List.getElem?_eq_none (by rw [List.length_take];omega),List.getElem?_eq_none (by omega)]
theorem grown_trans {w w' w'':World} {r:Option Nat} (h:w.grownBy w' r) (h':w'.grownBy w'' r):w.grownBy w'' r:=
 ⟨h'.os.trans h.os,h'.tape.trans h.tape,h'.output.trans h.output,Nat.le_trans h.size h'.size,fun k hk hr=>(h'.block k (Nat.lt_of_lt_of_le hk h.size) hr).trans (h.block k hk hr)⟩
theorem grown_set {g:Nat}:∀ (us:List Value) (o:Nat) (w:World),w.grownBy (w.setCells g o us) (some g)
 | [],_,w=>World.grownBy.refl w _
 | v::r,o,w=>by
  rw [World.setCells]
  exact grown_trans (w':=w.setCell ⟨g,o,none⟩ v) ⟨rfl,rfl,rfl,by simp,fun k _ hk=>Below.heap_setCell w ⟨g,o,none⟩ v k (fun e=>hk (congrArg some e))⟩ (grown_set r (o+1) _)
theorem cells_two {w:World} {g c a m:Nat} {A V B:List Value} (h:RowC w g c) (hA:A.length=a) (hV:V.length=m) (hc:a+m+B.length≤c) (hold:∀ j u,A[j]? = some u→w.cell? ⟨g,j,none⟩=some u):
 ∀ j u,(A++V++B)[j]? = some u→((w.setCells g (a+m) B).setCells g a V).cell? ⟨g,j,none⟩=some u:=by
 intro j u hj
 have hB:=rc_set B (a+m) h
 rcases Nat.lt_or_ge j a with h1 | h1
 · rw [List.append_assoc,List.getElem?_append_left (by omega)] at hj
   rw [World.cell?_setCells_out g _ _ _ _ (fun _ _=>.inl h1),World.cell?_setCells_out g _ _ _ _ (fun _ _=>.inl (by show j<a+m;omega))]
   exact hold j u hj
 · rcases Nat.lt_or_ge j (a+m) with h2 | h2
   · rw [List.append_assoc,List.getElem?_append_right (by omega),List.getElem?_append_left (by omega)] at hj
     obtain⟨h3,h4⟩:=List.getElem?_eq_some_iff.1 hj
     have:=World.cell?_setCells_in g V a (w.setCells g (a+m) B) (fun i hi=>hB.isSome _ (by omega)) (j-A.length) h3
     rw [show a+(j-A.length)=j by omega,h4] at this
     exact this
   · rw [List.getElem?_append_right (by rw [List.length_append];omega),List.length_append] at hj
     obtain⟨h3,h4⟩:=List.getElem?_eq_some_iff.1 hj
     have:=World.cell?_setCells_in g B (a+m) w (fun i hi=>h.isSome _ (by omega)) (j-(A.length+V.length)) h3
     rw [show a+m+(j-(A.length+V.length))=j by omega,h4] at this
     rw [World.cell?_setCells_out g _ _ _ _ (fun _ _=>.inr (by show a+V.length≤j;omega))]
     exact this
theorem lay_two {w:World} {base g c a m:Nat} {A V B:List Int} (h:RowC w g c) (hb:base≤g) (hm:c≤maxLen) (hA:A.length=a) (hV:V.length=m) (hc:a+m+B.length≤c) (hold:∀ j u,(nums .i64 A)[j]? = some u→w.cell? ⟨g,j,none⟩=some u):
 ((w.setCells g (a+m) (nums .i64 B)).setCells g a (nums .i64 V)).ownsRow base 3 1 (.slice (some ⟨g,0,none⟩) (a+m+B.length) c) (a+m+B.length) (nums .i64 (A++V++B)):=by
 refine RowC.own (rc_set _ _ (rc_set _ _ h)) hb hc hm (by rw [nlen,List.length_append,List.length_append];omega) ?_
 rw [napp,napp]
 exact cells_two h (by rw [nlen];exact hA) (by rw [nlen];exact hV) (by rw [nlen];exact hc) hold
set_option maxHeartbeats 4000000 in
set_option maxRecDepth 100000 in
theorem replace_shift (base g c bv vb m vc a k:Nat) (A V B:List Int) (x:Int) (w:World) (ho:w.ownsRow base 3 1 (.slice (some ⟨g,0,none⟩) (a+1+k) c) (a+1+k) (nums .i64 (A++x::B))) (hv:w.ownsRow bv 3 1 (.slice (some ⟨vb,0,none⟩) m vc) m (nums .i64 V))
 (hne:g≠vb) (ha:A.length=a) (hB:B.length=k) (hk:0<k) (hm:1<m) (hroom:a+m+k≤c) (hn:a+m+k≤1000000):
 Calls Tryz.prog 71 #[.slice (some ⟨g,0,none⟩) (a+1+k) c,.int .i64 a,.int .i64 (a+1:Nat),.slice (some ⟨vb,0,none⟩) m vc] w (RpPost base g (A++V++B) w):=by
 obtain⟨i0,hi,hz0,hz1,hz2⟩:=infoI'
 have hVl:V.length=m:=by have:=hv.1;rw [nlen] at this;omega
 have HW:Hid (∀ W:World,W.heap=w.heap→W.os=w.os→W.tape=w.tape→W.output=w.output →
  (∀ lb,(callFunc 105 #[.slice (some ⟨g,a+m,none⟩) k lb,.slice (some ⟨vb,0,none⟩) m vc]).run Tryz.prog W=.ok (.value (.bool false)) W) ∧
  (∀ ty dc sc,(Builtin.copy_ #[25,25] ty #[.slice (some ⟨g,a+m,none⟩) k dc,.slice (some ⟨g,a+1,none⟩) k sc]).run Tryz.prog W.drew=.ok (.int .i64 k) (W.drew.setCells g (a+m) (nums .i64 B))) ∧
  (∀ ty dc,(Builtin.copy_ #[25,25] ty #[.slice (some ⟨g,a,none⟩) (a+m+k-a) dc,.slice (some ⟨vb,0,none⟩) m vc]).run Tryz.prog (W.drew.setCells g (a+m) (nums .i64 B))=.ok (.int .i64 m) ((W.drew.setCells g (a+m) (nums .i64 B)).setCells g a (nums .i64 V))) ∧
  RpPost base g (A++V++B) w (.returned (.slice (some ⟨g,0,none⟩) (a+m+k) c)) ((W.drew.setCells g (a+m) (nums .i64 B)).setCells g a (nums .i64 V))):=fun W hh h1 h2 h3=>by
  have hoW:W.ownsRow base 3 1 (.slice (some ⟨g,0,none⟩) (a+1+k) c) (a+1+k) (nums .i64 (A++x::B)):=by unfold World.ownsRow;rw [hh];exact ho
  have hvW:W.ownsRow bv 3 1 (.slice (some ⟨vb,0,none⟩) m vc) m (nums .i64 V):=by unfold World.ownsRow;rw [hh];exact hv
  obtain⟨r1,r2,r3,r4,r5⟩:=rc_own hoW
  obtain⟨q1,q2,q3,q4,q5⟩:=rc_own hvW
  have r6:RowC W.drew g c:=⟨r1.has⟩
  have hsz:(Tryz.prog.info? 3).map (·.size)=some 1:=by rw [hi];simp [hz1]
  have hBn:(nums .i64 B).length=k:=by rw [nlen];exact hB
  have hVn:(nums .i64 V).length=m:=by rw [nlen];exact hVl
  refine⟨fun lb=>?_,fun ty dc sc=>?_,fun ty dc=>?_,?_⟩
  · rw [run_callFunc_extern Tryz.func105 (by kernel_rfl) (by kernel_rfl) (by kernel_rfl) (e:=Extern.SlicesOverlaps.overlaps #[25,25] #[4]) (by kernel_rfl),
     Lib.run_overlaps_apart W 25 4 3 Tryz.underlying25 1 Tryz.sizeOf3 ⟨g,a+m,none⟩ ⟨vb,0,none⟩ k lb m vc hne 3 3 c vc r1.shape q1.shape (by omega) (r1.frozen _) (r1.frozen _)]
    rfl
  · have:=run_copy_cells (P:=Tryz.prog) W.drew 25 25 ty 3 g (a+m) k dc ⟨g,a+1,none⟩ k sc (nums .i64 B) Tryz.underlying25 hsz (by rw [hBn];simp) (fun j v hj=>by
     rw [Addr.add_lit]
     refine r5 (a+1+j) v ?_
     rw [napp,List.getElem?_append_right (by rw [nlen];omega),nlen,show a+1+j-A.length=j+1 by omega]
     exact hj) (fun j hj=>r6.isSome _ (by omega)) (fun j hj=>r6.frozen _) none_
    rw [hBn] at this
    exact this
  · have q6:RowC (W.drew.setCells g (a+m) (nums .i64 B)) g c:=rc_set _ _ r6
    have:=run_copy_cells (P:=Tryz.prog) (W.drew.setCells g (a+m) (nums .i64 B)) 25 25 ty 3 g a (a+m+k-a) dc ⟨vb,0,none⟩ m vc (nums .i64 V) Tryz.underlying25 hsz (by rw [hVn];exact (Nat.min_eq_left (by omega)).symm) (fun j v hj=>by
     rw [Addr.add_lit,World.cell?_setCells_out g _ _ _ _ (fun h _=>absurd h.symm hne),Nat.zero_add]
     exact q5 j v hj) (fun j hj=>q6.isSome _ (by omega)) (fun j hj=>q6.frozen _) none_
    rw [hVn] at this
    exact this
  · have hl:(A++V++B).length=a+m+k:=by rw [List.length_append,List.length_append];omega
    have hL:=lay_two (w:=W.drew) (base:=base) (A:=A) (V:=V) (B:=B) r6 r2 r4 ha hVl (by omega) (fun j u hj=>r5 j u (by rw [napp,List.getElem?_append_left (List.getElem?_eq_some_iff.1 hj).1];exact hj))
    rw [hB] at hL
    have g0:w.grownBy W.drew (some g):=⟨h1,h2,h3,by show w.heap.size≤W.heap.size;rw [hh];exact Nat.le_refl _,fun j _ _=>by show W.heap[j]? = _;rw [hh]⟩
    refine⟨some ⟨g,0,none⟩,c,by rw [hl],by rw [hl];exact hL,grown_trans g0 (grown_trans (grown_set _ _ _) (grown_set _ _ _))⟩
 obtain⟨-,-,-,hcm,-⟩:=rc_own ho
 obtain⟨Z,hZ⟩:∃ Z,A++V++B=Z:=⟨_,rfl⟩
 rw [hZ] at HW ⊢
 clear ho hv ha hB hVl hZ
 have u7:(0:Int)≤(a:Int)+1:=by omega
 have e1:((a:Int)+(m:Int)+(k:Int)).toNat=a+m+k:=by omega
 have e2:IntKind.i64.wrap ((a:Int)+(m:Int))=(a:Int)+(m:Int):=by rw [IntKind.wrap_i64];omega
 have e3:IntKind.i64.wrap ((a:Int)+(m:Int)+(k:Int))=(a:Int)+(m:Int)+(k:Int):=by rw [IntKind.wrap_i64];omega
 have e4:((a:Int)+(m:Int)).toNat=a+m:=by omega
 have t1:¬(k:Int)=0:=by omega
 have t2:¬k=0:=by omega
 have t3:¬(c:Int)<(a:Int)+(m:Int)+(k:Int):=by omega
 have t4:¬(a:Int)+(m:Int)≤(a:Int)+1:=by omega
 have t5:(a:Int)+(m:Int)+(k:Int)≤(c:Int):=by omega
 have t6:(a:Int)+(m:Int)≤(a:Int)+(m:Int)+(k:Int):=by omega
 have t7:¬c=a+m:=by omega
 have t8:¬c=a:=by omega
 have t9:¬c=a+1:=by omega
 have u1:(a:Int)≤(c:Int):=by omega
 have u2:(a:Int)+1≤(c:Int):=by omega
 have u3:(a:Int)+1≤(a:Int)+1+(k:Int):=by omega
 have u4:(0:Int)≤(a:Int)+(m:Int)+(k:Int):=by omega
 have u5:(0:Int)≤(a:Int)+(m:Int):=by omega
 have u6:(a:Int)≤(a:Int)+(m:Int)+(k:Int):=by omega
 have mixed:Tryz.prog.follows .mixedOrders=true:=by kernel_rfl
 go_enter Tryz.func71,Tryz.ntmps71
 go_wp2_with fail
 go_quiet (fail)
 obtain⟨h1,h2,h3,h4⟩:=HW.out (w.drewN nq) rfl rfl rfl rfl
 have H4:=Lib.hid h4
 generalize w.drewN nq=W at h1 h2 h3 H4 ⊢
 clear h4 HW
 go_wp2_with (simp only [h1])
 go_region_law_o (refine step_copy_runI rfl _ _ 25 25 rfl _ _ (by simp [Act.eval,Act.put]) (by simp [Act.eval,Act.put]) (h2 _ _ _) ?_)
 go_wp2_with (at_builtin;refine wpList_copy_runI _ rfl _ _ 25 25 rfl _ _ rfl rfl (h3 _ _) ?_)
 go_ret
 exact H4.out
theorem clear_none (p:Option Addr) (x:Nat) (ty:TypeId) (W:World):(Builtin.clear_ #[25] ty #[.slice p 0 x]).run Tryz.prog W=.ok (.tuple #[]) W:=by
 cases p <;> simp [Builtin.clear_,run_underlying Tryz.underlying25]
theorem set_app {g:Nat}:∀ (us vs:List Value) (o:Nat) (w:World),(w.setCells g o us).setCells g (o+us.length) vs=w.setCells g o (us++vs)
 | [],_,_,_=>rfl
 | v::r,vs,o,w=>by
  rw [List.cons_append,World.setCells,World.setCells,←set_app r vs (o+1),List.length_cons,show o+1+r.length=o+(r.length+1) by omega]
set_option maxHeartbeats 4000000 in
set_option maxRecDepth 100000 in
theorem replace_one (base g c bv vb vc a k:Nat) (A B:List Int) (x y:Int) (w:World) (ho:w.ownsRow base 3 1 (.slice (some ⟨g,0,none⟩) (a+1+k) c) (a+1+k) (nums .i64 (A++x::B))) (hv:w.ownsRow bv 3 1 (.slice (some ⟨vb,0,none⟩) 1 vc) 1 (nums .i64 [y]))
 (ha:A.length=a) (hB:B.length=k) (hk:0<k) (hn:a+1+k≤1000000):
 Calls Tryz.prog 71 #[.slice (some ⟨g,0,none⟩) (a+1+k) c,.int .i64 a,.int .i64 (a+1:Nat),.slice (some ⟨vb,0,none⟩) 1 vc] w (RpPost base g (A ++ [y]++B) w):=by
 obtain⟨i0,hi,hz0,hz1,hz2⟩:=infoI'
 have HW:Hid (∀ W:World,W.heap=w.heap→W.os=w.os→W.tape=w.tape→W.output=w.output →
  (∀ ty dc,(Builtin.copy_ #[25,25] ty #[.slice (some ⟨g,a,none⟩) (a+1+k-a) dc,.slice (some ⟨vb,0,none⟩) 1 vc]).run Tryz.prog W=.ok (.int .i64 1) (W.setCells g a (nums .i64 [y]))) ∧
  (∀ ty dc sc,(Builtin.copy_ #[25,25] ty #[.slice (some ⟨g,a+1,none⟩) k dc,.slice (some ⟨g,a+1,none⟩) k sc]).run Tryz.prog (W.setCells g a (nums .i64 [y])).drew=.ok (.int .i64 k) ((W.setCells g a (nums .i64 [y])).drew.setCells g (a+1) (nums .i64 B))) ∧
  RpPost base g (A ++ [y]++B) w (.returned (.slice (some ⟨g,0,none⟩) (a+1+k) c)) ((W.setCells g a (nums .i64 [y])).drew.setCells g (a+1) (nums .i64 B))):=fun W hh h1 h2 h3=>by
  have hoW:W.ownsRow base 3 1 (.slice (some ⟨g,0,none⟩) (a+1+k) c) (a+1+k) (nums .i64 (A++x::B)):=by unfold World.ownsRow;rw [hh];exact ho
  have hvW:W.ownsRow bv 3 1 (.slice (some ⟨vb,0,none⟩) 1 vc) 1 (nums .i64 [y]):=by unfold World.ownsRow;rw [hh];exact hv
  obtain⟨r1,r2,r3,r4,r5⟩:=rc_own hoW
  obtain⟨q1,q2,q3,q4,q5⟩:=rc_own hvW
  have hsz:(Tryz.prog.info? 3).map (·.size)=some 1:=by rw [hi];simp [hz1]
  have hBn:(nums .i64 B).length=k:=by rw [nlen];exact hB
  have r7:RowC (W.setCells g a (nums .i64 [y])) g c:=rc_set _ _ r1
  have r6:RowC (W.setCells g a (nums .i64 [y])).drew g c:=⟨r7.has⟩
  have hcB:∀ j v,(nums .i64 B)[j]? = some v→(W.setCells g a (nums .i64 [y])).cell? ⟨g,a+1+j,none⟩=some v:=fun j v hj=>by
   rw [World.cell?_setCells_out g _ _ _ _ (fun _ _=>.inr (by show a+1≤a+1+j;omega))]
   refine r5 (a+1+j) v ?_
   rw [napp,List.getElem?_append_right (by rw [nlen];omega),nlen,show a+1+j-A.length=j+1 by omega]
   exact hj
  refine⟨fun ty dc=>?_,fun ty dc sc=>?_,?_⟩
  · exact run_copy_cells (P:=Tryz.prog) W 25 25 ty 3 g a (a+1+k-a) dc ⟨vb,0,none⟩ 1 vc (nums .i64 [y]) Tryz.underlying25 hsz (by show 1=_;exact (Nat.min_eq_left (by omega)).symm) (fun j v hj=>by
     rw [Addr.add_lit,Nat.zero_add]
     exact q5 j v hj) (fun j hj=>r1.isSome _ (by have:j<1:=hj;omega)) (fun j hj=>r1.frozen _) none_
  · have:=run_copy_cells (P:=Tryz.prog) (W.setCells g a (nums .i64 [y])).drew 25 25 ty 3 g (a+1) k dc ⟨g,a+1,none⟩ k sc (nums .i64 B) Tryz.underlying25 hsz (by rw [hBn];simp) (fun j v hj=>by
     rw [Addr.add_lit]
     exact hcB j v hj) (fun j hj=>r6.isSome _ (by omega)) (fun j hj=>r6.frozen _) none_
    rw [hBn] at this
    exact this
  · have hl:(A ++ [y]++B).length=a+1+k:=by rw [List.length_append,List.length_append];simp;omega
    have e:((W.setCells g a (nums .i64 [y])).drew.setCells g (a+1) (nums .i64 B))=(W.setCells g a (nums .i64 ([y]++B))).drew:=by
     rw [napp,←set_app]
     exact (Go.Proofs.drew_setCells g _ _ _).symm
    have rB:RowC (W.setCells g a (nums .i64 ([y]++B))) g c:=rc_set _ _ r1
    have hL:(W.setCells g a (nums .i64 ([y]++B))).drew.ownsRow base 3 1 (.slice (some ⟨g,0,none⟩) (a+1+k) c) (a+1+k) (nums .i64 (A ++ [y]++B)):=by
     refine RowC.own (c:=c) ⟨rB.has⟩ r2 r3 r4 (by rw [nlen];exact hl) (fun j u hj=>?_)
     show (W.setCells g a (nums .i64 ([y]++B))).cell? _=_
     rw [List.append_assoc,napp] at hj
     rcases Nat.lt_or_ge j a with h5 | h5
     · rw [List.getElem?_append_left (by rw [nlen];omega)] at hj
       rw [World.cell?_setCells_out g _ _ _ _ (fun _ _=>.inl h5)]
       exact r5 j u (by rw [napp,List.getElem?_append_left (by rw [nlen];omega)];exact hj)
     · rw [List.getElem?_append_right (by rw [nlen];omega),nlen] at hj
       obtain⟨h6,h7⟩:=List.getElem?_eq_some_iff.1 hj
       have:=World.cell?_setCells_in g (nums .i64 ([y]++B)) a W (fun i hi=>r1.isSome _ (by rw [nlen] at hi;simp at hi;omega)) (j-A.length) h6
       rw [show a+(j-A.length)=j by omega,h7] at this
       exact this
    have g0:w.grownBy W (some g):=⟨h1,h2,h3,by rw [hh];exact Nat.le_refl _,fun j _ _=>by rw [hh]⟩
    have g1:W.grownBy (W.setCells g a (nums .i64 ([y]++B))).drew (some g):=by
     have:=grown_set (g:=g) (nums .i64 ([y]++B)) a W
     exact⟨this.os,this.tape,this.output,this.size,this.block⟩
    rw [e]
    exact⟨some ⟨g,0,none⟩,c,by rw [hl],by rw [hl];exact hL,grown_trans g0 g1⟩
 obtain⟨-,-,hc1,hcm,-⟩:=rc_own ho
 obtain⟨Z,hZ⟩:∃ Z,A ++ [y]++B=Z:=⟨_,rfl⟩
 rw [hZ] at HW ⊢
 clear ho hv ha hB hZ
 have u7:(0:Int)≤(a:Int)+1:=by omega
 have e1:((a:Int)+1+(k:Int)).toNat=a+1+k:=by omega
 have e2:IntKind.i64.wrap ((a:Int)+1)=(a:Int)+1:=by rw [IntKind.wrap_i64];omega
 have e3:IntKind.i64.wrap ((a:Int)+1+(k:Int))=(a:Int)+1+(k:Int):=by rw [IntKind.wrap_i64];omega
 have e4:((a:Int)+1).toNat=a+1:=by omega
 have t1:¬(k:Int)=0:=by omega
 have t2:¬k=0:=by omega
 have t3:¬(c:Int)<(a:Int)+1+(k:Int):=by omega
 have t5:(a:Int)+1+(k:Int)≤(c:Int):=by omega
 have t8:¬c=a:=by omega
 have t9:¬c=a+1:=by omega
 have u1:(a:Int)≤(c:Int):=by omega
 have u2:(a:Int)+1≤(c:Int):=by omega
 have u3:(a:Int)+1≤(a:Int)+1+(k:Int):=by omega
 have u4:(0:Int)≤(a:Int)+1+(k:Int):=by omega
 have u6:(a:Int)≤(a:Int)+1+(k:Int):=by omega
 have mixed:Tryz.prog.follows .mixedOrders=true:=by kernel_rfl
 go_enter Tryz.func71,Tryz.ntmps71
 go_wp2_with fail
 go_quiet (fail)
 obtain⟨h2,h3,h4⟩:=HW.out (w.drewN nq) rfl rfl rfl rfl
 have H4:=Lib.hid h4
 generalize w.drewN nq=W at h2 h3 H4 ⊢
 clear h4 HW
 go_wp2_with (at_builtin;refine wpList_copy_runI _ rfl _ _ 25 25 rfl _ _ rfl rfl (h2 _ _) ?_)
 go_region_law_o (refine step_copy_runI rfl _ _ 25 25 rfl _ _ (by simp [Act.eval,Act.put]) (by simp [Act.eval,Act.put]) (h3 _ _ _) ?_)
 have hcl:=fun p x W=>clear_none p x 0 W
 go_wp2
 all_goals
  go_ret
  first
   | exact H4.out
   | (have h5:=H4.out;rw [show c=a+1+k by omega] at h5;exact h5)
set_option maxHeartbeats 4000000 in
set_option maxRecDepth 100000 in
theorem replace_grow (base g c bv vb m vc a k:Nat) (A V B:List Int) (x:Int) (w:World) (ho:w.ownsRow base 3 1 (.slice (some ⟨g,0,none⟩) (a+1+k) c) (a+1+k) (nums .i64 (A++x::B))) (hv:w.ownsRow bv 3 1 (.slice (some ⟨vb,0,none⟩) m vc) m (nums .i64 V))
 (ha:A.length=a) (hB:B.length=k) (hk:0<k) (hm:0<m) (hroom:c<a+m+k) (hn:a+m+k≤1000000) (hbase:base≤w.heap.size):
 Calls Tryz.prog 71 #[.slice (some ⟨g,0,none⟩) (a+1+k) c,.int .i64 a,.int .i64 (a+1:Nat),.slice (some ⟨vb,0,none⟩) m vc] w (RpPost base g (A++V++B) w):=by
 obtain⟨i0,hi,hz0,hz1,hz2⟩:=infoI'
 have hVl:V.length=m:=by have:=hv.1;rw [nlen] at this;omega
 have HW:Hid (∀ W:World,W.heap=w.heap→W.os=w.os→W.tape=w.tape→W.output=w.output→∃ W1:World,∃ C:Nat,W1.heap.size=W.heap.size+1∧a+m+k≤C ∧
  (∀ ty q,q=m+k→(Builtin.append_ #[25,3] ty #[.slice (some ⟨g,0,none⟩) a c,.int .i64 (q:Nat)]).run Tryz.prog W=.ok (.slice (some ⟨W.heap.size,0,none⟩) (a+m+k) C) W1) ∧
  (∀ ty dc,(Builtin.copy_ #[25,25] ty #[.slice (some ⟨W.heap.size,a,none⟩) (a+m+k-a) dc,.slice (some ⟨vb,0,none⟩) m vc]).run Tryz.prog W1=.ok (.int .i64 m) (W1.setCells W.heap.size a (nums .i64 V))) ∧
  (∀ ty dc sc,(Builtin.copy_ #[25,25] ty #[.slice (some ⟨W.heap.size,a+m,none⟩) k dc,.slice (some ⟨g,a+1,none⟩) k sc]).run Tryz.prog (W1.setCells W.heap.size a (nums .i64 V)).drew=.ok (.int .i64 k) ((W1.setCells W.heap.size a (nums .i64 V)).drew.setCells W.heap.size (a+m) (nums .i64 B))) ∧
  RpPost base g (A++V++B) w (.returned (.slice (some ⟨W.heap.size,0,none⟩) (a+m+k) C)) ((W1.setCells W.heap.size a (nums .i64 V)).drew.setCells W.heap.size (a+m) (nums .i64 B))):=fun W hh h1 h2 h3=>by
  have hoW:W.ownsRow base 3 1 (.slice (some ⟨g,0,none⟩) (a+1+k) c) (a+1+k) (nums .i64 (A++x::B)):=by unfold World.ownsRow;rw [hh];exact ho
  have hvW:W.ownsRow bv 3 1 (.slice (some ⟨vb,0,none⟩) m vc) m (nums .i64 V):=by unfold World.ownsRow;rw [hh];exact hv
  have gl:=(hoW.lt g rfl).2
  have vl:=(hvW.lt vb rfl).2
  obtain⟨r1,r2,r3,r4,r5⟩:=rc_own hoW
  obtain⟨q1,q2,q3,q4,q5⟩:=rc_own hvW
  have hA:=own_take hoW a (by omega)
  rw [napp,List.take_left' (by rw [nlen];exact ha)] at hA
  have hsz:(Tryz.prog.info? 3).map (·.size)=some 1:=by rw [hi];simp [hz1]
  have hBn:(nums .i64 B).length=k:=by rw [nlen];exact hB
  have hVn:(nums .i64 V).length=m:=by rw [nlen];exact hVl
  have hAn:(nums .i64 A).length=a:=by rw [nlen];exact ha
  have hold:(Builtin.firstCells i0.size a (.slice (some ⟨g,0,none⟩) a c)).run Tryz.prog W.drew=.ok (nums .i64 A).toArray W.drew:=run_firstCells_some (P:=Tryz.prog) W.drew i0.size a ⟨g,0,none⟩ a c (nums .i64 A) (by rw [hz1];omega) (fun j u hj=>hA.cells (g:=g) rfl j u hj)
  have hr:=fun ty=>Lib.run_append_grow_zeros (P:=Tryz.prog) W 25 3 ty 3 i0 (.int .i64 0) .i64 .i64 Tryz.underlying25 Tryz.underlying3 hi hz0 (some ⟨g,0,none⟩) a c (nums .i64 A) hold (m+k) (by omega) (by omega) (by omega) (by omega) (by rw [hz2];omega) (growslice_fits (by omega) (by rw [hz2];omega))
  have hge:=grownCap_ge W (a+(m+k)) c 3
  have hcm:grownCap W (a+(m+k)) c 3≤maxLen:=grownCap_le_maxLen W (a+(m+k)) c 3 (by unfold maxLen;omega)
  obtain⟨C,hC⟩:∃ C,grownCap W (a+(m+k)) c 3=C:=⟨_,rfl⟩
  rw [hC] at hr hge hcm
  obtain⟨cs,hcs⟩:∃ cs,(nums .i64 A).toArray++Builtin.zeroCells (Value.int .i64 0).cells (m+k)++Builtin.zeroCells (Value.int .i64 0).cells (C-(a+(m+k)))=cs:=⟨_,rfl⟩
  have hcz:cs.size=C:=by
   rw [←hcs]
   simp only [Array.size_append,List.size_toArray,size_zeroCells,hAn,show (Value.int .i64 0).cells=#[Value.int .i64 0] from rfl,List.length_cons,List.length_nil]
   simp
   omega
  rw [hcs] at hr
  have s1:RowC (W.drew.alloc (.cells cs 3)) W.heap.size C:=⟨cs,heap_alloc_new W.drew _,hcz⟩
  have sA:∀ j u,(nums .i64 A)[j]? = some u→(W.drew.alloc (.cells cs 3)).cell? ⟨W.heap.size,j,none⟩=some u:=fun j u hj=>by
   have hjl:=(List.getElem?_eq_some_iff.1 hj).1
   have:cs[j]? = some u:=by
    rw [←hcs,Array.append_assoc,Array.getElem?_append_left (by simpa using hjl)]
    simpa using hj
   have h9:(W.drew.alloc (.cells cs 3)).heap[W.heap.size]? = some (.cells cs 3):=heap_alloc_new W.drew _
   unfold World.cell?
   rw [h9]
   exact this
  have old:∀ b o,b<W.heap.size→(W.drew.alloc (.cells cs 3)).cell? ⟨b,o,none⟩=W.cell? ⟨b,o,none⟩:=fun b o hb=>((Below.refl W.heap.size W).drew.alloc (Nat.le_refl _) (.cells cs 3)).cell (p:=⟨b,o,none⟩) hb
  have s2:RowC ((W.drew.alloc (.cells cs 3)).setCells W.heap.size a (nums .i64 V)) W.heap.size C:=rc_set _ _ s1
  have s3:RowC ((W.drew.alloc (.cells cs 3)).setCells W.heap.size a (nums .i64 V)).drew W.heap.size C:=⟨s2.has⟩
  refine⟨W.drew.alloc (.cells cs 3),C,by rw [World.size_alloc];rfl,by omega,fun ty q hq=>?_,fun ty dc=>?_,fun ty dc sc=>?_,?_⟩
  · subst hq
    rw [show a+m+k=a+(m+k) by omega]
    exact hr ty
  · have:=run_copy_cells (P:=Tryz.prog) (W.drew.alloc (.cells cs 3)) 25 25 ty 3 W.heap.size a (a+m+k-a) dc ⟨vb,0,none⟩ m vc (nums .i64 V) Tryz.underlying25 hsz (by rw [hVn];exact (Nat.min_eq_left (by omega)).symm) (fun j v hj=>by
     rw [Addr.add_lit,Nat.zero_add,old _ _ vl]
     exact q5 j v hj) (fun j hj=>s1.isSome _ (by omega)) (fun j hj=>s1.frozen _) none_
    rw [hVn] at this
    exact this
  · have:=run_copy_cells (P:=Tryz.prog) ((W.drew.alloc (.cells cs 3)).setCells W.heap.size a (nums .i64 V)).drew 25 25 ty 3 W.heap.size (a+m) k dc ⟨g,a+1,none⟩ k sc (nums .i64 B) Tryz.underlying25 hsz (by rw [hBn];simp) (fun j v hj=>by
     rw [Addr.add_lit]
     show ((W.drew.alloc (.cells cs 3)).setCells W.heap.size a (nums .i64 V)).cell? _=_
     rw [World.cell?_setCells_out _ _ _ _ _ (fun h _=>by have:g=W.heap.size:=h;omega),old _ _ gl]
     refine r5 (a+1+j) v ?_
     rw [napp,List.getElem?_append_right (by rw [nlen];omega),nlen,show a+1+j-A.length=j+1 by omega]
     exact hj) (fun j hj=>s3.isSome _ (by omega)) (fun j hj=>s3.frozen _) none_
    rw [hBn] at this
    exact this
  · have hl:(A++V++B).length=a+m+k:=by rw [List.length_append,List.length_append];omega
    have e:(((W.drew.alloc (.cells cs 3)).setCells W.heap.size a (nums .i64 V)).drew.setCells W.heap.size (a+m) (nums .i64 B))=((W.drew.alloc (.cells cs 3)).setCells W.heap.size a (nums .i64 (V++B))).drew:=by
     have:=set_app (g:=W.heap.size) (nums .i64 V) (nums .i64 B) a (W.drew.alloc (.cells cs 3))
     rw [hVn] at this
     rw [napp,←this]
     exact (Go.Proofs.drew_setCells _ _ _ _).symm
    have rB:RowC ((W.drew.alloc (.cells cs 3)).setCells W.heap.size a (nums .i64 (V++B))) W.heap.size C:=rc_set _ _ s1
    have hL:((W.drew.alloc (.cells cs 3)).setCells W.heap.size a (nums .i64 (V++B))).drew.ownsRow base 3 1 (.slice (some ⟨W.heap.size,0,none⟩) (a+m+k) C) (a+m+k) (nums .i64 (A++V++B)):=by
     refine RowC.own (c:=C) ⟨rB.has⟩ (by rw [hh];exact hbase) (by omega) hcm (by rw [nlen];exact hl) (fun j u hj=>?_)
     show ((W.drew.alloc (.cells cs 3)).setCells W.heap.size a (nums .i64 (V++B))).cell? _=_
     rw [List.append_assoc,napp] at hj
     rcases Nat.lt_or_ge j a with h5 | h5
     · rw [List.getElem?_append_left (by rw [nlen];omega)] at hj
       rw [World.cell?_setCells_out _ _ _ _ _ (fun _ _=>.inl h5)]
       exact sA j u hj
     · rw [List.getElem?_append_right (by rw [nlen];omega),nlen] at hj
       obtain⟨h6,h7⟩:=List.getElem?_eq_some_iff.1 hj
       have:=World.cell?_setCells_in W.heap.size (nums .i64 (V++B)) a (W.drew.alloc (.cells cs 3)) (fun i hi=>s1.isSome _ (by rw [nlen,List.length_append] at hi;omega)) (j-A.length) h6
       rw [show a+(j-A.length)=j by omega,h7] at this
       exact this
    have g0:w.grownBy W (some g):=⟨h1,h2,h3,by rw [hh];exact Nat.le_refl _,fun j _ _=>by rw [hh]⟩
    have g1:W.grownBy ((W.drew.alloc (.cells cs 3)).setCells W.heap.size a (nums .i64 (V++B))).drew (some g):=by
     have g2:=grown_set (g:=W.heap.size) (nums .i64 (V++B)) a (W.drew.alloc (.cells cs 3))
     have g3:=(Below.refl W.heap.size W).drew.alloc (Nat.le_refl _) (.cells cs 3)
     exact⟨g2.os.trans g3.os,g2.tape.trans g3.tape,g2.output.trans g3.output,Nat.le_trans g3.size g2.size,fun j hj _=>(g2.block j (by rw [World.size_alloc];show j<W.heap.size+1;omega) (fun e=>by injection e with e;omega)).trans (g3.block j hj)⟩
    rw [e]
    exact⟨some ⟨W.heap.size,0,none⟩,C,by rw [hl],by rw [hl];exact hL,grown_trans g0 g1⟩
 obtain⟨-,-,hc1,hcm,-⟩:=rc_own ho
 obtain⟨Z,hZ⟩:∃ Z,A++V++B=Z:=⟨_,rfl⟩
 rw [hZ] at HW ⊢
 clear ho hv ha hB hZ hVl
 have u7:(0:Int)≤(a:Int)+1:=by omega
 have e1:((a:Int)+(m:Int)+(k:Int)).toNat=a+m+k:=by omega
 have e2:IntKind.i64.wrap ((a:Int)+(m:Int))=(a:Int)+(m:Int):=by rw [IntKind.wrap_i64];omega
 have e3:IntKind.i64.wrap ((a:Int)+(m:Int)+(k:Int))=(a:Int)+(m:Int)+(k:Int):=by rw [IntKind.wrap_i64];omega
 have e4:((a:Int)+(m:Int)).toNat=a+m:=by omega
 have e5:(a:Int)+(m:Int)+(k:Int)-(a:Int)=((m+k:Nat):Int):=by omega
 have t1:¬(k:Int)=0:=by omega
 have t2:¬k=0:=by omega
 have t3:(c:Int)<(a:Int)+(m:Int)+(k:Int):=by omega
 have t8:¬c=a:=by omega
 have t9:¬c=a+1:=by omega
 have u1:(a:Int)≤(c:Int):=by omega
 have u2:(a:Int)+1≤(c:Int):=by omega
 have u3:(a:Int)+1≤(a:Int)+1+(k:Int):=by omega
 have u4:(0:Int)≤(a:Int)+(m:Int)+(k:Int):=by omega
 have u5:(0:Int)≤(a:Int)+(m:Int):=by omega
 have u6:(a:Int)≤(a:Int)+(m:Int)+(k:Int):=by omega
 have u8:(a:Int)+(m:Int)≤(a:Int)+(m:Int)+(k:Int):=by omega
 have mixed:Tryz.prog.follows .mixedOrders=true:=by kernel_rfl
 go_enter Tryz.func71,Tryz.ntmps71
 go_wp2_with fail
 go_quiet (fail)
 obtain⟨W1,C,hsz1,hC1,h1,h2,h3,h4⟩:=HW.out (w.drewN nq) rfl rfl rfl rfl
 have H4:=Lib.hid h4
 have h1:=fun ty=>h1 ty (m+k) rfl
 generalize w.drewN nq=W at h1 h2 h3 H4 hsz1 ⊢
 obtain⟨G,hG⟩:∃ G,W.heap.size=G:=⟨_,rfl⟩
 rw [hG] at h1 h2 h3 H4
 have w1:¬C=a:=by omega
 have w2:¬C=a+m:=by omega
 have w3:(a:Int)≤(C:Int):=by omega
 have w4:(a:Int)+(m:Int)≤(C:Int):=by omega
 clear h4 HW hG hsz1
 go_wp2_with (first
  | (at_builtin;refine Lib.wpList_append_run _ rfl _ _ _ _ rfl _ _ rfl rfl _ _ (h1 _) ?_)
  | (at_builtin;refine wpList_copy_runI _ rfl _ _ 25 25 rfl _ _ rfl rfl (h2 _ _) ?_))
 go_region_law_o (refine step_copy_runI rfl _ _ 25 25 rfl _ _ (by simp [Act.eval,Act.put]) (by simp [Act.eval,Act.put]) (h3 _ _ _) ?_)
 go_wp2
 go_ret
 exact H4.out
end Go.Proofs.YtbkgbhlmeeodgaaGreatDoor
