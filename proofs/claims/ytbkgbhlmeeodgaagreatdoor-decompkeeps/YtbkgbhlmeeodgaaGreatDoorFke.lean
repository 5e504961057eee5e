/- DecompKeeps holds: the row's frame, the witness and the card. Its conditions: the listed package-level variables hold what the row lists of them (the card ties them to the project's own text). -/
import Derived.Test.YtbkgbhlmeeodgaaGreatDoorCards
import Derived.Test.YtbkgbhlmeeodgaaGreatDoorTie
import Derived.Test.YtbkgbhlmeeodgaaGreatDoorElk
namespace Go.Proofs.YtbkgbhlmeeodgaaGreatDoor.decompKeeps
open Go.ChangeShapes Go.WideShapes Go.ChangeAt Go.RowKit Go.Shelf
theorem walk (b0:Option Addr) (n0 m0:Nat) (z0:List Int) (b1:Option Addr) (n1 m1:Nat) (z1:List Int) (b2:Option Addr) (n2 m2:Nat) (z2:List Int) (b3:Option Addr) (n3 m3:Nat) (z3:List Int) (b4:Option Addr) (n4 m4:Nat) (z4:List Int) (b5:Option Addr) (n5 m5:Nat) (z5:List Int) (b6:Option Addr) (n6 m6:Nat) (z6:List Int) (a1:Option Addr) (len1 cap1:Nat) (zz1:List Int) (w:World) (hM:ML w) (hH:HanT w) (w0_0:IsRow .u8 w b0 n0 m0 z0) (w0_1:IsRow .u8 w b1 n1 m1 z1) (w0_2:IsRow .u8 w b2 n2 m2 z2) (w0_3:IsRow .u8 w b3 n3 m3 z3) (w0_4:IsRow .u8 w b4 n4 m4 z4) (w0_5:IsRow .u8 w b5 n5 m5 z5) (w0_6:IsRow .u8 w b6 n6 m6 z6) (l0:n0≤1000000000000000) (l1:n1≤1000000000000000) (l2:n2≤1000000000000000) (l3:n3≤1000000000000000) (l4:n4≤1000000000000000) (l5:n5≤1000000000000000) (l6:n6≤1000000000000000) (w1:IsRow .i64 w a1 len1 cap1 zz1):
 Calls Tryz.prog 4 #[.agg #[.slice b0 n0 m0,.slice b1 n1 m1,.slice b2 n2 m2,.slice b3 n3 m3,.slice b4 n4 m4,.slice b5 n5 m5,.slice b6 n6 m6],.slice a1 len1 cap1] w fun e w'=>e=.returned (.bool true)∧Below w.heap.size w w':=by
 obtain⟨f0,h0,-,-⟩:=w0_0.octs
 obtain⟨f1,h1,-,-⟩:=w0_1.octs
 obtain⟨f2,h2,-,-⟩:=w0_2.octs
 obtain⟨f3,h3,-,-⟩:=w0_3.octs
 obtain⟨f4,h4,-,-⟩:=w0_4.octs
 obtain⟨f5,h5,-,-⟩:=w0_5.octs
 obtain⟨f6,h6,-,-⟩:=w0_6.octs
 obtain⟨hv1,hc1,hn1,hq1⟩:=w1.vals
 exact keeps5 b0 b1 b2 b3 b4 b5 b6 n0 n1 n2 n3 n4 n5 n6 m0 m1 m2 m3 m4 m5 m6 (fun i=>match i with | 0=>f0 | 1=>f1 | 2=>f2 | 3=>f3 | 4=>f4 | 5=>f5 | 6=>f6 | _=>[]) a1 len1 cap1 (zz1.take len1) w h0 h1 h2 h3 h4 h5 h6 l0 l1 l2 l3 l4 l5 l6 (fun i hi=>match i,hi with | _+7,_=>rfl) hM hH hv1 ⟨hc1,hn1⟩
set_option maxRecDepth 100000 in
theorem contract (H:Type) (enc:TypeId×Value→H) (W:World) (base:Nat) (args:Array Value) (ds gs:List (DataW H)) (before:List MemPlace)
 (hval:∀ (j:Nat) t v,Tryz.f4.params[j]? = some t→args[j]? = some v→Value.okWide Tryz.prog W .any base t v)
 (hW:DataW.Whole enc Tryz.prog Tryz.f4.params.toList Rows.decompKeepsSpec.vars false W args.toList ds gs before) (hsh:W.ShapedOpen Tryz.prog) (hL:laidMetH Tryz.prog Rows.decompKeepsRow.laid W) (hsz:(DataW.weightsEach Tryz.prog (Tryz.f4.params.toList++(OpenSpec.ofChange Rows.decompKeepsSpec).bare.plain.varTypes Tryz.prog) (ds++gs)).all (· ≤ reachBytes)=true):
 Calls Tryz.prog 4 args W fun e W'=>∃ v,e=.returned v∧Rows.decompKeepsSpec.post enc Tryz.prog Tryz.f4 false true false false W args v W':=by
 have hM:ML W:=Tryz.maxLen_cell W hsh
 have hH:HanT W:=hant hL
 have hW':=hW
 obtain⟨p,q,hA0,hV,rfl,hfz,hnd⟩:=hW
 have hA:DataW.TrodAll enc Tryz.prog W 0 (fun _=>true) true Tryz.f4.params.toList args.toList ds p:=hA0
 rw [Tryz.params4] at hA hval
 obtain⟨v0,vs0,d0,ds0,p0,q0,hargs,rfl,rfl,h0,r0⟩:=trodAll_cons hA
 obtain⟨v1,vs1,d1,ds1,p1,q1,rfl,rfl,rfl,h1,r1⟩:=trodAll_cons r0
 obtain⟨rfl,rfl,rfl⟩:=trodAll_nil r1
 obtain rfl:args=#[v0,v1]:=by cases args;simp_all
 obtain⟨rfl,rfl⟩:=trodVars_none hV
 have k0:=h0
 have lt0:∀ x∈p0,x.block<W.heap.size:=by obtain⟨m,hm⟩:=k0;exact DataW.trod_lt m _ _ _ hm
 have hzz:∀ n∈d0.weights Tryz.prog 24,n≤reachBytes:=fun n hn=>by
  have:=List.all_eq_true.1 hsz n (DataW.weights_mem_each (j:=0) (t:=24) (d:=d0) (by rw [Tryz.params4];rfl) rfl n hn)
  simpa using this
 obtain⟨x0,x1,x2,x3,x4,x5,x6,y0,y1,y2,y3,y4,y5,y6,rfl,rfl,⟨_,g0⟩,⟨_,g1⟩,⟨_,g2⟩,⟨_,g3⟩,⟨_,g4⟩,⟨_,g5⟩,⟨_,g6⟩⟩:=open_agg7w Tryz.underlying24 (by kernel_rfl) (by kernel_rfl) (hval 0 24 v0 rfl rfl) h0
 simp only [DataW.weights,Tryz.underlying24,DataW.weightsEach,List.map_cons,List.map_nil,List.append_nil,List.mem_append] at hzz
 obtain⟨b0,n0,m0,z0,rfl,w0_0,l0⟩:=row_of_trodw g0 (fun n hn=>hzz n (.inl hn))
 obtain⟨b1,n1,m1,z1,rfl,w0_1,l1⟩:=row_of_trodw g1 (fun n hn=>hzz n (.inr (.inl hn)))
 obtain⟨b2,n2,m2,z2,rfl,w0_2,l2⟩:=row_of_trodw g2 (fun n hn=>hzz n (.inr (.inr (.inl hn))))
 obtain⟨b3,n3,m3,z3,rfl,w0_3,l3⟩:=row_of_trodw g3 (fun n hn=>hzz n (.inr (.inr (.inr (.inl hn)))))
 obtain⟨b4,n4,m4,z4,rfl,w0_4,l4⟩:=row_of_trodw g4 (fun n hn=>hzz n (.inr (.inr (.inr (.inr (.inl hn))))))
 obtain⟨b5,n5,m5,z5,rfl,w0_5,l5⟩:=row_of_trodw g5 (fun n hn=>hzz n (.inr (.inr (.inr (.inr (.inr (.inl hn)))))))
 obtain⟨b6,n6,m6,z6,rfl,w0_6,l6⟩:=row_of_trodw g6 (fun n hn=>hzz n (.inr (.inr (.inr (.inr (.inr (.inr (hn))))))))
 obtain⟨a1,len1,cap1,rfl⟩:=okWide_slice Tryz.underlying25 (hval 1 25 v1 rfl rfl)
 have k1:=h1
 have lt1:∀ x∈p1,x.block<W.heap.size:=by obtain⟨m,hm⟩:=k1;exact DataW.trod_lt m _ _ _ hm
 obtain⟨zz1,w1⟩:∃ zs,IsRow .i64 W a1 len1 cap1 zs:=by
  obtain⟨fuel,hf⟩:=h1
  rcases open_ints Tryz.underlying25 Tryz.underlying3 (by kernel_rfl) hf with ⟨hcs,_⟩ | ⟨x,l,c,zs,hcs,_,hl,hm,hz,_,hcell,hwz⟩
  · simp [Value.cells] at hcs
    obtain⟨rfl,rfl,rfl⟩:=hcs
    exact⟨[],.inl ⟨rfl,rfl,rfl,rfl⟩⟩
  · simp [Value.cells] at hcs
    obtain⟨rfl,rfl,rfl⟩:=hcs
    exact⟨zs,.inr ⟨_,rfl,hl,hm,by simpa using hz,hcell,hwz⟩⟩
 clear hA0
 refine (walk b0 n0 m0 z0 b1 n1 m1 z1 b2 n2 m2 z2 b3 n3 m3 z3 b4 n4 m4 z4 b5 n5 m5 z5 b6 n6 m6 z6 a1 len1 cap1 zz1 W hM hH w0_0 w0_1 w0_2 w0_3 w0_4 w0_5 w0_6 l0 l1 l2 l3 l4 l5 l6 w1).mono fun e W' ⟨he,bel⟩=>?_
 subst he
 exact⟨_,rfl,_,_,_,[],_,[],hW',trodAll_mk1 (shut_bool Tryz.underlying4 _),(trodAll_cons_mk (Below.trod laidOut (by kernel_rfl) (of_decide_eq_true (by kernel_rfl)) k0 bel lt0) (trodAll_cons_mk (Below.trod laidOut (by kernel_rfl) (of_decide_eq_true (by kernel_rfl)) k1 bel lt1) trodAll_mk0)),rfl,bel.frame _,fun h=>by cases h⟩
theorem laid_met (os:Os):laidMet Tryz.prog Rows.decompKeepsRow.laid ((laidWorld os).forCall (fun _ _=>0) ⟨#[],#[.agg #[.slice none 0 0,.slice none 0 0,.slice none 0 0,.slice none 0 0,.slice none 0 0,.slice none 0 0,.slice none 0 0],.slice none 0 0],[]⟩).memory:=
 laidMet_of_run' 8 (by kernel_rfl) (by kernel_rfl)
theorem reads (os:Os) {H:Type} (enc:TypeId×Value→H):∃ places,DataW.whole enc Tryz.prog ((laidWorld os).forCall (fun _ _=>0) ⟨#[],#[.agg #[.slice none 0 0,.slice none 0 0,.slice none 0 0,.slice none 0 0,.slice none 0 0,.slice none 0 0,.slice none 0 0],.slice none 0 0],[]⟩).memory Tryz.f4.params.toList Rows.decompKeepsSpec.vars false #[Value.agg #[.slice none 0 0,.slice none 0 0,.slice none 0 0,.slice none 0 0,.slice none 0 0,.slice none 0 0,.slice none 0 0],.slice none 0 0].toList 8=some ([.agg [.nil,.nil,.nil,.nil,.nil,.nil,.nil],.nil],[],places):=
 ⟨[],by kernel_rfl⟩
set_option maxRecDepth 100000 in
theorem lifted (os:Os) (started:os.Started) (H:Type) (enc:TypeId×Value→H) (F:Stop.Interp):
 ReturnsInHanded {} Tryz.checked os 4 .any ((OpenSpec.ofChange Rows.decompKeepsSpec).preRow enc Tryz.prog Tryz.f4 Rows.decompKeepsRow.domain false Rows.decompKeepsRow.laid) (((OpenSpec.ofChange Rows.decompKeepsSpec).at F).post enc Tryz.prog Tryz.f4 false true false false):=by
 obtain⟨places,hx⟩:=reads os enc
 refine returnsInHanded_of_row (C:=Tryz.checked) (s:=OpenSpec.ofChange Rows.decompKeepsSpec) own started (by kernel_rfl) Tryz.func4
  (witness_row_at (enc:=enc) (C:=Tryz.checked) false (laidWorld os) #[.agg #[.slice none 0 0,.slice none 0 0,.slice none 0 0,.slice none 0 0,.slice none 0 0,.slice none 0 0,.slice none 0 0],.slice none 0 0] rfl (by kernel_rfl) (by kernel_rfl) (by kernel_rfl)
   (OpenSpec.preRow_of_cond 8 hx (by kernel_rfl) (fun k hk=>by cases hk) (by kernel_rfl) (laid_met os))) ?_
 intro W base args ds gs before hval hW _ _ hsz hL hsh _
 exact contract H enc W base args ds gs before hval hW hsh hL hsz
theorem said:Rows.DecompKeepsSaid:=
 OpenClaim.holds_of_cond 4 Tryz.f4 rfl rfl rfl rfl rfl rfl rfl ⟨rfl,rfl,rfl,rfl,rfl⟩ rfl rfl rfl rfl rfl (by kernel_rfl) Tryz.func4 (by kernel_rfl)
  (of_decide_eq_true (by kernel_rfl)) (by unfold Func.isWrapper;first | (rw [if_pos (by decide +kernel)];kernel_rfl) | (rw [if_neg (by decide +kernel)];exact⟨rfl,rfl⟩))
  (fun os started H enc _ F=>by rw [OpenClaim.pre_eq_preRow];exact lifted os started H enc F)
theorem plain (f:FuncId) (fn:Func) (hf:Tryz.pinned.checked.prog.funcNamed Rows.decompKeepsRow.func=some f) (hfn:Tryz.pinned.checked.prog.funcs[f]? = some fn):
 false=Tryz.pinned.checked.prog.looks []∧∀ (j:Nat) t,fn.params[j]? = some t→Tryz.pinned.checked.prog.wantsStandIn t=false:=by
 obtain rfl:f=4:=Option.some.inj ((show Tryz.prog.funcNamed Rows.decompKeepsRow.func=some 4 by kernel_rfl).symm.trans hf) |>.symm
 obtain rfl:fn=Tryz.f4:=(Option.some.inj (Tryz.func4.symm.trans hfn)).symm
 refine⟨by kernel_rfl,fun j t ht=>?_⟩
 rw [Tryz.params4] at ht
 have hm:=Array.mem_of_getElem? ht
 simp at hm
 rcases hm with rfl | rfl
 · exact (show Tryz.prog.wantsStandIn 24=false by kernel_rfl)
 · exact (show Tryz.prog.wantsStandIn 25=false by kernel_rfl)
end Go.Proofs.YtbkgbhlmeeodgaaGreatDoor.decompKeeps
namespace Go.Proofs.YtbkgbhlmeeodgaaGreatDoor
theorem decompKeeps_card:Rows.DecompKeepsCardSaid:=
 Claim7.holds_tied_plain_at .later [] _ _ _ _ decompKeeps.said (fun _ h=>by cases h) (by kernel_rfl) (fun _ h=>by cases h) decompKeeps_row_tie rfl ⟨rfl,rfl⟩ (by kernel_rfl) rfl decompKeeps.plain (by kernel_rfl)
#print axioms decompKeeps_card
end Go.Proofs.YtbkgbhlmeeodgaaGreatDoor
