/- A part. -/
import Derived.Test.YtbkgbhlmeeodgaaGreatDoorQc31
namespace Go.Proofs.YtbkgbhlmeeodgaaGreatDoor.Cf
open Go.RowKit Go.Shelf Go.Sort
attribute [local go_sem] Oper.semAt_some
def LBox (x:LnV) (b:Nat) (W:World):Prop:=W.cell? ⟨b,0,none⟩=some (.int .i64 x.1)∧W.cell? ⟨b,1,none⟩=some (.slice x.2.1 x.2.2.length x.2.2.length)
theorem lbox_abide (x:LnV) (b B:Nat):Abide 0 0 B (fun (_:Unit) W=>LBox x b W):=Abide.and (cell_abide _ _) (cell_abide _ _)
theorem flnRd_abide (n N0:Nat) (x:LnV) (B:Nat):Abide 0 0 B (fun (_:Unit) W=>FLnRd n N0 x W):=
 Abide.and (lnRd_abide x B) (Abide.and (fun _ _ _ _ h hg _=>Nat.le_trans h hg.size) (Abide.pure _ _ _ _))
theorem rp_any {x:LnV} {n N0:Nat} {W:World} (hR:FLnRd n N0 x W) (hn:n≤4000) (hM:ML W):Calls Tryz.prog 118 #[.slice x.2.1 x.2.2.length x.2.2.length] W (RpPost x.2.2 W):=
 readpair17 x.2.1 x.2.2.length x.2.2.length x.2.2 W hR.1.1 (fun f hf=>Nat.le_trans (hR.2.2 f hf) hn) hM
theorem rp_good {x:LnV} {n N0:Nat} {W:World} (hR:FLnRd n N0 x W) (hn:n≤4000) (hM:ML W) (h:cErr x.2.2=0):
 Calls Tryz.prog 118 #[.slice x.2.1 x.2.2.length x.2.2.length] W fun e w'=>∃ A k,e=.returned (.tuple #[.int .i64 (cPair x.2.2).c,.slice A (cPair x.2.2).p.length k,.int .i64 0])∧Hid (Below W.heap.size W w'∧Vals w' A (cPair x.2.2).p.length (nums .i64 (cPair x.2.2).p)∧∀ a,A=some a→W.heap.size≤a.block):=by
 refine (rp_any hR hn hM).mono ?_
 rintro e w' ⟨hb,⟨-,A,k,rfl,hv⟩ | ⟨h',-⟩⟩
 · exact⟨A,k,rfl,Lib.hid ⟨hb,hv.out⟩⟩
 · exact absurd h h'
theorem rp_wrong {x:LnV} {n N0:Nat} {W:World} (hR:FLnRd n N0 x W) (hn:n≤4000) (hM:ML W) {E:Int} (h:cErr x.2.2=E) (hE:¬E=0):
 Calls Tryz.prog 118 #[.slice x.2.1 x.2.2.length x.2.2.length] W fun e w'=>e=.returned (.tuple #[.int .i64 0,.slice none 0 0,.int .i64 E])∧Below W.heap.size W w':=by
 refine (rp_any hR hn hM).mono ?_
 rintro e w' ⟨hb,⟨h',-⟩ | ⟨-,rfl⟩⟩
 · exact absurd (h.symm.trans h') hE
 · rw [h];exact⟨rfl,hb⟩
def firstW (w:World):World:=((((w.alloc (.cells #[.pointer none] 76)).alloc (.cells #[.int .i64 0] 40)).alloc (.cells #[.int .i64 0] 3)).alloc (.map #[] 0)).alloc (.cells #[.map (some (w.heap.size+3))] 183)
theorem first_facts (w:World):Below w.heap.size w (firstW w)∧(firstW w).heap.size=w.heap.size+5∧RB3 w.heap.size none 0 0 (firstW w)∧MapW (w.heap.size+5) (w.heap.size+3) 0 (.map []) [] (firstW w)∧(firstW w).cell? ⟨w.heap.size+4,0,none⟩=some (.map (some (w.heap.size+3))):=by
 unfold firstW
 have n1:=box_new w (.pointer none) 76
 have n2:=box_new (w.alloc (.cells #[.pointer none] 76)) (.int .i64 0) 40
 have n3:=box_new ((w.alloc (.cells #[.pointer none] 76)).alloc (.cells #[.int .i64 0] 40)) (.int .i64 0) 3
 have n4:=World.ownsMap_made (((w.alloc (.cells #[.pointer none] 76)).alloc (.cells #[.int .i64 0] 40)).alloc (.cells #[.int .i64 0] 3)) Tryz.prog (3) tokE
 have n5:=box_new ((((w.alloc (.cells #[.pointer none] 76)).alloc (.cells #[.int .i64 0] 40)).alloc (.cells #[.int .i64 0] 3)).alloc (.map #[] 0)) (.map (some (w.heap.size+3))) 183
 rw [World.size_alloc] at n2
 rw [World.size_alloc,World.size_alloc] at n3
 rw [World.size_alloc,World.size_alloc,World.size_alloc] at n4
 rw [World.size_alloc,World.size_alloc,World.size_alloc,World.size_alloc] at n5
 refine⟨((((Below.refl _ _).alloc (Nat.le_refl _) _).alloc (by simp) _).alloc (by simp;omega) _).alloc (by simp;omega) _ |>.alloc (by simp;omega) _,by simp,?_,mapw_new (n4.alloc _),n5.1⟩
 exact⟨⟨box_cell _ (box_cell _ (box_cell _ (box_cell _ n1.1))),box_frozen _ (box_cell _ (box_cell _ (box_cell _ n1.1))) (box_frozen _ (box_cell _ (box_cell _ n1.1)) (box_frozen _ (box_cell _ n1.1) (box_frozen _ n1.1 n1.2)))⟩,⟨box_cell _ (box_cell _ (box_cell _ n2.1)),box_frozen _ (box_cell _ (box_cell _ n2.1)) (box_frozen _ (box_cell _ n2.1) (box_frozen _ n2.1 n2.2))⟩,box_cell _ (box_cell _ n3.1),box_frozen _ (box_cell _ n3.1) (box_frozen _ n3.1 n3.2)⟩
theorem leave7 {Rp:Ending→World→Prop} {Wf:World} {D m H:Nat} {tmps:Array Value} {p:Option Addr} {e n:Int} (t2:tmps[2]?.getD undef=.pointer (some ⟨H,0,none⟩)) (t3:tmps[3]?.getD undef=.pointer (some ⟨H+1,0,none⟩)) (t4:tmps[4]?.getD undef=.pointer (some ⟨H+2,0,none⟩)) (hk:Wf.heap[D]? = some (.deferred (some [])))
 (hr:RB3 H p e n Wf) (h:Rp (.returned (.tuple #[.pointer p,.int .i64 e,.int .i64 n])) (Wf.putObj D (.deferred none))):
 LeavesInM Fence.wide m Tryz.prog Tryz.f79 tmps Rp [{ target:=.collected D,args:=#[] }] .returning Wf:=by
 refine⟨by simp,.inl ⟨_,_,rfl,run_takeDeferred hk,?_⟩⟩
 have k1:=cell_kept hr.1.1 (grownBy_putObj' _ D (.deferred none)) (fun r e=>by cases e;exact⟨_,hk,rfl⟩)
 have k2:=cell_kept hr.2.1.1 (grownBy_putObj' _ D (.deferred none)) (fun r e=>by cases e;exact⟨_,hk,rfl⟩)
 have k3:=cell_kept hr.2.2.1 (grownBy_putObj' _ D (.deferred none)) (fun r e=>by cases e;exact⟨_,hk,rfl⟩)
 refine⟨.tuple #[.pointer p,.int .i64 e,.int .i64 n],?_,h⟩
 simp [results,Tryz.results79,go_sem,k1,k2,k3,t2,t3,t4]
theorem lines_few {l:List UInt8}:(linesIn l).length≤l.length+1:=by
 rw [←lines_pieces]
 have h1:=List.length_filterMap_le lineOf (numbered 1 (pieces l))
 rw [numbered_length] at h1
 have h2:=pieces_length l
 omega
theorem rb3_comm {H:Nat} {p:Option Addr} {e n:Int} {W:World} (h:H+1+1<W.heap.size) (o:Obj):rb3_set H p e n (W.alloc o)=(rb3_set H p e n W).alloc o:=by
 unfold rb3_set
 have h0:H<W.heap.size:=by omega
 have h1:H+1<W.heap.size:=by omega
 have h2:H+2<W.heap.size:=by omega
 simp [go_sem,h0,h1,h2]
theorem far_set {X:World} {b k:Nat} {u v:Value} (h:X.cell? ⟨k,0,none⟩=some v) (hne:b≠k):(X.setCell ⟨b,0,none⟩ u).cell? ⟨k,0,none⟩=some v:=
 (World.cell?_setCell_other _ _ _ _ (by intro e;injection e with e1;omega)).trans h
set_option maxRecDepth 100000 in
set_option maxHeartbeats 4000000 in
theorem cparse7 (A:Option Addr) (n c:Nat) (l:List UInt8) (w:World) (hO:Octs w A n l) (hn:n≤4000) (hM:ML w):Calls Tryz.prog 79 #[.slice A n c] w (CpPost l w):=by
 have h0w:1<w.heap.size:=by obtain⟨mm,hmm⟩:=hM;exact World.block_lt_of_cell? w _ hmm
 obtain⟨f1,f2,f3,f4,f5⟩:=first_facts w
 have c16:=callsIn_wide (n:=8) |>.2 (lines9 A n c l (firstW w) (hO.below f1) (by omega))
 have HOL:Hid (l.length≤4000):=Lib.hid (by rw [hO.len];exact hn)
 have HM:=Lib.hid hM
 have HF:=Lib.hid (And.intro f1 (And.intro f2 (And.intro f3 (And.intro f4 f5))))
 have hmk:=@run_makeMap Tryz.prog
 clear hO hM f1 f2 f3 f4 f5
 unfold firstW at c16
 refine (callsIn_wide (n:=9)).1 ?_
 refine callsIn_of_wp_marks Tryz.func79 rfl trivial ?_ rfl
 simp only [Tryz.ntmps79,List.size_toArray,List.length_cons,List.length_nil,Nat.reduceAdd,Nat.reduceSub,Array.replicate_succ,Array.replicate_zero,List.push_toArray,List.append_toArray,List.nil_append,List.cons_append]
 gi_wp2
 refine⟨trivial,?_⟩
 refine c16.mono ?_
 rintro e W4 ⟨hb1',B,P,c',rfl,hB0',hB1,hBc,hOc,hcc,hPc,hPb'⟩
 clear c16 hmk
 have hb1:Below (firstW w).heap.size (firstW w) W4:=hb1'
 have hB0:(firstW w).heap.size≤B:=hB0'
 have hPb:∀ a,P=some a→(firstW w).heap.size≤a.block∧a.block<W4.heap.size:=hPb'
 clear hb1' hB0' hPb'
 gi_wp2
 obtain⟨g1,g2,g3,g4,g5⟩:=HF.out
 have hs1:=hb1.size
 rw [g2] at hs1 hB0 hPb
 have hb4:Below w.heap.size w W4:=g1.trans (hb1.mono (by omega))
 have hm4:ML W4:=HM.out.below hb4
 have hq:=fiter30 8 B n c' P l (PAc w.heap.size) W4 (pac_lets _) (by omega) (by omega) hB1 hBc hOc (fun a e=>by have:=hPb a e;exact⟨⟨by omega,by omega,by omega,by omega⟩,this.2⟩) ⟨by omega,by omega,by omega,by omega⟩ hm4 hPc hcc
 have h0:CqI w [] W4:=⟨((0,.map []),[]),⟨rfl,Nat.le_refl _⟩,g4.below hb1,g3.below (by omega) hb1,(hb1.cell (p:=⟨w.heap.size+4,0,none⟩) (by show w.heap.size+4<_;omega)).trans g5,hm4,hb4⟩
 have HQ:=Lib.hid hq
 have H0:=Lib.hid h0
 have HSZ:Hid (w.heap.size+5≤W4.heap.size):=Lib.hid hs1
 clear hq h0 hs1 hb4 hm4 g1 g2 g3 g4 g5 HF hb1 hB0 hB1 hBc hOc hcc hPc hPb
 refine range_free2 rfl (by omega) rfl trivial (enters_of Tryz.func134 (by kernel_rfl) rfl) HQ.out (pac_lets _) (fun _=>rfl) (fun x=>flnRd_abide _ _ x _)
  (CqI w) (CpX w) (cqi_abide w _ (by have:=HSZ.out;omega)) (cpx_abide w _ (by have:=HSZ.out;omega)) ?fr H0.out (fun x b W=>LBox x b W∧w.heap.size+4<b) (fun x b=>(lbox_abide x b _).and (Abide.pure _ _ _ _)) ?a1 ?assign ?body ?done ?stop
 case fr=>
  rintro pre W ⟨s,-,-,-,hmc,-⟩ k hk
  have h2:w.heap.size+4<W.heap.size:=World.block_lt_of_cell? W _ hmc
  exact⟨by omega,by omega,by omega,by omega⟩
 case assign=>
  rintro lq pre x W' K hi hr hK
  simp only [lnVal]
  gi_wp2
  obtain⟨b',hb'⟩:∃ b',W'.heap.size=b':=⟨_,rfl⟩
  rw [hb']
  have hbo:∀ o,Below W'.heap.size W' (W'.alloc o):=fun o=>(Below.refl _ _).alloc (Nat.le_refl _) o
  refine hK b' _ (Hold.of_below (pac_lets _) (hbo _)) ((cqi_abide w W4.heap.size (by have:=HSZ.out;omega)).below hi (hbo _)) ((flnRd_abide _ _ x W4.heap.size).below (s:=()) hr (hbo _)) ?_
  rw [←hb']
  obtain⟨s,-,-,-,hmc,-⟩:=hi
  have h2:w.heap.size+4<W'.heap.size:=World.block_lt_of_cell? W' _ hmc
  exact⟨⟨by simp,by simp⟩,h2⟩
 case body=>
  rintro lq pre x b' Wb ⟨⟨⟨nm,D⟩,out⟩,⟨hst,hnp⟩,hm,hrb,hmc,hMb,hbb⟩ hR hC hlen
  dsimp only at hst hnp hm
  obtain⟨⟨l0,l1⟩,hbw⟩:=hC
  have hsz2:=HSZ.out
  have hbl:b'<Wb.heap.size:=World.block_lt_of_cell? Wb _ l0
  have hrl:=rb3_lt hrb
  have hml:w.heap.size+4<Wb.heap.size:=World.block_lt_of_cell? Wb _ hmc
  have hmx:Tryz.prog.follows .mixedOrders=true:=by kernel_rfl
  have n0:¬b'=w.heap.size:=by omega
  have n1:¬b'=w.heap.size+1:=by omega
  have n2:¬b'=w.heap.size+1+1:=by omega
  have n3:¬w.heap.size=b':=by omega
  have n4:¬w.heap.size+1=b':=by omega
  have n5:¬w.heap.size+1+1=b':=by omega
  have HFS:∀ X,Below Wb.heap.size Wb X→Hid ((X.cell? ⟨b',0,none⟩=some (.int .i64 x.1)∧X.cell? ⟨w.heap.size+4,0,none⟩=some (.map (some (w.heap.size+3))))∧RB3 w.heap.size none 0 0 X∧Below w.heap.size w X):=fun X hX=>
   Lib.hid ⟨⟨(hX.cell (p:=⟨b',0,none⟩) hbl).trans l0,(hX.cell (p:=⟨w.heap.size+4,0,none⟩) hml).trans hmc⟩,hrb.below hrl hX,hbb.trans (hX.mono hbb.size)⟩
  have HFF:=Lib.hid HFS
  clear HFS
  by_cases hle:cErr x.2.2=0
  · have c17:=rp_good hR hn hMb hle
    have hcw:=(cpair_small hle).2
    have hown:=fun X (hX:Below Wb.heap.size Wb X)=>(hm.below hX).1.1
    have HOW:=Lib.hid hown
    have HCW:=Lib.hid hcw
    cases hh:hasS out (cPair x.2.2).c with
    | true=>
     obtain⟨r,hr,hrc⟩:=has_iff.1 hh
     obtain⟨A',k',hat,-,-⟩:=hm.1.2.2 r hr
     rw [hrc] at hat
     have hhas:Maps.has D (.int .i64 (cPair x.2.2).c)=true:=by rw [hm.1.2.1];exact hh
     have hbad:cstOf (pre ++ [x])=.bad 15 x.1:=by rw [cst_snoc,hst];exact cstep_twice (x:=view x) hle hh
     have hend:=fun X (hX:Below Wb.heap.size Wb X)=>wrong_end (w:=w) (pre:=pre ++ [x]) hX (HFF.out X hX).out.2.1 (HFF.out X hX).out.2.2 hbad (by decide)
     have HAT:=Lib.hid hat
     have HHS:=Lib.hid hhas
     have HEND:=Lib.hid hend
     obtain⟨F,hF⟩:∃ F,x.2.1=F:=⟨_,rfl⟩
     obtain⟨m,hmm⟩:∃ m,x.2.2.length=m:=⟨_,rfl⟩
     obtain⟨num,hnum⟩:∃ m,x.1=m:=⟨_,rfl⟩
     obtain⟨cc,hcc⟩:∃ m,(cPair x.2.2).c=m:=⟨_,rfl⟩
     obtain⟨pm,hpm⟩:∃ m,(cPair x.2.2).p.length=m:=⟨_,rfl⟩
     rw [hF,hmm] at l1 c17
     simp only [hcc,hpm] at c17
     rw [hcc] at HAT HHS HCW
     rw [hnum] at l0
     simp only [hnum] at HEND HFF
     clear hend hat hhas hbad hr hrc hst hnp hm hrb hmc hMb hbb hR hlen hF hmm hnum hcc hpm hcw hown hle hh
     gi_wp2_with (first
      | (refine⟨trivial,?_⟩;gi_at_call 118;refine (CallsIn.inRound lq (callsIn_wide.2 c17)).mono ?_;rintro e X ⟨A2,k2,rfl,hV2⟩;obtain⟨⟨z0,z1⟩,⟨⟨r1,r2⟩,⟨r3,r4⟩,r5,r6⟩,-⟩:=(HFF.out X hV2.out.1).out;have z1':X.cell? ⟨w.heap.size+1+1+1+1,0,none⟩=some (.map (some (w.heap.size+3))):=z1)
      | (gi_at_lookup;refine look_tok_in rfl _ _ rfl (w.heap.size+3) nm D rfl (HOW.out X hV2.out.1) cc rfl HCW.out _ true HAT.out HHS.out ?_))
     have HE2:=Lib.hid (HEND.out X hV2.out.1)
     have l0d:X.drew.cell? ⟨b',0,none⟩=some (.int .i64 num):=z0
     have r1d:X.drew.cell? ⟨w.heap.size,0,none⟩=some (.pointer none):=r1
     have r2d:X.drew.frozen? ⟨w.heap.size,0,none⟩=false:=r2
     have r3d:X.drew.cell? ⟨w.heap.size+1,0,none⟩=some (.int .i64 0):=r3
     have r4d:X.drew.frozen? ⟨w.heap.size+1,0,none⟩=false:=r4
     have r5d:X.drew.cell? ⟨w.heap.size+1+1,0,none⟩=some (.int .i64 0):=r5
     have r6d:X.drew.frozen? ⟨w.heap.size+1+1,0,none⟩=false:=r6
     have r5e:X.cell? ⟨w.heap.size+1+1,0,none⟩=some (.int .i64 0):=r5
     have r6e:X.frozen? ⟨w.heap.size+1+1,0,none⟩=false:=r6
     clear HEND HFF HAT HHS HCW HOW l0 l1 c17 z1 z1' hV2 r5 r6
     gi_region_elder_o
     all_goals (gi_wp2;exact HE2.out)
    | false=>
     have hhas:Maps.has D (.int .i64 (cPair x.2.2).c)=false:=by rw [hm.1.2.1];exact hh
     have hat:=Maps.atKey_of_not_has hhas (.held (.slice none 0 0))
     have hend:=fun X W2 A2 k2 (hV:Below Wb.heap.size Wb X∧Vals X A2 (cPair x.2.2).p.length (nums .i64 (cPair x.2.2).p)∧∀ a,A2=some a→Wb.heap.size≤a.block) ho hg=>put_end (w:=w) (X:=X) (W2:=W2) (k:=k2) (A:=A2) hst hnp hm hrb hmc hMb hbb hV.1 hle hh hV.2.1 hV.2.2 ho hg
     have hnx:nm<maxLen:=by simp only [maxLen];omega
     have HAT:=Lib.hid hat
     have HHS:=Lib.hid hhas
     have HEND:=Lib.hid hend
     obtain⟨F,hF⟩:∃ F,x.2.1=F:=⟨_,rfl⟩
     obtain⟨m,hmm⟩:∃ m,x.2.2.length=m:=⟨_,rfl⟩
     obtain⟨num,hnum⟩:∃ m,x.1=m:=⟨_,rfl⟩
     obtain⟨cc,hcc⟩:∃ m,(cPair x.2.2).c=m:=⟨_,rfl⟩
     obtain⟨pm,hpm⟩:∃ m,(cPair x.2.2).p.length=m:=⟨_,rfl⟩
     rw [hF,hmm] at l1 c17
     simp only [hcc,hpm] at c17 HEND
     rw [hcc] at HAT HHS HCW
     rw [hnum] at l0
     simp only [hnum] at HFF
     clear hend hat hhas hst hnp hm hrb hmc hMb hbb hR hlen hF hmm hnum hcc hpm hcw hown hle hh
     gi_wp2_with (first
      | (refine⟨trivial,?_⟩;gi_at_call 118;refine (CallsIn.inRound lq (callsIn_wide.2 c17)).mono ?_;rintro e X ⟨A2,k2,rfl,hV2⟩;obtain⟨⟨z0,z1⟩,-,-⟩:=(HFF.out X hV2.out.1).out;have z1':X.cell? ⟨w.heap.size+1+1+1+1,0,none⟩=some (.map (some (w.heap.size+3))):=z1)
      | (gi_at_lookup;refine look_tok_in rfl _ _ rfl (w.heap.size+3) nm D rfl (HOW.out X hV2.out.1) cc rfl HCW.out _ false HAT.out HHS.out ?_)
      | (gi_at_mapUpdate;refine wpListIn_mapUpdate_own _ rfl _ _ _ 183 rfl 3 25 k3 Tryz.underlying183 tokE (w.heap.size+3) nm D rfl (HOW.out X hV2.out.1) hnx _ _ (.int .i64 cc) rfl rfl (key3 HCW.out) (.held (.slice A2 pm k2)) [] rfl ?_;intro W2 ho2 hg2;have HR:=Lib.hid (HEND.out X W2 A2 k2 hV2.out ho2 hg2);clear ho2 hg2))
     exact HR.out
  · obtain⟨E,hE⟩:∃ E,cErr x.2.2=E:=⟨_,rfl⟩
    rw [hE] at hle
    have c17:=rp_wrong hR hn hMb hE hle
    have hbad:cstOf (pre ++ [x])=.bad E x.1:=by rw [cst_snoc,hst,←hE];exact cstep_err (x:=view x) (by show ¬cErr x.2.2=0;rw [hE];exact hle)
    have hend:=fun X (hX:Below Wb.heap.size Wb X)=>wrong_end (w:=w) (pre:=pre ++ [x]) hX (HFF.out X hX).out.2.1 (HFF.out X hX).out.2.2 hbad hle
    have hx1:(E==0)=false:=beq_false_of_ne hle
    have hx2:(E != 0)=true:=bne_iff_ne.2 hle
    have HEND:=Lib.hid hend
    obtain⟨F,hF⟩:∃ F,x.2.1=F:=⟨_,rfl⟩
    obtain⟨m,hmm⟩:∃ m,x.2.2.length=m:=⟨_,rfl⟩
    obtain⟨num,hnum⟩:∃ m,x.1=m:=⟨_,rfl⟩
    rw [hF,hmm] at l1 c17
    rw [hnum] at l0
    simp only [hnum] at HEND HFF
    clear hend hbad hst hnp hm hrb hmc hMb hbb hR hlen hF hmm hnum hE hle
    gi_wp2_with (refine⟨trivial,?_⟩;gi_at_call 118;refine (CallsIn.inRound lq (callsIn_wide.2 c17)).mono ?_;rintro e X ⟨rfl,hX⟩;obtain⟨⟨z0,z1⟩,⟨⟨r1,r2⟩,⟨r3,r4⟩,r5,r6⟩,-⟩:=(HFF.out X hX).out)
    have HE2:=Lib.hid (HEND.out X hX)
    have l0d:X.drew.cell? ⟨b',0,none⟩=some (.int .i64 num):=z0
    have r1d:X.drew.cell? ⟨w.heap.size,0,none⟩=some (.pointer none):=r1
    have r2d:X.drew.frozen? ⟨w.heap.size,0,none⟩=false:=r2
    have r3d:X.drew.cell? ⟨w.heap.size+1,0,none⟩=some (.int .i64 0):=r3
    have r4d:X.drew.frozen? ⟨w.heap.size+1,0,none⟩=false:=r4
    have r5d:X.drew.cell? ⟨w.heap.size+1+1,0,none⟩=some (.int .i64 0):=r5
    have r6d:X.drew.frozen? ⟨w.heap.size+1+1,0,none⟩=false:=r6
    have r5e:X.cell? ⟨w.heap.size+1+1,0,none⟩=some (.int .i64 0):=r5
    have r6e:X.frozen? ⟨w.heap.size+1+1,0,none⟩=false:=r6
    clear HEND HFF l0 l1 c17 z1 hX r5 r6
    gi_region_elder_o
    all_goals (gi_wp2;exact HE2.out)
 case done=>
  rintro Dd xs W3 hD hxs ⟨⟨⟨nm,D⟩,out⟩,⟨hst,hnp⟩,hm,hrb,hmc,hMb,hbb⟩ hKD
  dsimp only at hst hnp hm
  have hsz:=HSZ.out
  have hlx:xs.length=(linesIn l).length:=by rw [←hxs,List.length_map]
  have hln:nm≤1000000:=by have h2:=lines_few (l:=l);have h3:=HOL.out;omega
  have hml:w.heap.size+4<W3.heap.size:=World.block_lt_of_cell? W3 _ hmc
  have hmc':∀ X,Below W3.heap.size W3 X→X.cell? ⟨w.heap.size+1+1+1+1,0,none⟩=some (.map (some (w.heap.size+3))):=fun X hX=>(hX.cell (p:=⟨w.heap.size+4,0,none⟩) hml).trans hmc
  have k18:∀ Y,Below W3.heap.size W3 Y→Y.cell? ⟨W3.heap.size,0,none⟩=some (.map (some (w.heap.size+3)))→Calls Tryz.prog 119 #[.func (.func 157) #[] #[.pointer (some ⟨W3.heap.size,0,none⟩)]] Y fun e w'=>∃ A k,e=.returned (.slice A out.length k)∧Hid (Below W3.heap.size W3 w'∧Vals w' A out.length (nums .i64 (out.map Pp.c))∧∀ a,A=some a→W3.heap.size≤a.block):=fun Y hY hc=>
   (sorted18 W3.heap.size (w.heap.size+3) nm D out Y hc (hm.below hY).1.1 hm.1.2.1 hm.2.1 hln).mono (by
    rintro e w' ⟨A5,k5,rfl,h5⟩
    exact⟨A5,k5,rfl,Lib.hid ⟨hY.trans (h5.out.1.mono hY.size),h5.out.2.1,fun a e=>Nat.le_trans hY.size (h5.out.2.2 a e)⟩⟩)
  have hend:=fun W5 A5 k5 (h5:Below W3.heap.size W3 W5∧Vals W5 A5 out.length (nums .i64 (out.map Pp.c))∧∀ a,A5=some a→W3.heap.size≤a.block)=>done_end (k:=k5) (cst_all hst hxs) hm hrb hbb hKD (by omega) h5.1 h5.2.1 h5.2.2
  have hrbX:=fun X (hX:Below W3.heap.size W3 X)=>hrb.below (by omega) hX
  have HRX:=Lib.hid hrbX
  have HS:=Lib.hid hmc'
  have K18:=Lib.hid k18
  have K19:=Lib.hid (fun X=>keys19 (some (w.heap.size+3)) X)
  have HEND:=Lib.hid hend
  have hB1:Below W3.heap.size W3 (W3.alloc (.cells #[.map (some (w.heap.size+3))] 183)):=(Below.refl _ _).alloc (Nat.le_refl _) _
  have hC1:(W3.alloc (.cells #[.map (some (w.heap.size+3))] 183)).cell? ⟨W3.heap.size,0,none⟩=some (.map (some (w.heap.size+3))):=by simp
  have HB1:=Lib.hid hB1
  have HC1:=Lib.hid hC1
  obtain⟨on,hon⟩:∃ m,out.length=m:=⟨_,rfl⟩
  simp only [hon] at K18 HEND
  clear hend hst hnp hm hrb hmc hMb hbb hxs hlx hmc' k18 hrbX hB1 hC1 hon
  gi_wp2
  refine wpIn_wide.2 ?_
  go_region_held3 (fun w'=>w'.cell? ⟨w.heap.size+1+1+1+1,0,none⟩=some (.map (some (w.heap.size+3))))
   (first | exact HS.out _ (Below.refl _ _) | exact HS.out _ (below_drew (Below.refl _ _)) | exact HS.out _ HB1.out | exact HS.out _ (below_drew HB1.out) | exact HS.out _ h5.out.1 | exact box_cell _ (HS.out _ h5.out.1) | exact box_cell _ (far_set (HS.out _ h5.out.1) (by omega)) | exact box_cell _ (far_set (far_set (HS.out _ h5.out.1) (by omega)) (by omega)) | exact box_cell _ (far_set (far_set (far_set (HS.out _ h5.out.1) (by omega)) (by omega)) (by omega)) | go_keep)
   (first
    | (go_simp;go_at_call 120;refine (K19.out _).mono ?_;rintro e w' ⟨rfl,rfl⟩)
    | (go_simp;go_at_call 119;refine (K18.out _ (by first | with_reducible exact HB1.out | with_reducible exact below_drew HB1.out) (by first | with_reducible exact HC1.out | exact HC1.out)).mono ?_;rintro e W5 ⟨A5,k5,rfl,h5⟩;obtain⟨⟨r1,r2⟩,⟨r3,r4⟩,r5,r6⟩:=HRX.out W5 h5.out.1;have r5':W5.cell? ⟨w.heap.size+1+1,0,none⟩=some (.int .i64 0):=r5;have r6':W5.frozen? ⟨w.heap.size+1+1,0,none⟩=false:=r6;have hH0:w.heap.size<W5.heap.size:=(by have:=h5.out.1.size;omega);have hH1:w.heap.size+1<W5.heap.size:=(by have:=h5.out.1.size;omega);have hH2:w.heap.size+1+1<W5.heap.size:=(by have:=h5.out.1.size;omega)))
  have HE:=Lib.hid (HEND.out W5 A5 k5 h5.out)
  rw [rb3_comm hH2] at HE
  clear HEND K18 K19 HS HRX
  gi_wp2
  exact leave7 rfl rfl rfl HE.out.1.2 HE.out.2.1 HE.out.2.2
 case stop=>
  rintro Dd c2 pre W3 hD hpre ⟨s,⟨rfl,hst,hne⟩,hrb,hbw⟩ hKD
  have hres:=cst_bad hst hpre
  have HP:Hid (CpPost l w (.returned (.tuple #[.pointer none,.int .i64 s.1,.int .i64 s.2])) (W3.putObj Dd (.deferred none))):=Lib.hid ⟨hbw.trans (belowK_b (w:=w) (Nat.le_refl _) W3 Dd _ _ (by have:=HSZ.out;omega) hKD rfl rfl),.inr ⟨by rw [hres];exact hne,by rw [hres]⟩⟩
  have HRB:=Lib.hid hrb
  clear hst hne hrb hbw hres hpre
  gi_wp2
  exact leave7 rfl rfl rfl hKD HRB.out HP.out
end Go.Proofs.YtbkgbhlmeeodgaaGreatDoor.Cf
