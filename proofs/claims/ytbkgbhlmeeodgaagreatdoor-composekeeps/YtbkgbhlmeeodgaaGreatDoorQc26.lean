/- A part. -/
import Derived.Test.YtbkgbhlmeeodgaaGreatDoorQc19
namespace Go.Proofs.YtbkgbhlmeeodgaaGreatDoor.Uc
open Go.RowKit Go.Shelf Go.Sort
attribute [local go_sem] Oper.semAt_some
def wFour (w:World):World:=(((w.alloc (.cells #[.pointer none] 46)).alloc (.cells #[.int .i64 0] 40)).alloc (.cells #[.int .i64 0] 3)).alloc (.cells #[.slice none 0 0,.bool false,.int .i64 0,.string ⟨#[]⟩,.bool false,.int .i64 0,.int .i64 0,.string ⟨#[]⟩,.int .i64 0,.string ⟨#[]⟩,.slice none 0 0] 160)
theorem rbx_first (X:World):RBx (X.alloc (.cells #[.slice none 0 0,.bool false,.int .i64 0,.string ⟨#[]⟩,.bool false,.int .i64 0,.int .i64 0,.string ⟨#[]⟩,.int .i64 0,.string ⟨#[]⟩,.slice none 0 0] 160)) X.heap.size (.slice none 0 0) false 0 ⟨#[]⟩ false rw0:=
 ⟨⟨by simp,by simp,by simp,by simp,by simp,by simp [rw0],by simp [rw0],by simp [rw0,bs_nil],by simp [rw0],by simp [rw0,bs_nil],by simp [rw0]⟩,fun i=>frozen_new X _ _ i⟩
theorem four_facts (w:World):Below w.heap.size w (wFour w)∧RB3 w.heap.size none 0 0 (wFour w)∧RBx (wFour w) (w.heap.size+3) (.slice none 0 0) false 0 ⟨#[]⟩ false rw0∧(wFour w).heap.size=w.heap.size+4:=by
 have hb:Below w.heap.size w (wFour w):=((((Below.refl _ _).alloc (Nat.le_refl _) _).alloc (by simp) _).alloc (by simp;omega) _).alloc (by simp;omega) _
 have n1:=box_new w (.pointer none) 46
 have n2:=box_new (w.alloc (.cells #[.pointer none] 46)) (.int .i64 0) 40
 have n3:=box_new ((w.alloc (.cells #[.pointer none] 46)).alloc (.cells #[.int .i64 0] 40)) (.int .i64 0) 3
 have n4:=rbx_first (((w.alloc (.cells #[.pointer none] 46)).alloc (.cells #[.int .i64 0] 40)).alloc (.cells #[.int .i64 0] 3))
 simp only [World.size_alloc] at n2 n3 n4
 refine⟨hb,⟨⟨?_,?_⟩,⟨?_,?_⟩,?_,?_⟩,n4,by simp [wFour]⟩
 · exact box_cell _ (box_cell _ (box_cell _ n1.1))
 · exact box_frozen _ (box_cell _ (box_cell _ n1.1)) (box_frozen _ (box_cell _ n1.1) (box_frozen _ n1.1 n1.2))
 · exact box_cell _ (box_cell _ n2.1)
 · exact box_frozen _ (box_cell _ n2.1) (box_frozen _ n2.1 n2.2)
 · exact box_cell _ n3.1
 · exact box_frozen _ n3.1 n3.2
theorem setB_len (ps:List Pr) (b:Int):(setB ps b).length≤ps.length:=by
 unfold setB
 cases h:ps.getLast? with
 | none=>simp
 | some q=>
  have:ps ≠ []:=by rintro rfl;cases h
  have:=List.length_pos_iff.2 this
  simp
  omega
theorem step_len {ps ps':List Pr} {op op':Option Ln} {x:Ln} (h:step (.at ps op) x=.at ps' op'):ps'.length≤ps.length+1:=by
 cases op with
 | none=>
  simp only [step] at h
  split at h
  · cases h
  · split at h
    · cases h
    · injection h with h1 h2
      rw [←h1]
      simp
 | some y=>
  simp only [step] at h
  split at h
  · cases h
  · split at h
    · cases h
    · injection h with h1 h2
      rw [←h1]
      have:=setB_len ps (rowVal x.2).a
      omega
theorem st_bad {xs:List LnV} {l:List Ln} {e n:Int} (h:stOf xs=.bad e n) (hp:xs.map view <+: l):parseOf l=⟨[],e,n⟩:=by
 obtain⟨r,rfl⟩:=hp
 rw [←fold_parse,List.foldl_append]
 unfold stOf at h
 rw [h,fold_bad]
 rfl
theorem st_all {xs:List LnV} {l:List Ln} {s:St} (h:stOf xs=s) (hp:xs.map view=l):parseOf l=fin s:=by
 rw [←fold_parse,←h,←hp]
 rfl
theorem leave8 {Rp:Ending→World→Prop} {Wf:World} {D m H:Nat} {tmps:Array Value} {p:Option Addr} {e n:Int} (t2:tmps[2]?.getD undef=.pointer (some ⟨H,0,none⟩)) (t3:tmps[3]?.getD undef=.pointer (some ⟨H+1,0,none⟩)) (t4:tmps[4]?.getD undef=.pointer (some ⟨H+2,0,none⟩)) (hk:Wf.heap[D]? = some (.deferred (some [])))
 (hr:RB3 H p e n Wf) (h:Rp (.returned (.tuple #[.pointer p,.int .i64 e,.int .i64 n])) (Wf.putObj D (.deferred none))):
 LeavesInM Fence.wide m Tryz.prog Tryz.f76 tmps Rp [{ target:=.collected D,args:=#[] }] .returning Wf:=by
 refine⟨by simp,.inl ⟨_,_,rfl,run_takeDeferred hk,?_⟩⟩
 have k1:=cell_kept hr.1.1 (grownBy_putObj' _ D (.deferred none)) (fun r e=>by cases e;exact⟨_,hk,rfl⟩)
 have k2:=cell_kept hr.2.1.1 (grownBy_putObj' _ D (.deferred none)) (fun r e=>by cases e;exact⟨_,hk,rfl⟩)
 have k3:=cell_kept hr.2.2.1 (grownBy_putObj' _ D (.deferred none)) (fun r e=>by cases e;exact⟨_,hk,rfl⟩)
 refine⟨.tuple #[.pointer p,.int .i64 e,.int .i64 n],?_,h⟩
 simp [results,Tryz.results76,go_sem,k1,k2,k3,t2,t3,t4]
def LBox (x:LnV) (b:Nat) (W:World):Prop:=W.cell? ⟨b,0,none⟩=some (.int .i64 x.1)∧W.cell? ⟨b,1,none⟩=some (.slice x.2.1 x.2.2.length x.2.2.length)
theorem lbox_abide (x:LnV) (b B:Nat):Abide 0 0 B (fun (_:Unit) W=>LBox x b W):=Abide.and (cell_abide _ _) (cell_abide _ _)
theorem flnRd_abide (n N0:Nat) (x:LnV) (B:Nat):Abide 0 0 B (fun (_:Unit) W=>FLnRd n N0 x W):=
 Abide.and (lnRd_abide x B) (Abide.and (fun _ _ _ _ h hg _=>Nat.le_trans h hg.size) (Abide.pure _ _ _ _))
theorem post_drew {l:List UInt8} {w W:World} {D:Nat} {e:Ending} {o:Obj} (h:ParsePost l w e (W.putObj D o)) (hx:¬(parseOf (linesIn l)).err=0:=by assumption):ParsePost l w e (W.drew.putObj D o):=by
 rcases h with ⟨hb,⟨h1,-⟩ | h2⟩
 · exact absurd h1 hx
 · exact⟨⟨hb.os,hb.tape,hb.output,hb.size,hb.block⟩,.inr h2⟩
set_option maxRecDepth 100000 in
set_option maxHeartbeats 4000000 in
theorem parse8 (A:Option Addr) (n c:Nat) (l:List UInt8) (w:World) (hO:Octs w A n l) (hn:n≤4000) (hM:ML w):Calls Tryz.prog 76 #[.slice A n c] w (ParsePost l w):=by
 have F4:=Lib.hid (four_facts w)
 have h0w:1<w.heap.size:=by obtain⟨mm,hmm⟩:=hM;exact World.block_lt_of_cell? w _ hmm
 have c19:=callsIn_wide (n:=8) |>.2 (lines9 A n c l (wFour w) (hO.below F4.out.1) (by omega))
 unfold wFour at c19
 have HM:=Lib.hid hM
 clear hO hM
 refine (callsIn_wide (n:=9)).1 ?_
 refine callsIn_of_wp_marks Tryz.func76 rfl trivial ?_ rfl
 simp only [Tryz.ntmps76,List.size_toArray,List.length_cons,List.length_nil,Nat.reduceAdd,Nat.reduceSub,Array.replicate_succ,Array.replicate_zero,List.push_toArray,List.append_toArray,List.nil_append,List.cons_append]
 gi_wp2_with (refine⟨trivial,?_⟩;gi_at_call 110;(with_reducible refine c19.mono ?_);rintro e W1 ⟨hb1,B,P,c',rfl,hB0,hB1,hBc,hOc,hcc,hPc,hPb⟩)
 clear c19
 have e4:(((w.alloc (.cells #[.pointer none] 46)).alloc (.cells #[.int .i64 0] 40)).alloc (.cells #[.int .i64 0] 3)).alloc (.cells #[.slice none 0 0,.bool false,.int .i64 0,.string ⟨#[]⟩,.bool false,.int .i64 0,.int .i64 0,.string ⟨#[]⟩,.int .i64 0,.string ⟨#[]⟩,.slice none 0 0] 160)=wFour w:=rfl
 rw [e4] at hb1 hB0 hPb
 clear e4
 obtain⟨hbF,hrb,hrx,hsz⟩:=F4.out
 have hbW:Below w.heap.size w W1:=hbF.trans (hb1.mono hbF.size)
 have hs1:=hb1.size
 have hrb1:RB3 w.heap.size none 0 0 W1:=hrb.below (by omega) hb1
 have hrx1:RBx W1 (w.heap.size+3) (.slice none 0 0) false 0 (bs []) false rw0:=hrx.below hb1
 have hga:∀ k,k≠w.heap.size+3→k≠w.heap.size→k≠w.heap.size+1→k≠w.heap.size+2→PA w.heap.size (w.heap.size+3) W1 k:=fun k h1 h2 h3 h4=>⟨⟨_,hrx1.1.1,h1,fun e=>by cases e⟩,h2,h3,h4⟩
 have hq:=fiter30 8 B n c' P l (PA w.heap.size (w.heap.size+3)) W1 (pa_lets _ _) (by omega) (by omega) hB1 hBc hOc (fun a e=>by have:=hPb a e;exact⟨hga _ (by omega) (by omega) (by omega) (by omega),this.2⟩) (hga 1 (by omega) (by omega) (by omega) (by omega)) (HM.out.below hbW) hPc hcc
 have h0:PaI w (W1.heap.size+2) [] W1:=⟨([],none),⟨rfl,Nat.le_refl _⟩,⟨.slice none 0 0,[],0,[],false,rw0,hrx1,⟨World.ownsRow_nil _ _ _ _,trivial,(fun t h=>by cases h),by omega⟩,(fun x h=>by cases h),(fun h=>by cases h)⟩,hrb1,HM.out.below hbW,hbW⟩
 have HQ:=Lib.hid hq
 have H0:=Lib.hid h0
 have HSZ:Hid (w.heap.size+4≤W1.heap.size):=Lib.hid (by omega)
 clear hq h0 hs1 hrb1 hrx1 hga hbW hbF hrb hrx hsz F4 hb1 hB0 hB1 hBc hOc hcc hPc hPb
 refine range_free2 rfl (by omega) rfl trivial (enters_of Tryz.func134 (by kernel_rfl) rfl) HQ.out (pa_lets _ _) (fun _=>rfl) (fun x=>flnRd_abide _ _ x _)
  (PaI w (W1.heap.size+2)) (PaX w) (pai_abide w _ _ (by have:=HSZ.out;omega)) (pax_abide w _ (by have:=HSZ.out;omega)) ?fr H0.out LBox (fun x b=>lbox_abide x b _) ?a1 ?assign ?body ?done ?stop
 case fr=>
  rintro pre W ⟨s,-,hrd,-,-,hbw⟩ k hk
  have h1:=rdr_free hrd k hk
  have h2:w.heap.size+3<W.heap.size:=by obtain⟨v,ls,num,nm,bare,s,hx,-⟩:=hrd;exact hx.lt
  exact⟨h1,by omega,by omega,by omega⟩
 case assign=>
  rintro lq pre x W' K hi hr hK
  simp only [lnVal]
  gi_wp2
  obtain⟨b',hb'⟩:∃ b',W'.heap.size=b':=⟨_,rfl⟩
  rw [hb']
  have hbo:∀ o,Below W'.heap.size W' (W'.alloc o):=fun o=>(Below.refl _ _).alloc (Nat.le_refl _) o
  refine hK b' _ (Hold.of_below (pa_lets _ _) (hbo _)) ((pai_abide w _ W1.heap.size (by have:=HSZ.out;omega)).below hi (hbo _)) ((flnRd_abide _ _ x W1.heap.size).below (s:=()) hr (hbo _)) ?_
  rw [←hb']
  exact⟨by simp,by simp⟩
 case body=>
  rintro lq pre x b' Wb ⟨s,⟨hst,hsl⟩,hrd,hrb,hMb,hbb⟩ hR hC hlen
  obtain⟨l0,l1⟩:=hC
  have hRw:w.heap.size+3<Wb.heap.size:=by obtain⟨v,ls,num,nm,bare,s,hx,-⟩:=hrd;exact hx.lt
  have c20:=take_any (w.heap.size+3) (W1.heap.size+2) s.1 s.2 x.1 x.2.1 x.2.2.length x.2.2 Wb hrd hR.1.1 (fun f hf=>Nat.le_trans (hR.2.2 f hf) hn) hMb (by omega) hR.2.1
  have hsn:=st_snoc pre x
  rw [hst] at hsn
  have hview:view x=(x.1,x.2.2):=rfl
  rw [hview] at hsn
  cases hs:step (.at s.1 s.2) (x.1,x.2.2) with
  | bad e1 n1=>
   rw [hs] at hsn
   have c20':Calls Tryz.prog 111 #[.pointer (some ⟨w.heap.size+3,0,none⟩),.agg #[.int .i64 x.1,.slice x.2.1 x.2.2.length x.2.2.length]] Wb fun e w'=>e=.returned (.tuple #[.int .i64 e1,.int .i64 n1])∧Hid (¬e1=0∧Hold (GA (w.heap.size+3)) Wb w'∧Below (w.heap.size+3) Wb w'):=by
    refine c20.mono ?_
    rintro e w' ⟨h1,h2,a,b,rfl,h3⟩
    have h3:=h3.out
    rw [hs] at h3
    obtain⟨rfl,rfl,h4⟩:=h3
    exact⟨rfl,Lib.hid ⟨h4,h1,h2⟩⟩
   have HRB:=Lib.hid hrb
   have HSN:=Lib.hid hsn
   have HBB:=Lib.hid hbb
   clear c20 hst hsl hrd hrb hMb hbb hsn hs hview hR hlen
   gi_wp2_with (refine⟨trivial,?_⟩;gi_at_call 111;refine (CallsIn.inRound lq (callsIn_wide.2 c20')).mono ?_;rintro e w2 ⟨rfl,hh⟩;have hx1:(e1==0)=false:=beq_false_of_ne hh.out.1;have hx2:(e1 != 0)=true:=bne_iff_ne.2 hh.out.1;have HRB2:=Lib.hid (HRB.out.below (by omega) hh.out.2.2);obtain⟨⟨r1,r2⟩,⟨r3,r4⟩,r5,r6⟩:=HRB2.out)
   have h2w:Below w.heap.size w w2:=HBB.out.trans (hh.out.2.2.mono (by omega))
   exact⟨(pa_hold hh.out.2.1).trans (rb3_hold (H:=w.heap.size) (R:=w.heap.size+3) (p:=none) (e:=e1) (n:=n1) ⟨by omega,by omega,by omega⟩),(e1,n1),⟨rfl,HSN.out,hh.out.1⟩,rb3_new HRB2.out,rb3_below h2w⟩
  | «at» ps' op'=>
   rw [hs] at hsn
   have hl2:=step_len hs
   have c20':Calls Tryz.prog 111 #[.pointer (some ⟨w.heap.size+3,0,none⟩),.agg #[.int .i64 x.1,.slice x.2.1 x.2.2.length x.2.2.length]] Wb fun e w'=>e=.returned (.tuple #[.int .i64 0,.int .i64 0])∧Hid (RdrI (w.heap.size+3) (W1.heap.size+2) ps' op' w'∧Hold (GA (w.heap.size+3)) Wb w'∧Below (w.heap.size+3) Wb w'):=by
    refine c20.mono ?_
    rintro e w' ⟨h1,h2,a,b,rfl,h3⟩
    have h3:=h3.out
    rw [hs] at h3
    obtain⟨rfl,rfl,h4⟩:=h3
    exact⟨rfl,Lib.hid ⟨h4,h1,h2⟩⟩
   have HRB:=Lib.hid hrb
   have HSN:=Lib.hid hsn
   have HBB:=Lib.hid hbb
   have HMB:=Lib.hid hMb
   have HLL:Hid (ps'.length≤(pre ++ [x]).length):=Lib.hid (by rw [List.length_append,List.length_singleton];omega)
   clear c20 hst hsl hrd hrb hMb hbb hsn hs hview hR hlen hl2
   gi_wp2_with (refine⟨trivial,?_⟩;gi_at_call 111;refine (CallsIn.inRound lq (callsIn_wide.2 c20')).mono ?_;rintro e w2 ⟨rfl,hh⟩)
   have hm2:ML w2:=by
    obtain⟨m,hm⟩:=HMB.out
    exact⟨m,(hh.out.2.2.cell (p:=⟨1,0,none⟩) (by show 1<w.heap.size+3;omega)).trans hm⟩
   exact⟨pa_hold hh.out.2.1,(ps',op'),⟨HSN.out,HLL.out⟩,hh.out.1,HRB.out.below (by omega) hh.out.2.2,hm2,HBB.out.trans (hh.out.2.2.mono (by omega))⟩
 case done=>
  rintro D xs W3 hD hxs ⟨⟨ps,op⟩,⟨hst,hsl⟩,hrd,hrb,hMb,hbb⟩ hKD
  have hDw:w.heap.size+3<D:=by have:=HSZ.out;omega
  have hfin:=st_all hst hxs
  obtain⟨v,ls,num,nm,bare,sr,hx,hr,ho,hp⟩:=hrd
  obtain⟨Av,cv,rfl⟩:=own_slice hr.1
  have hlt:=hx.lt
  have HFN:=Lib.hid hfin
  have HBB:=Lib.hid hbb
  have HRB:=Lib.hid hrb
  have HRR:=Lib.hid hr
  obtain⟨⟨r1,r2⟩,⟨r3,r4⟩,r5,r6⟩:=hrb
  cases op with
  | some y=>
   obtain⟨rfl,-⟩:=ho y rfl
   obtain⟨⟨x0,x1,x2,-⟩,xf⟩:=hx
   have x1':W3.cell? ⟨w.heap.size+1+1+1,1,none⟩=some (.bool true):=x1
   have x2':W3.cell? ⟨w.heap.size+1+1+1,2,none⟩=some (.int .i64 y.1):=x2
   clear hst hsl hfin hr hp hbb ho x0 x1 x2 hMb
   have r5':W3.cell? ⟨w.heap.size+1+1,0,none⟩=some (.int .i64 0):=r5
   have r6':W3.frozen? ⟨w.heap.size+1+1,0,none⟩=false:=r6
   have HRN:=Lib.hid (rb3_new (p':=none) (e':=14) (n':=y.1) HRB.out)
   have HKN:Hid ((rb3_set w.heap.size none 14 y.1 W3).heap[D]? = some (.deferred (some []))):=Lib.hid (by rw [rb3_other ⟨by omega,by omega,by omega⟩];exact hKD)
   have HP:Hid (ParsePost l w (.returned (.tuple #[.pointer none,.int .i64 14,.int .i64 y.1])) ((rb3_set w.heap.size none 14 y.1 W3).putObj D (.deferred none))):=Lib.hid ⟨(rb3_below HBB.out).trans (belowK_b (w:=w) (Nat.le_refl _) _ D _ _ (by omega) HKN.out rfl rfl),.inr ⟨by rw [HFN.out];show ¬(14:Int)=0;decide,by rw [HFN.out];rfl⟩⟩
   gi_wp2
   refine wpIn_wide.2 ?_
   go_region
   gi_wp2
   exact leave8 rfl rfl rfl HKN.out HRN.out (post_drew HP.out (by rw [HFN.out];show ¬(14:Int)=0;decide))
  | none=>
   obtain⟨⟨x0,x1,-⟩,xf⟩:=hx
   have x0':W3.cell? ⟨w.heap.size+1+1+1,0,none⟩=some (.slice Av ls.length cv):=x0
   have x1':W3.cell? ⟨w.heap.size+1+1+1,1,none⟩=some (.bool false):=x1
   clear hst hsl hfin hr hp hbb ho x0 x1 hMb
   have r5':W3.cell? ⟨w.heap.size+1+1,0,none⟩=some (.int .i64 0):=r5
   have r6':W3.frozen? ⟨w.heap.size+1+1,0,none⟩=false:=r6
   have hH0:w.heap.size<W3.heap.size:=by omega
   have hH1:w.heap.size+1<W3.heap.size:=by omega
   have hH2:w.heap.size+1+1<W3.heap.size:=by omega
   have hba:Below W3.heap.size W3 (W3.alloc (.cells #[.slice Av ls.length cv] 168)):=(Below.refl _ _).alloc (Nat.le_refl _) _
   have HRN:=Lib.hid (rb3_new (p':=some ⟨W3.heap.size,0,none⟩) (e':=0) (n':=0) (HRB.out.below (by omega) hba))
   have HKN:Hid ((rb3_set w.heap.size (some ⟨W3.heap.size,0,none⟩) 0 0 (W3.alloc (.cells #[.slice Av ls.length cv] 168))).heap[D]? = some (.deferred (some []))):=Lib.hid (by rw [rb3_other ⟨by omega,by omega,by omega⟩];exact (Below.heap_alloc W3 _ D (Array.getElem?_eq_some_iff.1 hKD).1).trans hKD)
   have htd:=table_done rfl HRR.out hKD HBB.out hDw hlt
   have HP:Hid (ParsePost l w (.returned (.tuple #[.pointer (some ⟨W3.heap.size,0,none⟩),.int .i64 0,.int .i64 0])) ((rb3_set w.heap.size (some ⟨W3.heap.size,0,none⟩) 0 0 (W3.alloc (.cells #[.slice Av ls.length cv] 168))).putObj D (.deferred none))):=Lib.hid ⟨htd.1,.inl ⟨by rw [HFN.out];rfl,W3.heap.size,Av,cv,ls,rfl,HBB.out.size,htd.2.1,by rw [HFN.out];exact htd.2.2⟩⟩
   have hcomm:rb3_set w.heap.size (some ⟨W3.heap.size,0,none⟩) 0 0 (W3.alloc (.cells #[.slice Av ls.length cv] 168))=(rb3_set w.heap.size (some ⟨W3.heap.size,0,none⟩) 0 0 W3).alloc (.cells #[.slice Av ls.length cv] 168):=by
    unfold rb3_set
    have h2:w.heap.size+2<W3.heap.size:=by omega
    simp [go_sem,hH0,hH1,h2]
   rw [hcomm] at HKN HRN HP
   clear hba htd hcomm
   gi_wp2
   exact leave8 rfl rfl rfl HKN.out HRN.out HP.out
 case stop=>
  rintro D c2 pre W3 hD hpre ⟨s,⟨rfl,hst,hne⟩,hrb,hbw⟩ hKD
  have hres:=st_bad hst hpre
  have HP:Hid (ParsePost l w (.returned (.tuple #[.pointer none,.int .i64 s.1,.int .i64 s.2])) (W3.putObj D (.deferred none))):=Lib.hid ⟨hbw.trans (belowK_b (w:=w) (Nat.le_refl _) W3 D _ _ (by have:=HSZ.out;omega) hKD rfl rfl),.inr ⟨by rw [hres];exact hne,by rw [hres]⟩⟩
  have HRB:=Lib.hid hrb
  clear hst hne hrb hbw hres hpre
  gi_wp2
  exact leave8 rfl rfl rfl hKD HRB.out HP.out
end Go.Proofs.YtbkgbhlmeeodgaaGreatDoor.Uc
