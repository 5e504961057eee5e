/- A part. -/
import Derived.Test.YtmellioacefjjaaGreatDoorQB36
import Derived.Shelf.Spec.SearchS
import Derived.Sort.Walk0
import Derived.Shelf.SlGeneric
namespace Go.Proofs.YtmellioacefjjaaGreatDoor.Uc
open Go.RowKit Go.Shelf Go.Sort
attribute [local go_sem] Oper.semAt_some
def wFour (w:World):World:=(((w.alloc (.cells #[.pointer none] 40)).alloc (.cells #[.int .i64 0] 57)).alloc (.cells #[.int .i64 0] 3)).alloc (.cells #[.slice none 0 0,.bool false,.int .i64 0,.string ⟨#[]⟩,.bool false,.int .i64 0,.int .i64 0,.string ⟨#[]⟩,.int .i64 0,.string ⟨#[]⟩,.slice none 0 0] 156)
theorem rbx_first (X:World):RBx (X.alloc (.cells #[.slice none 0 0,.bool false,.int .i64 0,.string ⟨#[]⟩,.bool false,.int .i64 0,.int .i64 0,.string ⟨#[]⟩,.int .i64 0,.string ⟨#[]⟩,.slice none 0 0] 156)) X.heap.size (.slice none 0 0) false 0 ⟨#[]⟩ false rw0:=
 ⟨⟨by simp,by simp,by simp,by simp,by simp,by simp [rw0],by simp [rw0],by simp [rw0,bs_nil],by simp [rw0],by simp [rw0,bs_nil],by simp [rw0]⟩,fun i=>frozen_new X _ _ i⟩
theorem four_facts (w:World):Below w.heap.size w (wFour w)∧RB3 w.heap.size none 0 0 (wFour w)∧RBx (wFour w) (w.heap.size+3) (.slice none 0 0) false 0 ⟨#[]⟩ false rw0∧(wFour w).heap.size=w.heap.size+4:=by
 have hb:Below w.heap.size w (wFour w):=((((Below.refl _ _).alloc (Nat.le_refl _) _).alloc (by simp) _).alloc (by simp;omega) _).alloc (by simp;omega) _
 have n1:=box_new w (.pointer none) 40
 have n2:=box_new (w.alloc (.cells #[.pointer none] 40)) (.int .i64 0) 57
 have n3:=box_new ((w.alloc (.cells #[.pointer none] 40)).alloc (.cells #[.int .i64 0] 57)) (.int .i64 0) 3
 have n4:=rbx_first (((w.alloc (.cells #[.pointer none] 40)).alloc (.cells #[.int .i64 0] 57)).alloc (.cells #[.int .i64 0] 3))
 simp only [World.size_alloc] at n2 n3 n4
 refine⟨hb,⟨⟨?_,?_⟩,⟨?_,?_⟩,?_,?_⟩,n4,by simp [wFour]⟩
 · exact box_cell _ (box_cell _ (box_cell _ n1.1))
 · exact box_frozen _ (box_cell _ (box_cell _ n1.1)) (box_frozen _ (box_cell _ n1.1) (box_frozen _ n1.1 n1.2))
 · exact box_cell _ (box_cell _ n2.1)
 · exact box_frozen _ (box_cell _ n2.1) (box_frozen _ n2.1 n2.2)
 · exact box_cell _ n3.1
 · exact box_frozen _ n3.1 n3.2
theorem setB_len (ps:List Pr) (b:Int):(setB ps b).length≤ps.length:=by
 unfold setB
 cases h:ps.getLast? with
 | none=>simp
 | some q=>
  have:ps ≠ []:=by rintro rfl;cases h
  have:=List.length_pos_iff.2 this
  simp
  omega
theorem step_len {ps ps':List Pr} {op op':Option Ln} {x:Ln} (h:step (.at ps op) x=.at ps' op'):ps'.length≤ps.length+1:=by
 cases op with
 | none=>
  simp only [step] at h
  split at h
  · cases h
  · split at h
    · cases h
    · injection h with h1 h2
      rw [←h1]
      simp
 | some y=>
  simp only [step] at h
  split at h
  · cases h
  · split at h
    · cases h
    · injection h with h1 h2
      rw [←h1]
      have:=setB_len ps (rowVal x.2).a
      omega
theorem st_bad {xs:List LnV} {l:List Ln} {e n:Int} (h:stOf xs=.bad e n) (hp:xs.map view <+: l):parseOf l=⟨[],e,n⟩:=by
 obtain⟨r,rfl⟩:=hp
 rw [←fold_parse,List.foldl_append]
 unfold stOf at h
 rw [h,fold_bad]
 rfl
theorem st_all {xs:List LnV} {l:List Ln} {s:St} (h:stOf xs=s) (hp:xs.map view=l):parseOf l=fin s:=by
 rw [←fold_parse,←h,←hp]
 rfl
theorem leave8 {Rp:Ending→World→Prop} {Wf:World} {D m H:Nat} {tmps:Array Value} {p:Option Addr} {e n:Int} (t2:tmps[2]?.getD undef=.pointer (some ⟨H,0,none⟩)) (t3:tmps[3]?.getD undef=.pointer (some ⟨H+1,0,none⟩)) (t4:tmps[4]?.getD undef=.pointer (some ⟨H+2,0,none⟩)) (hk:Wf.heap[D]? = some (.deferred (some [])))
 (hr:RB3 H p e n Wf) (h:Rp (.returned (.tuple #[.pointer p,.int .i64 e,.int .i64 n])) (Wf.putObj D (.deferred none))):
 LeavesInM Fence.wide m Tryz.prog Tryz.f68 tmps Rp [{ target:=.collected D,args:=#[] }] .returning Wf:=by
 refine⟨by simp,.inl ⟨_,_,rfl,run_takeDeferred hk,?_⟩⟩
 have k1:=cell_kept hr.1.1 (grownBy_putObj' _ D (.deferred none)) (fun r e=>by cases e;exact⟨_,hk,rfl⟩)
 have k2:=cell_kept hr.2.1.1 (grownBy_putObj' _ D (.deferred none)) (fun r e=>by cases e;exact⟨_,hk,rfl⟩)
 have k3:=cell_kept hr.2.2.1 (grownBy_putObj' _ D (.deferred none)) (fun r e=>by cases e;exact⟨_,hk,rfl⟩)
 refine⟨.tuple #[.pointer p,.int .i64 e,.int .i64 n],?_,h⟩
 simp [results,Tryz.results68,go_sem,k1,k2,k3,t2,t3,t4]
def LBox (x:LnV) (b:Nat) (W:World):Prop:=W.cell? ⟨b,0,none⟩=some (.int .i64 x.1)∧W.cell? ⟨b,1,none⟩=some (.slice x.2.1 x.2.2.length x.2.2.length)
theorem lbox_abide (x:LnV) (b B:Nat):Abide 0 0 B (fun (_:Unit) W=>LBox x b W):=Abide.and (cell_abide _ _) (cell_abide _ _)
theorem flnRd_abide (n N0:Nat) (x:LnV) (B:Nat):Abide 0 0 B (fun (_:Unit) W=>FLnRd n N0 x W):=
 Abide.and (lnRd_abide x B) (Abide.and (fun _ _ _ _ h hg _=>Nat.le_trans h hg.size) (Abide.pure _ _ _ _))
theorem post_drew {l:List UInt8} {w W:World} {D:Nat} {e:Ending} {o:Obj} (h:ParsePost l w e (W.putObj D o)) (hx:¬(parseOf (linesIn l)).err=0:=by assumption):ParsePost l w e (W.drew.putObj D o):=by
 rcases h with ⟨hb,⟨h1,-⟩ | h2⟩
 · exact absurd h1 hx
 · exact⟨⟨hb.os,hb.tape,hb.output,hb.size,hb.block⟩,.inr h2⟩
set_option maxRecDepth 100000 in
set_option maxHeartbeats 4000000 in
theorem parse8 (A:Option Addr) (n c:Nat) (l:List UInt8) (w:World) (hO:Octs w A n l) (hn:n≤4000) (hM:ML w):Calls Tryz.prog 68 #[.slice A n c] w (ParsePost l w):=by
 have F4:=Lib.hid (four_facts w)
 have h0w:1<w.heap.size:=by obtain⟨mm,hmm⟩:=hM;exact World.block_lt_of_cell? w _ hmm
 have c19:=callsIn_wide (n:=8) |>.2 (lines9 A n c l (wFour w) (hO.below F4.out.1) (by omega))
 unfold wFour at c19
 have HM:=Lib.hid hM
 clear hO hM
 refine (callsIn_wide (n:=9)).1 ?_
 refine callsIn_of_wp_marks Tryz.func68 rfl trivial ?_ rfl
 simp only [Tryz.ntmps68,List.size_toArray,List.length_cons,List.length_nil,Nat.reduceAdd,Nat.reduceSub,Array.replicate_succ,Array.replicate_zero,List.push_toArray,List.append_toArray,List.nil_append,List.cons_append]
 gi_wp2_with (refine⟨trivial,?_⟩;gi_at_call 86;(with_reducible refine c19.mono ?_);rintro e W1 ⟨hb1,B,P,c',rfl,hB0,hB1,hBc,hOc,hcc,hPc,hPb⟩)
 clear c19
 have e4:(((w.alloc (.cells #[.pointer none] 40)).alloc (.cells #[.int .i64 0] 57)).alloc (.cells #[.int .i64 0] 3)).alloc (.cells #[.slice none 0 0,.bool false,.int .i64 0,.string ⟨#[]⟩,.bool false,.int .i64 0,.int .i64 0,.string ⟨#[]⟩,.int .i64 0,.string ⟨#[]⟩,.slice none 0 0] 156)=wFour w:=rfl
 rw [e4] at hb1 hB0 hPb
 clear e4
 obtain⟨hbF,hrb,hrx,hsz⟩:=F4.out
 have hbW:Below w.heap.size w W1:=hbF.trans (hb1.mono hbF.size)
 have hs1:=hb1.size
 have hrb1:RB3 w.heap.size none 0 0 W1:=hrb.below (by omega) hb1
 have hrx1:RBx W1 (w.heap.size+3) (.slice none 0 0) false 0 (bs []) false rw0:=hrx.below hb1
 have hga:∀ k,k≠w.heap.size+3→k≠w.heap.size→k≠w.heap.size+1→k≠w.heap.size+2→PA w.heap.size (w.heap.size+3) W1 k:=fun k h1 h2 h3 h4=>⟨⟨_,hrx1.1.1,h1,fun e=>by cases e⟩,h2,h3,h4⟩
 have hq:=fiter30 8 B n c' P l (PA w.heap.size (w.heap.size+3)) W1 (pa_lets _ _) (by omega) (by omega) hB1 hBc hOc (fun a e=>by have:=hPb a e;exact⟨hga _ (by omega) (by omega) (by omega) (by omega),this.2⟩) (hga 1 (by omega) (by omega) (by omega) (by omega)) (HM.out.below hbW) hPc hcc
 have h0:PaI w (W1.heap.size+2) [] W1:=⟨([],none),⟨rfl,Nat.le_refl _⟩,⟨.slice none 0 0,[],0,[],false,rw0,hrx1,⟨World.ownsRow_nil _ _ _ _,trivial,(fun t h=>by cases h),by omega⟩,(fun x h=>by cases h),(fun h=>by cases h)⟩,hrb1,HM.out.below hbW,hbW⟩
 have HQ:=Lib.hid hq
 have H0:=Lib.hid h0
 have HSZ:Hid (w.heap.size+4≤W1.heap.size):=Lib.hid (by omega)
 clear hq h0 hs1 hrb1 hrx1 hga hbW hbF hrb hrx hsz F4 hb1 hB0 hB1 hBc hOc hcc hPc hPb
 refine range_free2 rfl (by omega) rfl trivial (enters_of Tryz.func106 (by kernel_rfl) rfl) HQ.out (pa_lets _ _) (fun _=>rfl) (fun x=>flnRd_abide _ _ x _)
  (PaI w (W1.heap.size+2)) (PaX w) (pai_abide w _ _ (by have:=HSZ.out;omega)) (pax_abide w _ (by have:=HSZ.out;omega)) ?fr H0.out LBox (fun x b=>lbox_abide x b _) ?a1 ?assign ?body ?done ?stop
 case fr=>
  rintro pre W ⟨s,-,hrd,-,-,hbw⟩ k hk
  have h1:=rdr_free hrd k hk
  have h2:w.heap.size+3<W.heap.size:=by obtain⟨v,ls,num,nm,bare,s,hx,-⟩:=hrd;exact hx.lt
  exact⟨h1,by omega,by omega,by omega⟩
 case assign=>
  rintro lq pre x W' K hi hr hK
  simp only [lnVal]
  gi_wp2
  obtain⟨b',hb'⟩:∃ b',W'.heap.size=b':=⟨_,rfl⟩
  rw [hb']
  have hbo:∀ o,Below W'.heap.size W' (W'.alloc o):=fun o=>(Below.refl _ _).alloc (Nat.le_refl _) o
  refine hK b' _ (Hold.of_below (pa_lets _ _) (hbo _)) ((pai_abide w _ W1.heap.size (by have:=HSZ.out;omega)).below hi (hbo _)) ((flnRd_abide _ _ x W1.heap.size).below (s:=()) hr (hbo _)) ?_
  rw [←hb']
  exact⟨by simp,by simp⟩
 case body=>
  rintro lq pre x b' Wb ⟨s,⟨hst,hsl⟩,hrd,hrb,hMb,hbb⟩ hR hC hlen
  obtain⟨l0,l1⟩:=hC
  have hRw:w.heap.size+3<Wb.heap.size:=by obtain⟨v,ls,num,nm,bare,s,hx,-⟩:=hrd;exact hx.lt
  have c20:=take_any (w.heap.size+3) (W1.heap.size+2) s.1 s.2 x.1 x.2.1 x.2.2.length x.2.2 Wb hrd hR.1.1 (fun f hf=>Nat.le_trans (hR.2.2 f hf) hn) hMb (by omega) hR.2.1
  have hsn:=st_snoc pre x
  rw [hst] at hsn
  have hview:view x=(x.1,x.2.2):=rfl
  rw [hview] at hsn
  cases hs:step (.at s.1 s.2) (x.1,x.2.2) with
  | bad e1 n1=>
   rw [hs] at hsn
   have c20':Calls Tryz.prog 87 #[.pointer (some ⟨w.heap.size+3,0,none⟩),.agg #[.int .i64 x.1,.slice x.2.1 x.2.2.length x.2.2.length]] Wb fun e w'=>e=.returned (.tuple #[.int .i64 e1,.int .i64 n1])∧Hid (¬e1=0∧Hold (GA (w.heap.size+3)) Wb w'∧Below (w.heap.size+3) Wb w'):=by
    refine c20.mono ?_
    rintro e w' ⟨h1,h2,a,b,rfl,h3⟩
    have h3:=h3.out
    rw [hs] at h3
    obtain⟨rfl,rfl,h4⟩:=h3
    exact⟨rfl,Lib.hid ⟨h4,h1,h2⟩⟩
   have HRB:=Lib.hid hrb
   have HSN:=Lib.hid hsn
   have HBB:=Lib.hid hbb
   clear c20 hst hsl hrd hrb hMb hbb hsn hs hview hR hlen
   gi_wp2_with (refine⟨trivial,?_⟩;gi_at_call 87;refine (CallsIn.inRound lq (callsIn_wide.2 c20')).mono ?_;rintro e w2 ⟨rfl,hh⟩;have hx1:(e1==0)=false:=beq_false_of_ne hh.out.1;have hx2:(e1 != 0)=true:=bne_iff_ne.2 hh.out.1;have HRB2:=Lib.hid (HRB.out.below (by omega) hh.out.2.2);obtain⟨⟨r1,r2⟩,⟨r3,r4⟩,r5,r6⟩:=HRB2.out)
   have h2w:Below w.heap.size w w2:=HBB.out.trans (hh.out.2.2.mono (by omega))
   exact⟨(pa_hold hh.out.2.1).trans (rb3_hold (H:=w.heap.size) (R:=w.heap.size+3) (p:=none) (e:=e1) (n:=n1) ⟨by omega,by omega,by omega⟩),(e1,n1),⟨rfl,HSN.out,hh.out.1⟩,rb3_new HRB2.out,rb3_below h2w⟩
  | «at» ps' op'=>
   rw [hs] at hsn
   have hl2:=step_len hs
   have c20':Calls Tryz.prog 87 #[.pointer (some ⟨w.heap.size+3,0,none⟩),.agg #[.int .i64 x.1,.slice x.2.1 x.2.2.length x.2.2.length]] Wb fun e w'=>e=.returned (.tuple #[.int .i64 0,.int .i64 0])∧Hid (RdrI (w.heap.size+3) (W1.heap.size+2) ps' op' w'∧Hold (GA (w.heap.size+3)) Wb w'∧Below (w.heap.size+3) Wb w'):=by
    refine c20.mono ?_
    rintro e w' ⟨h1,h2,a,b,rfl,h3⟩
    have h3:=h3.out
    rw [hs] at h3
    obtain⟨rfl,rfl,h4⟩:=h3
    exact⟨rfl,Lib.hid ⟨h4,h1,h2⟩⟩
   have HRB:=Lib.hid hrb
   have HSN:=Lib.hid hsn
   have HBB:=Lib.hid hbb
   have HMB:=Lib.hid hMb
   have HLL:Hid (ps'.length≤(pre ++ [x]).length):=Lib.hid (by rw [List.length_append,List.length_singleton];omega)
   clear c20 hst hsl hrd hrb hMb hbb hsn hs hview hR hlen hl2
   gi_wp2_with (refine⟨trivial,?_⟩;gi_at_call 87;refine (CallsIn.inRound lq (callsIn_wide.2 c20')).mono ?_;rintro e w2 ⟨rfl,hh⟩)
   have hm2:ML w2:=by
    obtain⟨m,hm⟩:=HMB.out
    exact⟨m,(hh.out.2.2.cell (p:=⟨1,0,none⟩) (by show 1<w.heap.size+3;omega)).trans hm⟩
   exact⟨pa_hold hh.out.2.1,(ps',op'),⟨HSN.out,HLL.out⟩,hh.out.1,HRB.out.below (by omega) hh.out.2.2,hm2,HBB.out.trans (hh.out.2.2.mono (by omega))⟩
 case done=>
  rintro D xs W3 hD hxs ⟨⟨ps,op⟩,⟨hst,hsl⟩,hrd,hrb,hMb,hbb⟩ hKD
  have hDw:w.heap.size+3<D:=by have:=HSZ.out;omega
  have hfin:=st_all hst hxs
  obtain⟨v,ls,num,nm,bare,sr,hx,hr,ho,hp⟩:=hrd
  obtain⟨Av,cv,rfl⟩:=own_slice hr.1
  have hlt:=hx.lt
  have HFN:=Lib.hid hfin
  have HBB:=Lib.hid hbb
  have HRB:=Lib.hid hrb
  have HRR:=Lib.hid hr
  obtain⟨⟨r1,r2⟩,⟨r3,r4⟩,r5,r6⟩:=hrb
  cases op with
  | some y=>
   obtain⟨rfl,-⟩:=ho y rfl
   obtain⟨⟨x0,x1,x2,-⟩,xf⟩:=hx
   have x1':W3.cell? ⟨w.heap.size+1+1+1,1,none⟩=some (.bool true):=x1
   have x2':W3.cell? ⟨w.heap.size+1+1+1,2,none⟩=some (.int .i64 y.1):=x2
   clear hst hsl hfin hr hp hbb ho x0 x1 x2 hMb
   have r5':W3.cell? ⟨w.heap.size+1+1,0,none⟩=some (.int .i64 0):=r5
   have r6':W3.frozen? ⟨w.heap.size+1+1,0,none⟩=false:=r6
   have HRN:=Lib.hid (rb3_new (p':=none) (e':=14) (n':=y.1) HRB.out)
   have HKN:Hid ((rb3_set w.heap.size none 14 y.1 W3).heap[D]? = some (.deferred (some []))):=Lib.hid (by rw [rb3_other ⟨by omega,by omega,by omega⟩];exact hKD)
   have HP:Hid (ParsePost l w (.returned (.tuple #[.pointer none,.int .i64 14,.int .i64 y.1])) ((rb3_set w.heap.size none 14 y.1 W3).putObj D (.deferred none))):=Lib.hid ⟨(rb3_below HBB.out).trans (belowK_b (w:=w) (Nat.le_refl _) _ D _ _ (by omega) HKN.out rfl rfl),.inr ⟨by rw [HFN.out];show ¬(14:Int)=0;decide,by rw [HFN.out];rfl⟩⟩
   gi_wp2
   refine wpIn_wide.2 ?_
   go_region
   gi_wp2
   exact leave8 rfl rfl rfl HKN.out HRN.out (post_drew HP.out (by rw [HFN.out];show ¬(14:Int)=0;decide))
  | none=>
   obtain⟨⟨x0,x1,-⟩,xf⟩:=hx
   have x0':W3.cell? ⟨w.heap.size+1+1+1,0,none⟩=some (.slice Av ls.length cv):=x0
   have x1':W3.cell? ⟨w.heap.size+1+1+1,1,none⟩=some (.bool false):=x1
   clear hst hsl hfin hr hp hbb ho x0 x1 hMb
   have r5':W3.cell? ⟨w.heap.size+1+1,0,none⟩=some (.int .i64 0):=r5
   have r6':W3.frozen? ⟨w.heap.size+1+1,0,none⟩=false:=r6
   have hH0:w.heap.size<W3.heap.size:=by omega
   have hH1:w.heap.size+1<W3.heap.size:=by omega
   have hH2:w.heap.size+1+1<W3.heap.size:=by omega
   have hba:Below W3.heap.size W3 (W3.alloc (.cells #[.slice Av ls.length cv] 134)):=(Below.refl _ _).alloc (Nat.le_refl _) _
   have HRN:=Lib.hid (rb3_new (p':=some ⟨W3.heap.size,0,none⟩) (e':=0) (n':=0) (HRB.out.below (by omega) hba))
   have HKN:Hid ((rb3_set w.heap.size (some ⟨W3.heap.size,0,none⟩) 0 0 (W3.alloc (.cells #[.slice Av ls.length cv] 134))).heap[D]? = some (.deferred (some []))):=Lib.hid (by rw [rb3_other ⟨by omega,by omega,by omega⟩];exact (Below.heap_alloc W3 _ D (Array.getElem?_eq_some_iff.1 hKD).1).trans hKD)
   have htd:=table_done rfl HRR.out hKD HBB.out hDw hlt
   have HP:Hid (ParsePost l w (.returned (.tuple #[.pointer (some ⟨W3.heap.size,0,none⟩),.int .i64 0,.int .i64 0])) ((rb3_set w.heap.size (some ⟨W3.heap.size,0,none⟩) 0 0 (W3.alloc (.cells #[.slice Av ls.length cv] 134))).putObj D (.deferred none))):=Lib.hid ⟨htd.1,.inl ⟨by rw [HFN.out];rfl,W3.heap.size,Av,cv,ls,rfl,HBB.out.size,htd.2.1,by rw [HFN.out];exact htd.2.2⟩⟩
   have hcomm:rb3_set w.heap.size (some ⟨W3.heap.size,0,none⟩) 0 0 (W3.alloc (.cells #[.slice Av ls.length cv] 134))=(rb3_set w.heap.size (some ⟨W3.heap.size,0,none⟩) 0 0 W3).alloc (.cells #[.slice Av ls.length cv] 134):=by
    unfold rb3_set
    have h2:w.heap.size+2<W3.heap.size:=by omega
    simp [go_sem,hH0,hH1,h2]
   rw [hcomm] at HKN HRN HP
   clear hba htd hcomm
   gi_wp2
   exact leave8 rfl rfl rfl HKN.out HRN.out HP.out
 case stop=>
  rintro D c2 pre W3 hD hpre ⟨s,⟨rfl,hst,hne⟩,hrb,hbw⟩ hKD
  have hres:=st_bad hst hpre
  have HP:Hid (ParsePost l w (.returned (.tuple #[.pointer none,.int .i64 s.1,.int .i64 s.2])) (W3.putObj D (.deferred none))):=Lib.hid ⟨hbw.trans (belowK_b (w:=w) (Nat.le_refl _) W3 D _ _ (by have:=HSZ.out;omega) hKD rfl rfl),.inr ⟨by rw [hres];exact hne,by rw [hres]⟩⟩
  have HRB:=Lib.hid hrb
  clear hst hne hrb hbw hres hpre
  gi_wp2
  exact leave8 rfl rfl rfl hKD HRB.out HP.out
end Go.Proofs.YtmellioacefjjaaGreatDoor.Uc
namespace Go.Proofs.YtmellioacefjjaaGreatDoor.Pq
open Go.RowKit Go.Shelf
attribute [local go_sem] Oper.semAt_some
def AdPost (t base a b:Nat) (ws:List Nat) (W:World) (e:Ending) (W':World):Prop:=
 ∃ f ws',e=.returned (.bool f)∧Hid (AddsTo ws a b f ws'∧ws'.length≤17408∧RowAt t base 206 1 ws'.length (words ws') W'∧Hold (GA t) W W'∧Below t W W')
def AdRel (t base a b g n cp:Nat) (ws:List Nat) (W:World) (i:Value) (wr:World):Prop:=
 ∃ (c:Nat) (ws1:List Nat),i=.int .i64 (c:Int)∧(a≤c∧c≤b+1)∧Partly ws ws1 a c∧(wr.cell? ⟨t,0,none⟩=some (.slice (some ⟨g,0,none⟩) n cp)∧wr.frozen? ⟨t,0,none⟩=false)∧wr.ownsRow base 206 1 (.slice (some ⟨g,0,none⟩) n cp) n (words ws1)∧Hold (GA t) W wr∧Below t W wr
theorem ad_set {t base g n cp c:Nat} {ws1:List Nat} {W:World} (hv:W.cell? ⟨t,0,none⟩=some (.slice (some ⟨g,0,none⟩) n cp)) (hf:W.frozen? ⟨t,0,none⟩=false) (ho:W.ownsRow base 206 1 (.slice (some ⟨g,0,none⟩) n cp) n (words ws1)) (htb:t<base) (x:Int) (hx:x=((word ws1 (c/64) ||| 2 ^ (c%64):Nat):Int)):
 let X:=W.setCell ⟨g,c/64,none⟩ (.int .u64 x)
 (X.cell? ⟨t,0,none⟩=some (.slice (some ⟨g,0,none⟩) n cp)∧X.frozen? ⟨t,0,none⟩=false)∧X.ownsRow base 206 1 (.slice (some ⟨g,0,none⟩) n cp) n (words (putC ws1 c))∧Hold (GA t) W X∧Below t W X:=by
 intro X
 subst hx
 have hbg:=(ho.lt g rfl).1
 obtain⟨h1,h2⟩:=ho.stored (c/64) (.int .u64 ((word ws1 (c/64) ||| 2 ^ (c%64):Nat):Int))
 rw [←words_set] at h1
 have e0:X.heap[t]? = W.heap[t]?:=heap_setCell_other _ ⟨g,c/64,none⟩ t _ (by show t≠g;omega)
 have c0:X.cell? ⟨t,0,none⟩=some (.slice (some ⟨g,0,none⟩) n cp):=(World.cell?_of_block e0).trans hv
 refine⟨⟨c0,(World.frozen?_of_block (a:=⟨t,0,none⟩) e0).trans hf⟩,h1,hold_two hv h2.size (fun k hk hkt hkv=>h2.block k hk (fun e=>hkv e.symm)) c0 (fun k _ e=>e),?_⟩
 exact (Below.refl t W).setCell (p:=⟨g,c/64,none⟩) (by show t≤g;omega) _
theorem wrap_pow {r:Nat} (h:r<64):IntKind.u64.wrap ((2:Int) ^ r)=((2 ^ r:Nat):Int):=by
 rw [show ((2:Int) ^ r)=((2 ^ r:Nat):Int) by push_cast;rfl]
 exact wrapU _ (pow_lt64 h)
theorem and_test (x:Nat) {r:Nat} (hx:x<18446744073709551616) (h:r<64):(bits .and .u64 (x:Int) (IntKind.u64.wrap ((2:Int) ^ r)) != 0)=x.testBit r:=by
 rw [wrap_pow h,andU x _ hx (pow_lt64 h)]
 have:=and_pow x r
 cases ht:x.testBit r with
 | false=>
  rw [this.2 ht]
  rfl
 | true=>
  rw [bne_iff_ne]
  intro e
  have e':x &&& 2 ^ r=0:=by exact_mod_cast e
  rw [this.1 e'] at ht
  cases ht
set_option maxRecDepth 100000 in
set_option maxHeartbeats 2000000 in
theorem add24 (t base a b:Nat) (ws:List Nat) (W:World) (hR:RowAt t base 206 1 ws.length (words ws) W) (hw:ws.length≤17408) (hs:Small ws) (hab:a≤b) (hb:b≤1114111) (htb:t<base) (hbase:base≤W.heap.size):
 Calls Tryz.prog 92 #[.pointer (some ⟨t,0,none⟩),.int .i64 (a:Int),.int .i64 (b:Int)] W (AdPost t base a b ws W):=by
 have c46:=grow46 t base b ws W hR hw hb htb hbase
 have HS:=Lib.hid hs
 clear hR
 go_enter Tryz.func92,Tryz.ntmps92
 go_wp2_with (go_at_call 119;(with_reducible refine c46.mono ?_);rintro e W1 ⟨rfl,ws1,hh⟩)
 clear c46
 obtain⟨⟨m,hm⟩,⟨hl1,hl2⟩,⟨v,⟨hv,hf⟩,ho⟩,hH,hB⟩:=hh.out
 obtain⟨g,cp,rfl,hbg,hgl⟩:=row_some ho (by omega)
 have H0:Hid (AdRel t base a b g ws1.length cp ws1 W1 (.int .i64 (a:Int)) W1):=Lib.hid ⟨a,ws1,rfl,⟨Nat.le_refl _,by omega⟩,partly_nil (by rw [hm];exact more_small HS.out m) a,⟨hv,hf⟩,ho,Hold.refl _ _,Below.refl _ _⟩
 have HAS:Hid (∀ c,hasC ws1 c=hasC ws c):=Lib.hid (fun c=>by rw [hm];exact more_has ws m c)
 have HH:=Lib.hid (And.intro hH hB)
 obtain⟨n,hn⟩:∃ n,ws1.length=n:=⟨_,rfl⟩
 rw [hn] at H0 hl1 hl2
 clear hv hf ho hm hH hB hh
 go_loopw [7] (fun i wr=>AdRel t base a b g n cp ws1 W1 i wr) (fun i _=>b+1-(intOf i).toNat)
 case atStart=>exact H0.out
 case round=>
  clear H0
  obtain⟨c,ws2,rfl,⟨hac,hcb⟩,hp,⟨hv,hf⟩,ho,hH,hB⟩:=hrel
  by_cases hlt:c≤b
  · obtain⟨q,hq⟩:∃ q:Nat,c/64=q:=⟨_,rfl⟩
    obtain⟨r,hr⟩:∃ r:Nat,c%64=r:=⟨_,rfl⟩
    have hq2:(c:Int)/64=(q:Int):=by omega
    have hr2:(c:Int)%64=(r:Int):=by omega
    have hr3:r<64:=by omega
    have hl:ws2.length=n:=by rw [hp.1,hn]
    have hqn:q<n:=by omega
    have hc1:wr.cell? ⟨g,q,none⟩=some (.int .u64 (word ws2 q:Int)):=by
     rw [ho.cellAt q (by omega),words_get (by omega)]
    have hf1:=ho.frozenAt q
    obtain⟨x,hx⟩:∃ x,word ws2 q=x:=⟨_,rfl⟩
    rw [hx] at hc1
    have hxs:x<18446744073709551616:=by rw [←hx];exact word_lt hp.2.1 q
    have hwr:=wrap_pow hr3
    have hand:=and_test x hxs hr3
    have hor:bits .or .u64 (x:Int) (IntKind.u64.wrap (2 ^ r))=((x ||| 2 ^ r:Nat):Int):=by rw [hwr];exact orU x _ hxs (pow_lt64 hr3)
    have hhas:hasC ws2 c=x.testBit r:=by unfold hasC;rw [hq,hr,hx]
    have hset:=fun nq=>ad_set (c:=c) (ws1:=ws2) (W:=wr.drewN nq) hv hf ho htb _ (show bits .or .u64 (x:Int) (IntKind.u64.wrap (2 ^ r))=((word ws2 (c/64) ||| 2 ^ (c%64):Nat):Int) by rw [hq,hr,hx];exact hor)
    rw [hq] at hset
    have HSET:=Lib.hid hset
    have HP:=Lib.hid hp
    have HO:=Lib.hid ho
    have HHB:=Lib.hid (And.intro hH hB)
    have HHAS:=Lib.hid hhas
    clear hp ho hH hB hx hset hor hwr hhas
    cases hbit:x.testBit r with
    | true=>
     rw [hbit] at hand
     go_wp2
     go_quiet (fail)
     go_wp2
     go_ret
     refine⟨false,ws2,rfl,Lib.hid ⟨⟨c,hac,hlt,?_⟩,by omega,⟨_,⟨hv,hf⟩,by rw [hl];exact HO.out⟩,HH.out.1.trans (HHB.out.1.trans (Hold.of_below (ga_lets t) (below_drewN (Below.refl _ _) _))),HH.out.2.trans (below_drewN HHB.out.2 _)⟩⟩
     rw [←HAS.out c,←partly_old HP.out,HHAS.out,hbit]
    | false=>
     rw [hbit] at hand
     go_wp2
     go_quiet (fail)
     go_wp2
     go_roundw
     case rel=>
      obtain⟨k1,k2,k3,k4⟩:=HSET.out nq
      refine⟨c+1,putC ws2 c,by go_num,⟨by omega,by omega⟩,partly_next HP.out hac (by omega) (by rw [HHAS.out,hbit]),k1,k2,HHB.out.1.trans ((Hold.of_below (ga_lets t) (below_drewN (Below.refl _ _) _)).trans k3),(below_drewN HHB.out.2 _).trans k4⟩
     case measure=>simp [intOf];omega
  · obtain rfl:c=b+1:=by omega
    have HALL:=Lib.hid (And.intro hp (And.intro ho (And.intro hH hB)))
    clear hp ho hH hB
    go_wp2
    go_ret
    obtain⟨hp,ho,hH,hB⟩:=HALL.out
    refine⟨true,ws2,rfl,Lib.hid ⟨⟨hp.2.1,fun d=>?_,fun d h1 h2=>?_⟩,by rw [hp.1,hn];omega,⟨_,⟨hv,hf⟩,by rw [hp.1,hn];exact ho⟩,HH.out.1.trans hH,HH.out.2.trans hB⟩⟩
    · rw [hp.2.2.1,HAS.out,decide_eq_decide.2 (show (a≤d∧d<b+1)↔(a≤d∧d≤b) by omega)]
    · rw [←HAS.out]
      exact hp.2.2.2 d h1 (by omega)
end Go.Proofs.YtmellioacefjjaaGreatDoor.Pq
namespace Go.Proofs.YtmellioacefjjaaGreatDoor.Pq
open Go.RowKit Go.Sort
def Asc (ss:List (List UInt8)):Prop:=ss.Pairwise fun a b=>a≤b
def lessK (ss:List (List UInt8)) (x:List UInt8):Nat:=(ss.takeWhile fun y=>decide (y<x)).length
theorem le_lt {a b c:List UInt8} (h:a≤b) (k:b<c):a<c:=List.lt_of_le_of_lt h k
theorem less_le (ss:List (List UInt8)) (x:List UInt8):lessK ss x≤ss.length:=(List.takeWhile_sublist _).length_le
theorem less_yes:∀ {ss:List (List UInt8)} {x:List UInt8} {t:Nat},t<lessK ss x→ss.getD t x<x
 | [],x,t,h=>by simp [lessK] at h
 | y::ss,x,t,h=>by
  by_cases hy:y<x
  · cases t with
    | zero=>exact hy
    | succ t=>
     have h':t<lessK ss x:=by
      unfold lessK at h ⊢
      rw [List.takeWhile_cons_of_pos (by simpa using hy)] at h
      simpa using h
     simpa using less_yes h'
  · unfold lessK at h
    rw [List.takeWhile_cons_of_neg (by simpa using hy)] at h
    simp at h
theorem less_no:∀ {ss:List (List UInt8)} {x:List UInt8} (_:Asc ss) {t:Nat},lessK ss x≤t→¬ss.getD t x<x
 | [],x,_,t,_=>by simp [List.lt_irrefl]
 | y::ss,x,ha,t,h=>by
  by_cases hy:y<x
  · cases t with
    | zero=>
     unfold lessK at h
     rw [List.takeWhile_cons_of_pos (by simpa using hy)] at h
     simp at h
    | succ t=>
     have h':lessK ss x≤t:=by
      unfold lessK at h ⊢
      rw [List.takeWhile_cons_of_pos (by simpa using hy)] at h
      simpa using h
     simpa using less_no (List.Pairwise.of_cons ha) h'
  · cases t with
    | zero=>simpa using hy
    | succ t=>
     intro hlt
     have e:(y::ss).getD (t+1) x=ss.getD t x:=by simp
     rw [e] at hlt
     rcases Nat.lt_or_ge t ss.length with hl | hl
     · have hm:ss.getD t x∈ss:=by
        rw [List.getD_eq_getElem?_getD,List.getElem?_eq_getElem hl]
        simp
       exact hy (le_lt (List.rel_of_pairwise_cons ha hm) hlt)
     · rw [List.getD_eq_getElem?_getD,List.getElem?_eq_none hl] at hlt
       exact List.lt_irrefl x hlt
theorem bs_go {ss:List (List UInt8)} {x:List UInt8} (ha:Asc ss):Lib.bsGo (fun t=>Op.bytesLess (bs (ss.getD t x)).toList (bs x).toList) ss.length 0 ss.length=lessK ss x:=by
 refine Lib.bsGo_spec _ (lessK ss x) (fun t ht=>?_) (fun t ht=>?_) _ _ _ (by omega) (Nat.zero_le _) (less_le ss x)
 · rw [bs_toList,bs_toList,bytesLess_eq]
   exact decide_eq_true (less_yes ht)
 · rw [bs_toList,bs_toList,bytesLess_eq]
   exact decide_eq_false (less_no ha ht)
theorem bs_found {ss:List (List UInt8)} {x:List UInt8} (ha:Asc ss):decide (lessK ss x<ss.length∧bs (ss.getD (lessK ss x) x)=bs x)=decide (x∈ss):=by
 rw [decide_eq_decide]
 constructor
 · rintro⟨h1,h2⟩
   have h3:=bs_inj h2
   rw [List.getD_eq_getElem?_getD,List.getElem?_eq_getElem h1] at h3
   simp at h3
   rw [←h3]
   exact List.getElem_mem h1
 · intro hm
   obtain⟨j,hj,e⟩:=List.mem_iff_getElem.1 hm
   have hkj:lessK ss x≤j:=by
    rcases Nat.lt_or_ge j (lessK ss x) with h | h
    · have:=less_yes h
      rw [List.getD_eq_getElem?_getD,List.getElem?_eq_getElem hj] at this
      simp [e] at this
      exact absurd this (List.lt_irrefl x)
    · exact h
   have hk:lessK ss x<ss.length:=by omega
   refine⟨hk,?_⟩
   congr 1
   have hn:=less_no ha (Nat.le_refl (lessK ss x)) (x:=x)
   rw [List.getD_eq_getElem?_getD,List.getElem?_eq_getElem hk] at hn ⊢
   simp only [Option.getD_some] at hn ⊢
   have hle:ss[lessK ss x]≤x:=by
    rcases Nat.lt_or_ge (lessK ss x) j with h | h
    · have:=List.pairwise_iff_getElem.1 ha _ _ hk hj h
      rwa [e] at this
    · obtain rfl:lessK ss x=j:=by omega
      rw [e]
      exact List.le_refl x
   exact List.le_antisymm hle hn
theorem among_perm {ss vs:List (List UInt8)} (h:ss.Perm vs) (v:List UInt8):amongB ss v=amongB vs v:=by
 unfold amongB
 rw [h.length_eq,decide_eq_decide.2 h.mem_iff]
end Go.Proofs.YtmellioacefjjaaGreatDoor.Pq
namespace Go.Proofs
open Go.Shelf
def Tryz.searchStr_ren:Go.Shelf.Ren:=⟨fun | 26=>118 | 33=>156 | 34=>157 | 38=>187 | n=>n,fun | 24=>102 | 9=>9 | 3=>3 | 4=>4 | 40=>149 | 0=>0 | n=>n,fun | n=>n⟩
theorem Tryz.searchStr:Go.Proofs.Lays2.n26 Tryz.prog Tryz.searchStr_ren:={
 mixed:=by kernel_rfl
 f26:=Tryz.func118.trans (congrArg some (by kernel_rfl))
 f33:=Tryz.func156.trans (congrArg some (by kernel_rfl))
 f34:=Tryz.func157.trans (congrArg some (by kernel_rfl))
 f38:=Tryz.func187.trans (congrArg some (by kernel_rfl))
 t0:=Tryz.underlying0
 a0:=Tryz.isAgg0
 z0:=Tryz.sizeOf0
 v0:=Tryz.zeroValue0
 t3:=Tryz.underlying3
 a3:=Tryz.isAgg3
 z3:=Tryz.sizeOf3
 v3:=Tryz.zeroValue3
 t4:=Tryz.underlying4
 a4:=Tryz.isAgg4
 z4:=Tryz.sizeOf4
 v4:=Tryz.zeroValue4
 t9:=Tryz.underlying9
 a9:=Tryz.isAgg9
 z9:=Tryz.sizeOf9
 v9:=Tryz.zeroValue9
 t24:=Tryz.underlying102
 a24:=Tryz.isAgg102
 z24:=Tryz.sizeOf102
 v24:=Tryz.zeroValue102
 t40:=Tryz.underlying149
 a40:=Tryz.isAgg149
 z40:=Tryz.sizeOf149
 v40:=Tryz.zeroValue149 }
theorem Tryz.slices_BinarySearch (b off n c:Nat) (Sx:Nat→ByteArray) (x:ByteArray) (w:World) (hbig:n<4611686018427387904) (hc:∀ j,j<n→w.cell? ⟨b,off+j,none⟩=some (.string (Sx j))):
 Calls Tryz.prog 118 #[.slice (some ⟨b,off,none⟩) n c,.string x] w fun e w'=>
  e=.returned (.tuple #[.int .i64 (Lib.bsGo (fun t=>Op.bytesLess (Sx t).toList x.toList) n 0 n:Nat),.bool (decide (Lib.bsGo (fun t=>Op.bytesLess (Sx t).toList x.toList) n 0 n<n∧Sx (Lib.bsGo (fun t=>Op.bytesLess (Sx t).toList x.toList) n 0 n)=x))])∧∃ q,w'=w.drewN q:=Any2.slices_BinarySearch_string Tryz.searchStr b off n c Sx x w hbig hc
theorem Tryz.slices_BinarySearch_empty (a:Option Addr) (c:Nat) (x:ByteArray) (w:World):
 Calls Tryz.prog 118 #[.slice a 0 c,.string x] w fun e w'=>e=.returned (.tuple #[.int .i64 0,.bool false])∧w'=w:=Any2.slices_BinarySearch_string_empty Tryz.searchStr a c x w
end Go.Proofs
namespace Go.Proofs.YtmellioacefjjaaGreatDoor.Pq
open Go.RowKit Go.Shelf
attribute [local go_sem] Oper.semAt_some
theorem clone44 (l:List UInt8) (w:World) (hl:l.length≤1000000):Calls Tryz.prog 117 #[.string (bs l)] w fun e w'=>e=.returned (.string (bs l))∧Below w.heap.size w w':=by
 have c75:=Tryz.stringslite_Clone (bs l) w (by rw [bs_size];omega)
 go_enter Tryz.func117,Tryz.ntmps117
 go_wp2_with (go_at_call 155;(with_reducible refine c75.mono ?_);rintro e w' ⟨rfl,hb⟩)
 go_ret
 exact⟨rfl,hb⟩
def RsPost (f:List (List UInt8)) (w:World) (e:Ending) (w':World):Prop:=
 Below w.heap.size w w'∧∃ s:Sp,e=.returned (.tuple #[spV s,.int .i64 (lineErr f)])∧Hid (lineErr f=0→s=spOf f)
theorem rs_three {w0 W:World} {B:Nat} {a b:Int} {v:ByteArray} (h:Below B w0 W) {b0:Nat} (hb:B≤b0):Below B w0 (((W.setCell ⟨b0,0,none⟩ (.int .i64 a)).setCell ⟨b0,1,none⟩ (.int .i64 b)).setCell ⟨b0,2,none⟩ (.string v)):=
 ((h.setCell (p:=⟨b0,0,none⟩) hb _).setCell (p:=⟨b0,1,none⟩) hb _).setCell (p:=⟨b0,2,none⟩) hb _
theorem rs_new (w:World) (q:Nat):(((w.alloc (.cells #[.int .i64 0,.int .i64 0,.string ⟨#[]⟩] 89)).drewN q).cell? ⟨w.heap.size,0,none⟩=some (.int .i64 0)∧((w.alloc (.cells #[.int .i64 0,.int .i64 0,.string ⟨#[]⟩] 89)).drewN q).cell? ⟨w.heap.size,1,none⟩=some (.int .i64 0)∧((w.alloc (.cells #[.int .i64 0,.int .i64 0,.string ⟨#[]⟩] 89)).drewN q).cell? ⟨w.heap.size,2,none⟩=some (.string ⟨#[]⟩))∧w.heap.size<((w.alloc (.cells #[.int .i64 0,.int .i64 0,.string ⟨#[]⟩] 89)).drewN q).heap.size:=by
 refine⟨⟨?_,?_,?_⟩,?_⟩
 · show (w.alloc (.cells #[.int .i64 0,.int .i64 0,.string ⟨#[]⟩] 89)).cell? ⟨w.heap.size,0,none⟩=_;simp
 · show (w.alloc (.cells #[.int .i64 0,.int .i64 0,.string ⟨#[]⟩] 89)).cell? ⟨w.heap.size,1,none⟩=_;simp
 · show (w.alloc (.cells #[.int .i64 0,.int .i64 0,.string ⟨#[]⟩] 89)).cell? ⟨w.heap.size,2,none⟩=_;simp
 · show w.heap.size<(w.alloc (.cells #[.int .i64 0,.int .i64 0,.string ⟨#[]⟩] 89)).heap.size;simp
set_option maxRecDepth 100000 in
set_option maxHeartbeats 2000000 in
theorem readspan22 (F:Option Addr) (n c:Nat) (f:List (List UInt8)) (w:World) (hF:Vals w F n (strs f)) (hl:∀ x∈f,x.length≤1000000) (hn:n≤1000000)
 (c43:∀ W,Below w.heap.size w W→Calls Tryz.prog 116 #[.string (bs (pfld f 0))] W fun e w'=>e=.returned (.tuple #[.int .i64 (rangeOf (pfld f 0)).1,.int .i64 (rangeOf (pfld f 0)).2.1,.int .i64 (rangeOf (pfld f 0)).2.2])∧∃ q,w'=W.drewN q):
 Calls Tryz.prog 90 #[.slice F n c] w (RsPost f w):=by
 have hlen:f.length=n:=by have:=hF.1;rwa [strs_length] at this
 have hb0:Below w.heap.size w (w.alloc (.cells #[.int .i64 0,.int .i64 0,.string ⟨#[]⟩] 89)):=(Below.refl _ _).alloc (Nat.le_refl _) _
 have k43:=c43 _ hb0
 by_cases h2:f.length<2
 · have he:=line_few h2
   have h2':(n:Int)<2:=by omega
   have HE:=Lib.hid he
   clear hF hl c43 k43 he
   go_enter Tryz.func90,Tryz.ntmps90
   go_wp2
   exact bodyPost_ret (v:=.tuple #[spV ⟨0,0,[]⟩,.int .i64 12]) (by simp [results,Tryz.results90,go_sem,spV,bs_nil]) rfl ⟨hb0,⟨0,0,[]⟩,by rw [HE.out],Lib.hid (fun h=>absurd h (by rw [HE.out];decide))⟩
 · obtain⟨b,off,rfl,hbl,hc0,hc1⟩:=flds2 hF h2
   have h2':¬(n:Int)<2:=by omega
   have hn0:0<n:=by omega
   have hn1:1<n:=by omega
   have hl1:(pfld f 1).length≤1000000:=by
    unfold pfld
    rw [List.getD_eq_getElem?_getD]
    cases hq:f[1]? with
    | none=>simp
    | some y=>exact hl y (List.mem_of_getElem? hq)
   by_cases hr:(rangeOf (pfld f 0)).2.2=0
   · by_cases hv:pfld f 1 = []
     · have HE:=Lib.hid (line_emp h2 hr hv)
       rw [hr] at k43
       rw [hv,bs_nil] at hc1
       obtain⟨X,hX⟩:∃ X,bs (pfld f 0)=X:=⟨_,rfl⟩
       rw [hX] at hc0 k43
       clear hF hl c43 hX hv hr hl1
       go_enter Tryz.func90,Tryz.ntmps90
       go_wp2_with (go_at_call 116;(with_reducible refine k43.mono ?_);rintro e w1 ⟨rfl,q,rfl⟩)
       exact bodyPost_ret (v:=.tuple #[spV ⟨0,0,[]⟩,.int .i64 16]) (by simp [results,Tryz.results90,go_sem,spV,bs_nil]) rfl ⟨rs_three (below_drewN hb0 q) (Nat.le_refl _),⟨0,0,[]⟩,by rw [HE.out],Lib.hid (fun h=>absurd h (by rw [HE.out];decide))⟩
     · have HE:=Lib.hid (line_ok h2 hr hv)
       rw [hr] at k43
       have hne:=bs_some hv
       have c44:=fun q=>clone44 (pfld f 1) ((w.alloc (.cells #[.int .i64 0,.int .i64 0,.string ⟨#[]⟩] 89)).drewN q) hl1
       have hfr:∀ i,(w.alloc (.cells #[.int .i64 0,.int .i64 0,.string ⟨#[]⟩] 89)).frozen? ⟨w.heap.size,i,none⟩=false:=fun i=>frozen_new w _ _ i
       obtain⟨X,hX⟩:∃ X,bs (pfld f 0)=X:=⟨_,rfl⟩
       obtain⟨Y,hY⟩:∃ Y,bs (pfld f 1)=Y:=⟨_,rfl⟩
       obtain⟨ra,hra⟩:∃ r,(rangeOf (pfld f 0)).1=r:=⟨_,rfl⟩
       obtain⟨rb,hrb⟩:∃ r,(rangeOf (pfld f 0)).2.1=r:=⟨_,rfl⟩
       rw [hX] at hc0 k43
       rw [hra,hrb] at k43
       rw [hY] at hc1 hne
       simp only [hY] at c44
       have HX:=Lib.hid (And.intro hY (And.intro hra hrb))
       have C44:=Lib.hid c44
       have HFR:=Lib.hid hfr
       clear hF hl c43 hX hv hr hl1 hY hra hrb c44 hfr
       go_enter Tryz.func90,Tryz.ntmps90
       go_wp2_with (first
        | (go_at_call 116;(with_reducible refine k43.mono ?_);rintro e w1 ⟨rfl,q,rfl⟩;have k44:=C44.out q)
        | (go_at_call 117;(with_reducible refine k44.mono ?_);rintro e w2 ⟨rfl,hb2⟩;have hlt:=(rs_new w q).2;have hyy:=(rs_new w q).1;have y0:w2.cell? ⟨w.heap.size,0,none⟩=some (.int .i64 0):=(hb2.cell (p:=⟨w.heap.size,0,none⟩) hlt).trans hyy.1;have y1:w2.cell? ⟨w.heap.size,1,none⟩=some (.int .i64 0):=(hb2.cell (p:=⟨w.heap.size,1,none⟩) hlt).trans hyy.2.1;have y2:w2.cell? ⟨w.heap.size,2,none⟩=some (.string ⟨#[]⟩):=(hb2.cell (p:=⟨w.heap.size,2,none⟩) hlt).trans hyy.2.2;have f0:w2.frozen? ⟨w.heap.size,0,none⟩=false:=(hb2.frozen (p:=⟨w.heap.size,0,none⟩) hlt).trans (HFR.out 0);have f1:w2.frozen? ⟨w.heap.size,1,none⟩=false:=(hb2.frozen (p:=⟨w.heap.size,1,none⟩) hlt).trans (HFR.out 1);have f2:w2.frozen? ⟨w.heap.size,2,none⟩=false:=(hb2.frozen (p:=⟨w.heap.size,2,none⟩) hlt).trans (HFR.out 2)))
       have hB2:Below w.heap.size w w2:=(below_drewN hb0 q).trans (hb2.mono (below_drewN hb0 q).size)
       exact bodyPost_ret (v:=.tuple #[spV (spOf f),.int .i64 0]) (by simp [results,Tryz.results90,go_sem,spV,spOf,y0,y1,y2,HX.out.1,HX.out.2.1,HX.out.2.2]) rfl ⟨rs_three hB2 (Nat.le_refl _),spOf f,by rw [HE.out],Lib.hid (fun _=>rfl)⟩
   · have HE:=Lib.hid (line_rng h2 hr)
     obtain⟨X,hX⟩:∃ X,bs (pfld f 0)=X:=⟨_,rfl⟩
     obtain⟨E,hE⟩:∃ E,(rangeOf (pfld f 0)).2.2=E:=⟨_,rfl⟩
     rw [hX] at hc0 k43
     rw [hE] at k43 hr HE
     have hx1:(E==0)=false:=beq_false_of_ne hr
     have hx2:(E != 0)=true:=bne_iff_ne.2 hr
     have HR:=Lib.hid hr
     clear hF hl c43 hX hE hr hl1
     go_enter Tryz.func90,Tryz.ntmps90
     go_wp2_with (go_at_call 116;(with_reducible refine k43.mono ?_);rintro e w1 ⟨rfl,q,rfl⟩)
     exact bodyPost_ret (v:=.tuple #[spV ⟨0,0,[]⟩,.int .i64 E]) (by simp [results,Tryz.results90,go_sem,spV,bs_nil]) rfl ⟨rs_three (below_drewN hb0 q) (Nat.le_refl _),⟨0,0,[]⟩,by rw [HE.out],Lib.hid (fun h=>absurd (HE.out.symm.trans h) HR.out)⟩
theorem isasked23 (A:Option Addr) (n c:Nat) (ss:List (List UInt8)) (v:List UInt8) (w:World) (hV:Vals w A n (strs ss)) (hs:Asc ss) (hn:n≤1000000):
 Calls Tryz.prog 91 #[.string (bs v),.slice A n c] w fun e w'=>e=.returned (.bool (amongB ss v))∧∃ q,w'=w.drewN q:=by
 have hlen:ss.length=n:=by have:=hV.1;rwa [strs_length] at this
 by_cases h0:n=0
 · subst h0
   have c45:=Tryz.slices_BinarySearch_empty A c (bs v) w
   have e:amongB ss v=true:=by unfold amongB;rw [hlen];rfl
   rw [e]
   clear hV hs hlen e
   go_enter Tryz.func91,Tryz.ntmps91
   go_wp2_with (go_at_call 118;(with_reducible refine c45.mono ?_);rintro e w' ⟨rfl,rfl⟩)
   go_ret
   exact⟨rfl,0,rfl⟩
 · obtain⟨b,off,rfl,hlt,hc⟩:=hV.2 (by omega)
   have c45:=Tryz.slices_BinarySearch b off n c (fun j=>bs (ss.getD j v)) (bs v) w (by omega) (fun j hj=>by
    have h1:=hc j _ (strs_get (by omega))
    rw [h1]
    have hj':j<ss.length:=by omega
    rw [List.getD_eq_getElem?_getD,List.getD_eq_getElem?_getD,List.getElem?_eq_getElem hj']
    rfl)
   rw [←hlen] at c45
   rw [bs_go hs,bs_found hs,hlen] at c45
   have e:amongB ss v=decide (v∈ss):=by unfold amongB;rw [decide_eq_false (by omega),Bool.false_or]
   rw [e]
   obtain⟨f,hf⟩:∃ f,decide (v∈ss)=f:=⟨_,rfl⟩
   rw [hf] at c45 ⊢
   have hn0:((n:Int)==0)=false:=beq_false_of_ne (by omega)
   clear hV hs hlen e hf hc
   cases f with
   | true=>
    go_enter Tryz.func91,Tryz.ntmps91
    go_wp2_with (go_at_call 118;(with_reducible refine c45.mono ?_);rintro e w' ⟨rfl,q,rfl⟩)
    go_ret
    exact⟨rfl,q,rfl⟩
   | false=>
    go_enter Tryz.func91,Tryz.ntmps91
    go_wp2_with (go_at_call 118;(with_reducible refine c45.mono ?_);rintro e w' ⟨rfl,q,rfl⟩)
    go_ret
    exact⟨rfl,q,rfl⟩
end Go.Proofs.YtmellioacefjjaaGreatDoor.Pq
