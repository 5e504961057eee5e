/- A part. -/
import Derived.Test.YtmellioacefjjaaGreatDoorQB12
namespace Go.Proofs.YtmellioacefjjaaGreatDoor.Pq
open Go.RowKit Go.Shelf
attribute [local go_sem] Oper.semAt_some
theorem bs_empt (l:List UInt8):(bs l).toList.isEmpty=decide (l = []):=by
 have e:(bs l).toList=l:=by rw [Lib.toList_data,bs_data]
 rw [e,Bool.eq_iff_iff,decide_eq_true_eq,List.isEmpty_iff]
theorem bs_same (a b:List UInt8):((bs a).toList==(bs b).toList)=decide (a=b):=by
 have e:∀ l,(bs l).toList=l:=fun l=>by rw [Lib.toList_data,bs_data]
 rw [e,e,Bool.eq_iff_iff,beq_iff_eq,decide_eq_true_eq]
theorem box3 (W:World) (v0 v1 v2:Value) (t:TypeId):(W.alloc (.cells #[v0,v1,v2] t)).cell? ⟨W.heap.size,0,none⟩=some v0∧(W.alloc (.cells #[v0,v1,v2] t)).cell? ⟨W.heap.size,1,none⟩=some v1∧(W.alloc (.cells #[v0,v1,v2] t)).cell? ⟨W.heap.size,2,none⟩=some v2:=⟨by simp,by simp,by simp⟩
theorem box_celli {W:World} {a:Addr} {v:Value} (o:Obj) (h:W.cell? a=some v):(W.alloc o).cell? a=some v:=(World.cell?_alloc_lt _ _ _ (World.block_lt_of_cell? W a h)).trans h
def PpI (w1:World) (vs:List (List UInt8)) (L:List Ln) (v i:Value) (wr:World):Prop:=
 ∃ (k:Nat) (out:List Sp),i=.int .i64 k∧k≤L.length∧(propP vs out (L.drop k)=propOf vs L∧out.length≤k)∧wr.ownsRow w1.heap.size 91 3 v out.length (spvs out)∧Below w1.heap.size w1 wr
def RPost (vs:List (List UInt8)) (L:List Ln) (w:World) (e:Ending) (w':World):Prop:=
 Below w.heap.size w w'∧∃ A c,e=.returned (.tuple #[.slice A (propOf vs L).rows.length c,.int .i64 (propOf vs L).err,.int .i64 (propOf vs L).num])∧SAt w' A (propOf vs L).rows.length (sorted (propOf vs L).rows)
theorem rp_bad {vs:List (List UInt8)} {L:List Ln} {w w':World} {e n:Int} (h:propOf vs L=⟨[],e,n⟩) (hb:Below w.heap.size w w'):RPost vs L w (.returned (.tuple #[.slice none 0 0,.int .i64 e,.int .i64 n])) w':=
 ⟨hb,none,0,by rw [h];rfl,by rw [h];exact SAt.nil _ _⟩
def AmI (vs:List (List UInt8)) (v:List UInt8) (w2:World) (am i:Value) (wq:World):Prop:=
 ∃ (j q:Nat) (a:Bool),i=.int .i64 j∧j≤vs.length∧am=.bool a∧Hid (amTo vs v j=a)∧wq=w2.drewN q
set_option maxRecDepth 100000 in
set_option maxHeartbeats 4000000 in
theorem rprop10 (l:List UInt8) (V:Option Addr) (nv cv:Nat) (vs:List (List UInt8)) (w:World) (hl:l.length≤4000) (hxl:∀ x∈linesIn l,∀ f∈x.2,f.length≤4000) (hV:Vals w V nv (strs vs)) (hnv:nv≤1000):
 Calls Tryz.prog 56 #[.string (bs l),.slice V nv cv] w (RPost vs (linesIn l) w):=by
 obtain⟨i0,hi,hz0,hz1,hz2⟩:=info_parts info44
 have c24:=lines8 l w (by omega)
 have hvl:vs.length=nv:=by have:=hV.1;rwa [strs_length] at this
 obtain⟨L,hL⟩:∃ L,linesIn l=L:=⟨_,rfl⟩
 rw [hL]
 have HV:=Lib.hid hV
 have HVL:=Lib.hid hvl
 clear hV hvl
 go_enter Tryz.func56,Tryz.ntmps56
 go_wp2_with (go_at_call 75;(with_reducible refine c24.mono ?_);rintro e w1 ⟨hb1,A,ca,rfl,hca,hLA⟩)
 clear c24
 have hlen:(linesIn l).length≤4001:=by
  rw [←lines_pieces]
  have h1:=List.length_filterMap_le lineOf (numbered 1 (pieces l))
  rw [numbered_length] at h1
  have h2:=pieces_length l
  omega
 rw [hL] at hlen hLA hca hxl
 obtain⟨N,hN⟩:∃ N,L.length=N:=⟨_,rfl⟩
 rw [hN] at hlen hLA hca ⊢
 have HN:=Lib.hid hN
 have HXL:=Lib.hid hxl
 have HLA:=Lib.hid hLA
 have HB1:=Lib.hid hb1
 clear hL hN hxl hLA hb1 hl
 go_wp2
 go_loopw [8,9] (fun v i wr=>PpI w1 vs L v i wr) (fun _ i _=>N-(intOf i).toNat)
 case atStart=>exact⟨0,[],rfl,Nat.zero_le _,⟨rfl,Nat.le_refl _⟩,World.ownsRow_nil _ _ _ _,Below.refl _ _⟩
 case round=>
  obtain⟨k,out,rfl,hk,⟨href,hpl⟩,hown,hbw⟩:=hrel
  have hbww:Below w.heap.size w wr:=HB1.out.trans (hbw.mono HB1.out.size)
  obtain⟨Ao,co,rfl,-,hsat,hAn⟩:=own_sat hown
  by_cases hlt:k<N
  · have hkL:k<L.length:=by rw [HN.out];exact hlt
    obtain⟨bL,rfl,hbL,hcell⟩:=HLA.out.2 (by omega)
    obtain⟨x,hx⟩:∃ x,L[k]? = some x:=⟨_,List.getElem?_eq_getElem hkL⟩
    obtain⟨e1,F,cf,e2,hVF⟩:=hcell k x hx
    rw [Nat.mul_comm] at e1 e2
    have d1:wr.cell? ⟨bL,k*2,none⟩=some (.int .i64 x.1):=(hbw.cell (p:=⟨bL,k*2,none⟩) hbL).trans e1
    have d2:wr.cell? ⟨bL,k*2+1,none⟩=some (.slice F x.2.length cf):=(hbw.cell (p:=⟨bL,k*2+1,none⟩) hbL).trans e2
    have hbLw:bL<wr.heap.size:=Nat.lt_of_lt_of_le hbL hbw.size
    have hdrop:L.drop k=x::L.drop (k+1):=by rw [List.drop_eq_getElem_cons hkL];congr 1;exact (List.getElem?_eq_some_iff.1 hx).2
    have hxm:=List.mem_of_getElem? hx
    have hVw:=hVF.below hbw
    rw [hdrop] at href
    have HBW:=Lib.hid hbww
    have HBW1:=Lib.hid hbw
    have HOW:=Lib.hid hown
    have HSA:=Lib.hid hsat
    have hol:out.length≤8000:=by omega
    obtain⟨n,hn⟩:∃ n,x.2.length=n:=⟨_,rfl⟩
    have HNL:=Lib.hid hn
    clear e1 e2 hcell hdrop hVF hbww hbw hown hsat hx
    by_cases hfew:x.2.length<2
    · have hres:propOf vs L=⟨[],12,x.1⟩:=by rw [←href,prp_err (by rw [line_few hfew];decide),line_few hfew]
      have HP:=Lib.hid (fun W (hb:Below w.heap.size w W)=>rp_bad (w:=w) (w':=W) hres hb)
      rw [hn] at d2 hfew
      have hd:decide (n<2)=true:=decide_eq_true hfew
      have hd2:decide ((n:Int)<2)=true:=decide_eq_true (by omega)
      clear href hres hVw hn hpl
      go_wp2
      go_quiet (fail)
      go_wp2
      go_ret3
      exact HP.out _ (below_drewN HBW.out _)
    · obtain⟨bF,oF,rfl,hbF,q0,q1⟩:=flds2 hVw hfew
      have hf0:(pfld x.2 0).length≤4000:=by
       unfold pfld
       rw [List.getD_eq_getElem?_getD]
       cases hk0:x.2[0]? with
       | none=>simp
       | some y=>exact HXL.out x hxm y (List.mem_of_getElem? hk0)
      have c25:=range14 (pfld x.2 0) wr (by omega)
      unfold rgVal at c25
      rw [hn] at d2
      have hnn:2≤n:=by omega
      have hd:decide (n<2)=false:=decide_eq_false (by omega)
      have hd2:decide ((n:Int)<2)=false:=decide_eq_false (by omega)
      have hi1:(1:Int)<(n:Int):=by omega
      have hi0:(0:Int)<(n:Int):=by omega
      obtain⟨S0,hS0⟩:∃ S,bs (pfld x.2 0)=S:=⟨_,rfl⟩
      rw [hS0] at q0 c25
      by_cases hre:(rangeOf (pfld x.2 0)).2.2=0
      · by_cases hem:pfld x.2 1 = []
        · have hres:propOf vs L=⟨[],16,x.1⟩:=by rw [←href,prp_err (by rw [line_emp hfew hre hem];decide),line_emp hfew hre hem]
          have HP:=Lib.hid (fun W (hb:Below w.heap.size w W)=>rp_bad (w:=w) (w':=W) hres hb)
          have t1:=bs_empt (pfld x.2 1)
          rw [decide_eq_true hem] at t1
          obtain⟨S1,hS1⟩:∃ S,bs (pfld x.2 1)=S:=⟨_,rfl⟩
          rw [hS1] at q1 t1
          rw [hre] at c25
          obtain⟨ra,hra⟩:∃ a,(rangeOf (pfld x.2 0)).1=a:=⟨_,rfl⟩
          obtain⟨rb,hrb⟩:∃ a,(rangeOf (pfld x.2 0)).2.1=a:=⟨_,rfl⟩
          rw [hra,hrb] at c25
          clear href hres hVw hn hpl hfew hre hem hS0 hS1 hra hrb hf0 hxm
          go_wp2_with (go_at_call 78;(with_reducible refine c25.mono ?_);rintro e w2 ⟨rfl,hb2⟩;have z1:=(hb2.cell (p:=⟨bL,k*2,none⟩) hbLw).trans d1;have z3:=(hb2.cell (p:=⟨bF,oF+1,none⟩) hbF).trans q1;clear c25)
          go_quiet (fail)
          go_wp2
          go_ret3
          exact HP.out _ (below_drewN (HBW.out.trans (hb2.mono HBW.out.size)) _)
        · have hok:=line_ok hfew hre hem
          have t1:=bs_empt (pfld x.2 1)
          rw [decide_eq_false hem] at t1
          have HSK:=Lib.hid (fun (ha:amongB vs (pfld x.2 1)=false)=>(prp_skip (out:=out) (t:=L.drop (k+1)) hok ha).symm.trans href)
          have HBD:=Lib.hid (fun (ha:amongB vs (pfld x.2 1)=true) (hc:¬check out (spOf x.2)=0)=>(show propOf vs L=⟨[],check out (spOf x.2),x.1⟩ by rw [←href];exact prp_bad hok ha hc))
          have HAD:=Lib.hid (fun (ha:amongB vs (pfld x.2 1)=true) (hc:check out (spOf x.2)=0)=>(prp_add (t:=L.drop (k+1)) hok ha hc).symm.trans href)
          have C26:=Lib.hid (fun (W:World) (hb:Below wr.heap.size wr W)=>check19 Ao out.length co out (spOf x.2) W (HSA.out.below hb) (by omega))
          have HSP:Hid (spOf x.2=⟨(rangeOf (pfld x.2 0)).1,(rangeOf (pfld x.2 0)).2.1,pfld x.2 1⟩):=Lib.hid rfl
          obtain⟨s,hs⟩:∃ s,spOf x.2=s:=⟨_,rfl⟩
          rw [hs] at HBD HAD C26 HSP
          have HSW:Hid (∀ (v:List UInt8) (u:List UInt8),((bs v).toList==(bs u).toList)=decide (v=u)):=Lib.hid bs_same
          rw [hre] at c25
          obtain⟨ra,hra⟩:∃ a,(rangeOf (pfld x.2 0)).1=a:=⟨_,rfl⟩
          obtain⟨rb,hrb⟩:∃ a,(rangeOf (pfld x.2 0)).2.1=a:=⟨_,rfl⟩
          rw [hra,hrb] at c25 HSP
          obtain⟨v,hv⟩:∃ v,pfld x.2 1=v:=⟨_,rfl⟩
          rw [hv] at q1 t1 HSK HBD HAD HSP
          obtain⟨S1,hS1⟩:∃ S,bs v=S:=⟨_,rfl⟩
          rw [hS1] at q1 t1
          have HS1:=Lib.hid hS1
          obtain⟨b0,hb0⟩:∃ b,((nv:Int)==0)=b:=⟨_,rfl⟩
          have HB0:Hid (decide (vs.length=0)=b0):=Lib.hid (by rw [←hb0,HVL.out,Bool.eq_iff_iff,beq_iff_eq,decide_eq_true_eq];omega)
          obtain⟨M,hM⟩:∃ M,out.length=M:=⟨_,rfl⟩
          have HM:=Lib.hid hM
          rw [hM] at hol C26 ⊢
          have hMk:M≤k:=by omega
          clear href hVw hn hpl hfew hre hem hS0 hS1 hra hrb hf0 hxm hok hs hv hM
          go_wp2_with (go_at_call 78;(with_reducible refine c25.mono ?_);rintro e w2 ⟨rfl,hb2⟩;have z1:=(hb2.cell (p:=⟨bL,k*2,none⟩) hbLw).trans d1;have z3:=(hb2.cell (p:=⟨bF,oF+1,none⟩) hbF).trans q1;clear c25)
          clear hb0
          have HB2:=Lib.hid hb2
          have hV2:=(HV.out.below HBW.out).below hb2
          have HV2:=Lib.hid hV2
          have hbF2:bF<w2.heap.size:=Nat.lt_of_lt_of_le hbF hb2.size
          clear hb2 hV2 d1 d2 q0 q1
          go_loopw [14,15] (fun am i wq=>AmI vs v w2 am i wq) (fun _ i _=>nv-(intOf i).toNat)
          case atStart=>exact⟨0,0,b0,rfl,Nat.zero_le _,rfl,Lib.hid (by rw [am_zero];exact HB0.out),rfl⟩
          case round=>
           obtain⟨j,q,a,rfl,hj,rfl,HA,rfl⟩:=hrel
           rw [HVL.out] at hj
           by_cases hjn:j<nv
           · obtain⟨bV,oV,rfl,-,hcV⟩:=HV2.out.2 (by omega)
             have hjl:j<vs.length:=by rw [HVL.out];exact hjn
             have g1:w2.cell? ⟨bV,oV+j,none⟩=some (.string (bs (vs.getD j []))):=hcV j _ (strs_get hjl)
             have HSN:=Lib.hid (am_snoc (vs:=vs) (v:=v) (u:=vs.getD j []) (j:=j) (by rw [List.getD_eq_getElem?_getD,List.getElem?_eq_getElem hjl];rfl))
             have f1:=HSW.out (vs.getD j []) v
             rw [HS1.out] at f1
             obtain⟨cc,hcc⟩:∃ c,decide (vs.getD j []=v)=c:=⟨_,rfl⟩
             rw [hcc] at f1 HSN
             obtain⟨SV,hSV⟩:∃ S,bs (vs.getD j [])=S:=⟨_,rfl⟩
             rw [hSV] at g1 f1
             clear hcV hSV hcc hjl
             cases a with
             | true=>
              go_wp2
              go_quiet (fail)
              go_wp2
              go_roundw
              case rel=>exact⟨j+1,_,true,by go_num,by rw [HVL.out];omega,rfl,Lib.hid (by rw [HSN.out,HA.out];rfl),rfl⟩
              case measure=>simp [intOf];omega
             | false=>
              go_wp2
              go_quiet (fail)
              go_wp2
              go_roundw
              case rel=>exact⟨j+1,_,cc,by go_num,by rw [HVL.out];omega,rfl,Lib.hid (by rw [HSN.out,HA.out];rfl),rfl⟩
              case measure=>simp [intOf];omega
           · have hje:j=nv:=by omega
             subst hje
             have HAM:Hid (amongB vs v=a):=Lib.hid (by have:=HA.out;rw [←HVL.out,am_all] at this;exact this)
             have b2q:Below w2.heap.size w2 (w2.drewN q):=below_drewN (Below.refl _ _) q
             obtain⟨W,hW⟩:∃ W,w2.drewN q=W:=⟨_,rfl⟩
             rw [hW] at b2q ⊢
             have y1:=(b2q.cell (p:=⟨bL,k*2,none⟩) (Nat.lt_of_lt_of_le hbLw HB2.out.size)).trans z1
             have y3:=(b2q.cell (p:=⟨bF,oF+1,none⟩) hbF2).trans z3
             have brW:Below wr.heap.size wr W:=HB2.out.trans (b2q.mono HB2.out.size)
             have HRW:=Lib.hid brW
             clear hW b2q HA z1 z3 hjn hj
             cases a with
             | false=>
              clear HBD HAD C26 brW
              go_wp2
              go_roundw
              case rel=>exact⟨k+1,out,by go_num,hkL,⟨HSK.out HAM.out,by have:=HM.out;omega⟩,by have:=own_below HOW.out HRW.out (Nat.le_refl _);rw [HM.out] at this ⊢;exact this,HBW1.out.trans (HRW.out.mono HBW1.out.size)⟩
              case measure=>simp [intOf];omega
             | true=>
              have hsp:=HSP.out
              subst hsp
              clear HSP HSK
              have bo:Below W.heap.size W (W.alloc (.cells #[.int .i64 ra,.int .i64 rb,.string S1] 91)):=(Below.refl _ _).alloc (Nat.le_refl _) _
              have BO:=Lib.hid bo
              have k26:=C26.out (W.alloc (.cells #[.int .i64 ra,.int .i64 rb,.string S1] 91)) (brW.trans (bo.mono brW.size))
              unfold ChkPost spV at k26
              simp only [HS1.out] at k26
              clear bo C26 brW
              by_cases hck:check out ⟨ra,rb,v⟩=0
              · have HREF:=Lib.hid (HAD.out HAM.out hck)
                rw [hck] at k26
                have m3:M+1≤maxLen:=by unfold maxLen;omega
                have m4:(M+1)*32≤140737488355328:=by omega
                clear HAD HBD hck
                go_wp2_with (first
                 | (go_at_call 79;(with_reducible refine k26.mono ?_);rintro e w4 ⟨rfl,hb4⟩;have x0:=(hb4.cell (p:=⟨W.heap.size,0,none⟩) (by simp)).trans (box3 W (.int .i64 ra) (.int .i64 rb) (.string S1) 91).1;have x1:=(hb4.cell (p:=⟨W.heap.size,1,none⟩) (by simp)).trans (box3 W (.int .i64 ra) (.int .i64 rb) (.string S1) 91).2.1;have x2:=(hb4.cell (p:=⟨W.heap.size,2,none⟩) (by simp)).trans (box3 W (.int .i64 ra) (.int .i64 rb) (.string S1) 91).2.2;have br4:Below wr.heap.size wr w4:=(HRW.out.trans (BO.out.mono HRW.out.size)).trans (hb4.mono (HRW.out.trans (BO.out.mono HRW.out.size)).size);have BR4:=Lib.hid br4;have hown4:=own_below HOW.out br4 (Nat.le_refl _);rw [HM.out] at hown4;have hs4:w1.heap.size≤w4.heap.size:=Nat.le_trans HBW1.out.size br4.size;clear br4 k26)
                 | (at_builtin;refine append_lit rfl _ _ 50 rfl w1.heap.size 91 i0 (.agg #[.int .i64 0,.int .i64 0,.string ⟨#[]⟩]) 3 32 Tryz.underlying50 hi hz0 hz1 hz2 rfl (by decide) (.slice Ao M co) M _ rfl hown4 [.int .i64 ra,.int .i64 rb,.string S1] rfl (by simp [Value.oneCell']) rfl m3 m4 hs4 ?_;intro v2 w5 ho5 hg5))
                go_roundw
                case rel=>exact⟨k+1,out ++ [⟨ra,rb,v⟩],by go_num,hkL,⟨HREF.out,by rw [List.length_append,List.length_singleton,HM.out];omega⟩,by rw [List.length_append,List.length_singleton,HM.out,←spvs_snoc];dsimp only;rw [HS1.out];exact ho5,hg5 _ _ (HBW1.out.trans (BR4.out.mono HBW1.out.size)) (Nat.le_refl _)⟩
                case measure=>simp [intOf];omega
              · have hres:=HBD.out HAM.out hck
                have HP:=Lib.hid (fun W (hb:Below w.heap.size w W)=>rp_bad (w:=w) (w':=W) hres hb)
                obtain⟨E,hE⟩:∃ E,check out ⟨ra,rb,v⟩=E:=⟨_,rfl⟩
                rw [hE] at HP hck k26
                have hx1:(E==0)=false:=beq_false_of_ne hck
                have hx2:(E != 0)=true:=bne_iff_ne.2 hck
                clear HAD HBD hres hE
                go_wp2_with (go_at_call 79;(with_reducible refine k26.mono ?_);rintro e w4 ⟨rfl,hb4⟩;have br4:Below wr.heap.size wr w4:=(HRW.out.trans (BO.out.mono HRW.out.size)).trans (hb4.mono (HRW.out.trans (BO.out.mono HRW.out.size)).size);have BR4:=Lib.hid br4;have y4:=(hb4.cell (p:=⟨bL,k*2,none⟩) (by have:=World.block_lt_of_cell? W _ y1;simp at this ⊢;omega)).trans (box_celli _ y1);clear br4 k26)
                go_quiet (fail)
                go_wp2
                go_ret3
                exact HP.out _ (below_drewN (HBW.out.trans (BR4.out.mono HBW.out.size)) _)
      · have hres:propOf vs L=⟨[],(rangeOf (pfld x.2 0)).2.2,x.1⟩:=by rw [←href,prp_err (by rw [line_rng hfew hre];exact hre),line_rng hfew hre]
        have HP:=Lib.hid (fun W (hb:Below w.heap.size w W)=>rp_bad (w:=w) (w':=W) hres hb)
        obtain⟨ra,hra⟩:∃ a,(rangeOf (pfld x.2 0)).1=a:=⟨_,rfl⟩
        obtain⟨rb,hrb⟩:∃ a,(rangeOf (pfld x.2 0)).2.1=a:=⟨_,rfl⟩
        obtain⟨E,hE⟩:∃ E,(rangeOf (pfld x.2 0)).2.2=E:=⟨_,rfl⟩
        rw [hra,hrb,hE] at c25
        rw [hE] at HP hre
        have hx1:(E==0)=false:=beq_false_of_ne hre
        have hx2:(E != 0)=true:=bne_iff_ne.2 hre
        clear href hres hVw hn hpl hfew hS0 hra hrb hE hf0 hxm
        go_wp2_with (go_at_call 78;(with_reducible refine c25.mono ?_);rintro e w2 ⟨rfl,hb2⟩;have z1:=(hb2.cell (p:=⟨bL,k*2,none⟩) hbLw).trans d1;clear c25)
        go_quiet (fail)
        go_wp2
        go_ret3
        exact HP.out _ (below_drewN (HBW.out.trans (hb2.mono HBW.out.size)) _)
  · have hke:k=N:=by have:=HN.out;omega
    subst hke
    have hd0:L.drop k = []:=List.drop_eq_nil_of_le (by rw [HN.out];exact Nat.le_refl _)
    rw [hd0] at href
    have hres:propOf vs L=⟨out,0,0⟩:=by rw [←href,propP]
    have c27:=sorted24 Ao out.length co out wr hsat (by omega)
    have HP:Hid (∀ A c W,Below wr.heap.size wr W→SAt W A out.length (sorted out)→RPost vs L w (.returned (.tuple #[.slice A out.length c,.int .i64 0,.int .i64 0])) W):=Lib.hid (fun A c W hb hS=>⟨hbww.trans (hb.mono hbww.size),A,c,by rw [hres],by rw [hres];exact hS⟩)
    clear href hres hown hbw hbww hsat hd0 hpl
    go_wp2_with (go_at_call 80;(with_reducible refine c27.mono ?_);rintro e w2 ⟨hb2,A2,c2,rfl,-,hS2⟩)
    go_ret3
    exact HP.out _ _ _ hb2 hS2
end Go.Proofs.YtmellioacefjjaaGreatDoor.Pq
namespace Go.Proofs.YtmellioacefjjaaGreatDoor
open Go.RowKit
structure Dt where
 ps:List Uc.Pr
 sp:Nat→List Pq.Sp
 cf:List Cf.Pp
 ms:List (Int×Int×Int)
structure Wh where
 file:Int
 line:Int
 err:Int
def dec0 (r:Uc.Pr):Int:=((r.dec.getD 0 0:Nat):Int)
def dec1 (r:Uc.Pr):Int:=((r.dec.getD 1 0:Nat):Int)
def idle (ex:List Pq.Sp) (ps:List Uc.Pr) (r:Uc.Pr):Prop:=¬r.dec.length=2∨¬r.ccc=0∨¬Pq.valueOf ex r.a = []∨¬(Uc.patOf ps (dec0 r)).ccc=0
instance (ex:List Pq.Sp) (ps:List Uc.Pr) (r:Uc.Pr):Decidable (idle ex ps r):=by unfold idle;infer_instance
def mkP (ex:List Pq.Sp) (ps:List Uc.Pr):List (Int×Int×Int)→List Uc.Pr→Option (List (Int×Int×Int))
 | out,[]=>some out
 | out,r::l=>if idle ex ps r then mkP ex ps out l else if findM out (dec0 r) (dec1 r)=none then mkP ex ps (out ++ [(r.a,dec0 r,dec1 r)]) l else none
def badK (r:Uc.Pr):Prop:=(0<r.dec.length∨¬r.ccc=0)∧touB r.a r.b=true
instance (r:Uc.Pr):Decidable (badK r):=by unfold badK;infer_instance
def touA (ps:List Uc.Pr):Bool:=ps.any fun r=>decide (badK r)
def load5 (ps:List Uc.Pr) (sp:Nat→List Pq.Sp) (cf:List Cf.Pp):Wh×Option Dt:=
 match mkP (sp 0) ps [] ps with
 | none=>(⟨1,0,15⟩,none)
 | some ms=>(⟨0,0,0⟩,some ⟨ps,sp,cf,ms⟩)
def load4 (ps:List Uc.Pr) (sp:Nat→List Pq.Sp) (cf:List Cf.Pp):Wh×Option Dt:=if longB ps=true then (⟨1,0,36⟩,none) else load5 ps sp cf
def load3 (ps:List Uc.Pr) (sp:Nat→List Pq.Sp) (cf:List Cf.Pp):Wh×Option Dt:=if cycB ps=true then (⟨1,0,17⟩,none) else load4 ps sp cf
def load2 (ps:List Uc.Pr) (sp:Nat→List Pq.Sp) (cf:List Cf.Pp):Wh×Option Dt:=if touA ps=true then (⟨1,0,16⟩,none) else load3 ps sp cf
def cfF (f:Nat→List UInt8):Cf.CRes:=Cf.cfOf (linesIn (f 6))
def load1 (f:Nat→List UInt8) (ps:List Uc.Pr) (sp:Nat→List Pq.Sp):Wh×Option Dt:=if (cfF f).err=0 then load2 ps sp (cfF f).rows else (⟨7,(cfF f).num,(cfF f).err⟩,none)
def prF (f:Nat→List UInt8) (i:Nat):=Pq.propOf (valsOf (2+i)) (linesIn (f (1+i)))
def spF (f:Nat→List UInt8) (i:Nat):List Pq.Sp:=Pq.sorted (prF f i).rows
def loadP (f:Nat→List UInt8) (ps:List Uc.Pr):Nat→Nat→Wh×Option Dt
 | 0,_=>load1 f ps (spF f)
 | n+1,i=>if (prF f i).err=0 then loadP f ps n (i+1) else (⟨2+(i:Int),(prF f i).num,(prF f i).err⟩,none)
def uF (f:Nat→List UInt8):Uc.Res:=Uc.parseOf (linesIn (f 0))
def loadOf (f:Nat→List UInt8):Wh×Option Dt:=if (uF f).err=0 then loadP f (uF f).rows 5 0 else (⟨1,(uF f).num,(uF f).err⟩,none)
end Go.Proofs.YtmellioacefjjaaGreatDoor
namespace Go.Proofs.YtmellioacefjjaaGreatDoor
open Go.RowKit Go.Shelf
attribute [local go_sem] Oper.semAt_some
def HanT (w:World):Prop:=(w.cell? ⟨0,0,none⟩=some (.int .i64 4352)∧w.cell? ⟨0,1,none⟩=some (.int .i64 4370)∧w.cell? ⟨0,2,none⟩=some (.int .i64 4449)∧w.cell? ⟨0,3,none⟩=some (.int .i64 4469))∧(w.cell? ⟨0,4,none⟩=some (.int .i64 4520)∧w.cell? ⟨0,5,none⟩=some (.int .i64 4546)∧w.cell? ⟨0,6,none⟩=some (.int .i64 44032)∧w.cell? ⟨0,7,none⟩=some (.int .i64 55203))
theorem HanT.lt {w:World} (h:HanT w):0<w.heap.size:=World.block_lt_of_cell? w _ h.1.1
theorem HanT.below {w w':World} {n:Nat} (h:HanT w) (hn:0<n) (hb:Below n w w'):HanT w':=
 have c:∀ i,w'.cell? ⟨0,i,none⟩=w.cell? ⟨0,i,none⟩:=fun i=>hb.cell (p:=⟨0,i,none⟩) hn
 ⟨⟨(c _).trans h.1.1,(c _).trans h.1.2.1,(c _).trans h.1.2.2.1,(c _).trans h.1.2.2.2⟩,(c _).trans h.2.1,(c _).trans h.2.2.1,(c _).trans h.2.2.2.1,(c _).trans h.2.2.2.2⟩
def inH (a b:Int):Nat→Prop
 | 0=>a≤4370∧4352≤b
 | 1=>a≤4469∧4449≤b
 | 2=>a≤4546∧4520≤b
 | _=>a≤55203∧44032≤b
instance (a b:Int) (k:Nat):Decidable (inH a b k):=by unfold inH;split <;> infer_instance
def spoB (c:Int) (n:Nat) (a b:Int):Bool:=decide ((¬c=0∨¬n=0)∧(inH a b 0∨inH a b 1∨inH a b 2∨inH a b 3))
def SpI (a b:Int) (W:World) (i:Value) (wr:World):Prop:=∃ k:Nat,(i=.int .i64 k∧k≤4)∧(∀ j,j<k→¬inH a b j)∧Below W.heap.size W wr
theorem sp_hit {c:Int} {n:Nat} {a b:Int} {k:Nat} (hc:¬c=0∨¬n=0) (hk:k<4) (h:inH a b k):spoB c n a b=true:=by
 refine decide_eq_true ⟨hc,?_⟩
 match k,hk,h with
 | 0,_,h=>exact .inl h
 | 1,_,h=>exact .inr (.inl h)
 | 2,_,h=>exact .inr (.inr (.inl h))
 | 3,_,h=>exact .inr (.inr (.inr h))
theorem sp_none {c:Int} {n:Nat} {a b:Int} (h:∀ j,j<4→¬inH a b j):spoB c n a b=false:=
 decide_eq_false (fun ⟨_,hh⟩=>by rcases hh with h1 | h1 | h1 | h1 <;> exact h _ (by omega) h1)
theorem sp_idle {c:Int} {n:Nat} {a b:Int} (h1:c=0) (h2:n=0):spoB c n a b=false:=decide_eq_false (fun ⟨hh,_⟩=>hh.elim (fun x=>x h1) (fun x=>x h2))
theorem sp_bad {r:Uc.Pr} (h:r.a≤r.b):spoB r.ccc r.dec.length r.a r.b=decide (badK r):=by
 unfold spoB badK
 refine decide_eq_decide.2 ?_
 have e:(inH r.a r.b 0∨inH r.a r.b 1∨inH r.a r.b 2∨inH r.a r.b 3)↔touB r.a r.b=true:=by
  unfold touB korB kors inH
  simp only [Bool.or_eq_true,decide_eq_true_eq,List.any_cons,List.any_nil,Bool.or_false]
  omega
 rw [e]
 constructor
 · rintro⟨h1,h2⟩;exact⟨by omega,h2⟩
 · rintro⟨h1,h2⟩;exact⟨by omega,h2⟩
theorem han0 (W:World):(Instr.index 182 (.agg #[.int .i64 4352,.int .i64 4370,.int .i64 4449,.int .i64 4469,.int .i64 4520,.int .i64 4546,.int .i64 44032,.int .i64 55203]) (.int .i64 0)).run Tryz.prog W=.ok (.agg #[.int .i64 4352,.int .i64 4370]) W:=by kernel_rfl
theorem han1 (W:World):(Instr.index 182 (.agg #[.int .i64 4352,.int .i64 4370,.int .i64 4449,.int .i64 4469,.int .i64 4520,.int .i64 4546,.int .i64 44032,.int .i64 55203]) (.int .i64 1)).run Tryz.prog W=.ok (.agg #[.int .i64 4449,.int .i64 4469]) W:=by kernel_rfl
theorem han2 (W:World):(Instr.index 182 (.agg #[.int .i64 4352,.int .i64 4370,.int .i64 4449,.int .i64 4469,.int .i64 4520,.int .i64 4546,.int .i64 44032,.int .i64 55203]) (.int .i64 2)).run Tryz.prog W=.ok (.agg #[.int .i64 4520,.int .i64 4546]) W:=by kernel_rfl
theorem han3 (W:World):(Instr.index 182 (.agg #[.int .i64 4352,.int .i64 4370,.int .i64 4449,.int .i64 4469,.int .i64 4520,.int .i64 4546,.int .i64 44032,.int .i64 55203]) (.int .i64 3)).run Tryz.prog W=.ok (.agg #[.int .i64 44032,.int .i64 55203]) W:=by kernel_rfl
set_option maxRecDepth 100000 in
set_option maxHeartbeats 4000000 in
theorem spoils72 (s:Uc.Rw) (w:World) (hH:HanT w):Calls Tryz.prog 72 #[Uc.rwV s] w fun e w'=>e=.returned (.bool (spoB s.ccc s.dm s.a s.b))∧Below w.heap.size w w':=by
 obtain⟨T,hT⟩:∃ T,bs s.gc=T:=⟨_,rfl⟩
 obtain⟨U,hU⟩:∃ T,bs s.bd=T:=⟨_,rfl⟩
 unfold Uc.rwV
 rw [hT,hU]
 obtain⟨a,ha⟩:∃ x,s.a=x:=⟨_,rfl⟩
 obtain⟨b,hb⟩:∃ x,s.b=x:=⟨_,rfl⟩
 obtain⟨c,hc⟩:∃ x,s.ccc=x:=⟨_,rfl⟩
 obtain⟨dp,hdp⟩:∃ x,s.dp=x:=⟨_,rfl⟩
 obtain⟨dm,hdm⟩:∃ x,s.dm=x:=⟨_,rfl⟩
 obtain⟨dc,hdc⟩:∃ x,s.dc=x:=⟨_,rfl⟩
 rw [ha,hb,hc,hdp,hdm,hdc]
 have hh0:=hH.lt
 have x0:=han0
 have x1:=han1
 have x2:=han2
 have x3:=han3
 have hb0:Below w.heap.size w (w.alloc (.cells #[.int .i64 a,.int .i64 b,.string T,.int .i64 c,.string U,.slice dp dm dc] 33)):=(Below.refl _ _).alloc (Nat.le_refl _) _
 obtain⟨⟨g0,g1,g2,g3⟩,g4,g5,g6,g7⟩:=hH
 have hne:¬w.heap.size=0:=by omega
 clear ha hb hc hdp hdm hdc hT hU
 by_cases hz:c=0∧dm=0
 · obtain⟨rfl,rfl⟩:=hz
   have HR:Hid (spoB 0 0 a b=false):=Lib.hid (sp_idle rfl rfl)
   have HB:=Lib.hid hb0
   clear hb0
   go_enter Tryz.func72,Tryz.ntmps72
   go_wp2
   go_ret
   exact⟨by rw [HR.out];rfl,HB.out⟩
 · have HZ:Hid (¬c=0∨¬dm=0):=Lib.hid (by omega)
   have HB:=Lib.hid hb0
   have HI0:Hid (SpI a b w (.int .i64 (0:Nat)) (w.alloc (.cells #[.int .i64 a,.int .i64 b,.string T,.int .i64 c,.string U,.slice dp dm dc] 33))):=Lib.hid ⟨0,⟨rfl,by omega⟩,fun j hj=>absurd hj (by omega),hb0⟩
   clear hb0
   have hways:(¬c=0∧(c==0)=false)∨((c==0)=true∧¬dm=0):=by
    by_cases h:c=0
    · exact .inr ⟨by rw [h];rfl,by omega⟩
    · exact .inl ⟨h,beq_false_of_ne h⟩
   clear hz HB
   rcases hways with ⟨h1,h2⟩ | ⟨h2,h1⟩
   all_goals
    go_enter Tryz.func72,Tryz.ntmps72
    go_wp2
    obtain⟨w1,hw1⟩:∃ w1,w.alloc (.cells #[.int .i64 a,.int .i64 b,.string T,.int .i64 c,.string U,.slice dp dm dc] 33)=w1:=⟨_,rfl⟩
    have hs1:w1.heap.size=w.heap.size+1:=by rw [←hw1];simp
    have b0:w1.cell? ⟨w.heap.size,0,none⟩=some (.int .i64 a):=by rw [←hw1];simp
    have b1:w1.cell? ⟨w.heap.size,1,none⟩=some (.int .i64 b):=by rw [←hw1];simp
    rw [hw1] at HI0 ⊢
    have HS:=Lib.hid (And.intro hs1 (And.intro b0 b1))
    have HBW:Hid (Below w.heap.size w w1):=Lib.hid (HI0.out.choose_spec.2.2)
    clear g0 g1 g2 g3 g4 g5 g6 g7 hw1 hs1 b0 b1
    go_loopw [15] (fun i wr=>SpI a b w1 i wr) (fun i _=>4-(intOf i).toNat)
    case atStart=>exact⟨0,⟨rfl,by omega⟩,fun j hj=>absurd hj (by omega),Below.refl _ _⟩
    case round=>
     clear HI0
     obtain⟨k,⟨rfl,hk⟩,hno,hb⟩:=hrel
     obtain⟨hs1,b0,b1⟩:=HS.out
     have e0:wr.cell? ⟨w.heap.size,0,none⟩=some (.int .i64 a):=(hb.cell (p:=⟨w.heap.size,0,none⟩) (show w.heap.size<w1.heap.size by omega)).trans b0
     have e1:wr.cell? ⟨w.heap.size,1,none⟩=some (.int .i64 b):=(hb.cell (p:=⟨w.heap.size,1,none⟩) (show w.heap.size<w1.heap.size by omega)).trans b1
     have hlr:w.heap.size<wr.heap.size:=World.block_lt_of_cell? wr _ e0
     have HW:=Lib.hid (And.intro hb (And.intro hno (HBW.out.trans (hb.mono (by omega)))))
     have hsz:=hb.size
     clear hb hno b0 b1
     rcases Nat.lt_or_ge k 4 with hk4 | hk4
     · have hb2:∀ o,Below w1.heap.size w1 (wr.alloc o):=fun o=>HW.out.1.alloc hsz o
       have hb3:∀ o,Below w.heap.size w (wr.alloc o):=fun o=>HW.out.2.2.alloc (by omega) o
       have HB2:=Lib.hid (And.intro hb2 hb3)
       clear hb2 hb3
       by_cases hin:inH a b k
       · have HR:Hid (spoB c dm a b=true):=Lib.hid (sp_hit HZ.out hk4 hin)
         match k,hk4,hin with
         | 0,_,hin | 1,_,hin | 2,_,hin | 3,_,hin=>
          obtain⟨i1,i2⟩:_∧_:=hin
          go_wp2
          go_ret
          exact⟨by rw [HR.out];rfl,HB2.out.2 _⟩
       · have HNX:Hid (∀ j,j<k+1→¬inH a b j):=Lib.hid (fun j hj=>by
          by_cases e:j=k
          · subst e;exact hin
          · exact HW.out.2.1 j (by omega))
         match k,hk4,hin with
         | 0,_,hin=>
          have hin:¬(a≤4370∧4352≤b):=hin
          by_cases i0:a≤4370
          · have i1:¬4352≤b:=fun h=>hin ⟨i0,h⟩
            clear hin
            go_wp2
            go_roundw
            case rel=>exact⟨1,⟨rfl,by decide⟩,HNX.out,HB2.out.1 _⟩
            case measure=>simp [intOf]
          · clear hin
            go_wp2
            go_roundw
            case rel=>exact⟨1,⟨rfl,by decide⟩,HNX.out,HB2.out.1 _⟩
            case measure=>simp [intOf]
         | 1,_,hin=>
          have hin:¬(a≤4469∧4449≤b):=hin
          by_cases i0:a≤4469
          · have i1:¬4449≤b:=fun h=>hin ⟨i0,h⟩
            clear hin
            go_wp2
            go_roundw
            case rel=>exact⟨2,⟨rfl,by decide⟩,HNX.out,HB2.out.1 _⟩
            case measure=>simp [intOf]
          · clear hin
            go_wp2
            go_roundw
            case rel=>exact⟨2,⟨rfl,by decide⟩,HNX.out,HB2.out.1 _⟩
            case measure=>simp [intOf]
         | 2,_,hin=>
          have hin:¬(a≤4546∧4520≤b):=hin
          by_cases i0:a≤4546
          · have i1:¬4520≤b:=fun h=>hin ⟨i0,h⟩
            clear hin
            go_wp2
            go_roundw
            case rel=>exact⟨3,⟨rfl,by decide⟩,HNX.out,HB2.out.1 _⟩
            case measure=>simp [intOf]
          · clear hin
            go_wp2
            go_roundw
            case rel=>exact⟨3,⟨rfl,by decide⟩,HNX.out,HB2.out.1 _⟩
            case measure=>simp [intOf]
         | 3,_,hin=>
          have hin:¬(a≤55203∧44032≤b):=hin
          by_cases i0:a≤55203
          · have i1:¬44032≤b:=fun h=>hin ⟨i0,h⟩
            clear hin
            go_wp2
            go_roundw
            case rel=>exact⟨4,⟨rfl,by decide⟩,HNX.out,HB2.out.1 _⟩
            case measure=>simp [intOf]
          · clear hin
            go_wp2
            go_roundw
            case rel=>exact⟨4,⟨rfl,by decide⟩,HNX.out,HB2.out.1 _⟩
            case measure=>simp [intOf]
     · have hk0:k=4:=by omega
       have HR:Hid (spoB c dm a b=false):=Lib.hid (sp_none (fun j hj=>HW.out.2.1 j (by omega)))
       subst hk0
       go_wp2
       go_ret
       exact⟨by rw [HR.out];rfl,HW.out.2.2⟩
end Go.Proofs.YtmellioacefjjaaGreatDoor
namespace Go.Proofs.YtmellioacefjjaaGreatDoor
open Go.ChangeShapes Go.WideShapes Go.ChangeAt Go.RowKit
theorem hant {W:World} (h:laidMetH Tryz.prog Rows.dataLoadsRow.laid W):HanT W:=by
 have h':laidMet Tryz.prog Rows.dataLoadsRow.laid W:=by
  rw [MakeChecks.laidMetH_plain _ _ _ (by kernel_rfl)] at h
  exact h
 obtain ⟨g, t, cs, fuel, p, hg, hty, hvar, hd⟩ := Lib.laidMet.reads h' (n := "paronym/data.hangul") (d := Rows.laid_paronym_data_hangul) (by simp [Rows.dataLoadsRow])
 obtain rfl := Option.some.inj ((show Tryz.prog.globalNamed "paronym/data.hangul" = some 0 by kernel_rfl).symm.trans hg)
 obtain rfl:=Option.some.inj ((show (Tryz.prog.globals[0]?).map (·.type)=some 182 by kernel_rfl).symm.trans hty)
 have part:∀ i,i<4→∀ a b:Int,((Rows.laid_paronym_data_hangul:DataW Unit)=.agg [.agg [.lit (.int .i64 4352),.lit (.int .i64 4370)],.agg [.lit (.int .i64 4449),.lit (.int .i64 4469)],.agg [.lit (.int .i64 4520),.lit (.int .i64 4546)],.agg [.lit (.int .i64 44032),.lit (.int .i64 55203)]]) →
  ([(4352,4370),(4449,4469),(4520,4546),(44032,55203)]:List (Int×Int))[i]? = some (a,b)→W.cell? ⟨0,2*i,none⟩=some (.int .i64 a)∧W.cell? ⟨0,2*i+1,none⟩=some (.int .i64 b):=by
  intro i hi a b he hab
  rw [he] at hd
  obtain⟨fuel',d,q,hdi,hde⟩:=Lib.array_elem Tryz.underlying182 hd i hi
  rw [show Tryz.prog.cellsOf 181=2 by kernel_rfl] at hde
  have hdd:d=Lib.tabData .i64 [a,b]:=by
   match i,hi with
   | 0,_=>simp at hdi hab;obtain⟨rfl,rfl⟩:=hab;exact hdi.symm
   | 1,_=>simp at hdi hab;obtain⟨rfl,rfl⟩:=hab;exact hdi.symm
   | 2,_=>simp at hdi hab;obtain⟨rfl,rfl⟩:=hab;exact hdi.symm
   | 3,_=>simp at hdi hab;obtain⟨rfl,rfl⟩:=hab;exact hdi.symm
  subst hdd
  have hcs:=Lib.cells_of_tab Tryz.underlying181 Tryz.underlying3 (by kernel_rfl) (by kernel_rfl) hde
  have e0:=congrArg (·[0]?) hcs
  have e1:=congrArg (·[1]?) hcs
  simp only [List.getElem?_take,List.getElem?_drop] at e0 e1
  constructor
  · rw [World.var?_cell hg hvar (2*i),←Array.getElem?_toList]
    simpa [Nat.mul_comm] using e0
  · rw [World.var?_cell hg hvar (2*i+1),←Array.getElem?_toList]
    simpa [Nat.mul_comm] using e1
 have q0:=part 0 (by omega) _ _ rfl rfl
 have q1:=part 1 (by omega) _ _ rfl rfl
 have q2:=part 2 (by omega) _ _ rfl rfl
 have q3:=part 3 (by omega) _ _ rfl rfl
 exact⟨⟨q0.1,q0.2,q1.1,q1.2⟩,⟨q2.1,q2.2,q3.1,q3.2⟩⟩
end Go.Proofs.YtmellioacefjjaaGreatDoor
