/- A part. -/
import Derived.Test.YtmellioacefjjaaGreatDoorQA26
namespace Go.Proofs.YtmellioacefjjaaGreatDoor
open Go.RowKit
attribute [local go_sem] Oper.semAt_some
set_option maxRecDepth 100000 in
set_option maxHeartbeats 40000000 in
theorem ldDeb (b0 b1 b2 b3 b4 b5 b6:Option Addr) (n0 n1 n2 n3 n4 n5 n6 m0 m1 m2 m3 m4 m5 m6:Nat) (f:Nat→List UInt8) (w:World) (h0:Octs w b0 n0 (f 0)) (h1:Octs w b1 n1 (f 1)) (h2:Octs w b2 n2 (f 2)) (h3:Octs w b3 n3 (f 3)) (h4:Octs w b4 n4 (f 4)) (h5:Octs w b5 n5 (f 5)) (h6:Octs w b6 n6 (f 6)) (hn:n0+n1+n2+n3+n4+n5+n6≤3100):(ldDea b0 b1 b2 b3 b4 b5 b6 n0 n1 n2 n3 n4 n5 n6 m0 m1 m2 m3 m4 m5 m6 f w h0 h1 h2 h3 h4 h5 h6 hn).B1:=by
 intro w0 hw0 bv H0 HO HBV HP HSPF HR5 nu HE w1 R c ls w2 w3 F nr HNR z_b1_0 z_b1_1 wr u2 u10 u11 u12 u51 u52 u53 u54 u55 u56 u57 u58 u59 u60 u61 u62 u63 u64 u65 u66 u67 u68 u69 u70 u71 u72 u73 u74 u75 u76 u77 u78 u79 u80 k g hk hlo hP hlt
 clear h0 h1 h2 h3 h4 h5 h6
 obtain⟨fb,fn,fm,hbe,hoc,hfn⟩:=HO.out k (by omega)
 have hocl:=hoc.len
 have cf:wr.cell? ⟨F,k,none⟩=some (.slice fb fn fm):=by rw [←hbe];exact hP.fil k hlt
 have kf:(convert 22 9 (.slice fb fn fm)).run Tryz.prog wr.drew=.ok (.string (bs (f (1+k)))) wr.drew:=conv22 fm (hoc.below (below_drew hP.st.bel))
 have hPd:LP w wr.drew bv g R nr c ls (uF f).rows F f k:=hP.below (below_drew (Below.refl _ _))
 have HLO:=Lib.hid hlo
 have hk2:(2:Int)+(k:Int)=((2+k:Nat):Int):=by omega
 have c54:=values54 (2+k) (by omega) wr.drew
 have hwk:IntKind.i64.wrap (2+(k:Int))=((2+k:Nat):Int):=by rw [IntKind.wrap_i64];omega
 rw [←hwk] at c54
 have d54:Calls Tryz.prog 57 #[.int .i64 (IntKind.i64.wrap (2+(k:Int)))] wr.drew fun e W=>∃ V cv,e=.returned (.slice V (valsOf (2+k)).length cv)∧Hid (Vals W V (valsOf (2+k)).length (strs (valsOf (2+k)))∧LP w W bv g R nr c ls (uF f).rows F f k)∧W.cell? ⟨F,k,none⟩=some (.slice fb fn fm)∧(convert 22 9 (.slice fb fn fm)).run Tryz.prog W=.ok (.string (bs (f (1+k)))) W:=c54.mono (by
  rintro e W ⟨V,cv,rfl,hv⟩
  have P4:=hPd.below hv.out.1
  exact⟨V,cv,rfl,Lib.hid ⟨hv.out.2,P4⟩,by rw [←hbe];exact P4.fil k hlt,conv22 fm (hoc.below P4.st.bel)⟩)
 have d53:∀ (W:World) (V:Option Addr) (cv:Nat),Hid (Vals W V (valsOf (2+k)).length (strs (valsOf (2+k)))∧LP w W bv g R nr c ls (uF f).rows F f k)→Calls Tryz.prog 56 #[.string (bs (f (1+k))),.slice V (valsOf (2+k)).length cv] W fun e W'=>∃ a m,e=.returned (.tuple #[.slice a (spF f k).length m,.int .i64 (prF f k).err,.int .i64 (prF f k).num])∧Hid (LP w W' bv g R nr c ls (uF f).rows F f k∧Pq.SAt W' a (spF f k).length (spF f k)):=
  fun W V cv hV=>(Pq.rprop10 (f (1+k)) V _ cv (valsOf (2+k)) W (by omega) (lines_fields (by omega)) hV.out.1 (vals_few _)).mono (by
   rintro e W' ⟨hb5,a5,m5,rfl,hS5⟩
   have hle:(spF f k).length=(prF f k).rows.length:=hS5.1
   refine⟨a5,m5,by rw [hle];rfl,Lib.hid ⟨hV.out.2.below hb5,by rw [hle];exact hS5⟩⟩)
 have C53:=Lib.hid d53
 clear hP hPd hoc hlo hbe hk2 hwk c54 d53
 go_upto_region 10 with fail
 go_cut [10,11,12] from 51 to 80 (fun l e n W=>∃ a m,l=.slice a (spF f k).length m∧e=.int .i64 (prF f k).err∧n=.int .i64 (prF f k).num∧LP w W bv g R nr c ls (uF f).rows F f k∧Pq.SAt W a (spF f k).length (spF f k))
 case first=>
  go_region_with (first
   | (go_at_call 57;(with_reducible refine d54.mono ?_);rintro e w4 ⟨V,cv,rfl,hv,cf4,kf4⟩)
   | (go_at_call 56;(with_reducible refine (C53.out _ _ _ hv).mono ?_);rintro e w5 ⟨a5,m5,rfl,hS5⟩))
  all_goals go_wp2_with fail
  all_goals go_meet
  all_goals exact⟨_,_,rfl,rfl,rfl,hS5.out.1,hS5.out.2⟩
 case rest=>
  clear d54 C53 cf kf
  obtain⟨a5,m5,rfl,rfl,rfl,hP5,hS5⟩:=hcut
  obtain⟨er5,her5⟩:∃ x,(prF f k).err=x:=⟨_,rfl⟩
  obtain⟨nu5,hnu5⟩:∃ x,(prF f k).num=x:=⟨_,rfl⟩
  by_cases he5:(prF f k).err=0
  · have HG:=Lib.hid ((loadp_go (ps:=(uF f).rows) hlt he5).symm.trans HLO.out)
    rw [her5] at he5
    subst he5
    rw [her5,hnu5]
    obtain⟨aa,an,ac,hgs⟩:=hP5.st.ten.sli (1+k)
    have st1:wc.cell? ⟨w.heap.size+1+1,1+k,none⟩=some (.slice aa an ac):=by rw [←hgs];exact hP5.st.ten.cel (1+k) (by omega)
    have st2:wc.cell? ⟨w.heap.size+1+1,k+1,none⟩=some (.slice aa an ac):=by rw [Nat.add_comm k 1];exact st1
    have sfr:∀ i,wc.frozen? ⟨w.heap.size+1+1,i,none⟩=false:=hP5.st.ten.fro
    have HPU:=Lib.hid (hP5.put (m:=m5) hlt hS5)
    obtain⟨ns,hns⟩:∃ x,(spF f k).length=x:=⟨_,rfl⟩
    rw [hns] at HPU
    rw [hns]
    clear her5 hnu5 hgs hP5 hS5 HLO hns
    go_wp2
    go_roundw
    case rel=>exact⟨k+1,_,⟨by go_num,by omega⟩,HG.out,HPU.out⟩
    case measure=>simp [intOf];omega
  · have HG:=Lib.hid ((loadp_bad (ps:=(uF f).rows) hlt he5).symm.trans HLO.out)
    rw [her5,hnu5] at HG
    rw [her5] at he5
    have heb:(er5==0)=false:=beq_false_of_ne he5
    obtain⟨r0,r1,r2,fr⟩:=hP5.st.rs
    have HST:=Lib.hid hP5.st
    rw [her5,hnu5]
    clear her5 hnu5 hP5 hS5 HLO
    go_wp2
    refine bodyPost_ret (v:=.tuple #[.pointer none,.agg #[.int .i64 (2+(k:Int)),.int .i64 nu5,.int .i64 er5]]) (by simp [results,Tryz.results35,go_sem,r0,r1,r2]) rfl ?_
    exact ld_bad HST.out HG.out.symm
end Go.Proofs.YtmellioacefjjaaGreatDoor
