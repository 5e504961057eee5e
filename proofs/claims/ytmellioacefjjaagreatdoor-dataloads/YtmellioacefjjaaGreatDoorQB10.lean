/- A part. -/
import Derived.Test.YtmellioacefjjaaGreatDoorQB09
namespace Go.Proofs.YtmellioacefjjaaGreatDoor.Cf
open Go.RowKit Go.Shelf
attribute [local go_sem] Oper.semAt_some
theorem own_shapeC {w:World} {base n size:Nat} {e:TypeId} {v:Value} {xs:List Value} (h:w.ownsRow base e size v n xs):∃ A c,v=.slice A n c∧(A=none→c=0):=by
 rcases h.2 with ⟨rfl,h0⟩ | ⟨g,cap,cur,rfl,-⟩
 · exact⟨none,0,by rw [h0],fun _=>rfl⟩
 · exact⟨_,cap,rfl,fun h=>by cases h⟩
def FnI (n:Nat) (rs:List Pp) (c:Int) (w:World) (i:Value) (wr:World):Prop:=∃ k:Nat,i=.int .i64 k∧k≤n∧(∀ t∈rs.take k,t.c≠c)∧wr=w
theorem take_more {rs:List Pp} {k:Nat} {r:Pp} {c:Int} (hr:rs[k]? = some r) (hne:r.c≠c) (h:∀ t∈rs.take k,t.c≠c):∀ t∈rs.take (k+1),t.c≠c:=by
 have hlt:=(List.getElem?_eq_some_iff.1 hr).1
 have e:rs[k]=r:=(List.getElem?_eq_some_iff.1 hr).2
 rw [List.take_succ_eq_append_getElem hlt,e]
 intro t ht
 rcases List.mem_append.1 ht with ht | ht
 · exact h t ht
 · rw [List.mem_singleton.1 ht];exact hne
set_option maxRecDepth 100000 in
set_option maxHeartbeats 2000000 in
theorem find11 (A:Option Addr) (n ca:Nat) (qs:List Pv) (rs:List Pp) (c:Int) (w:World) (hP:PAt w A n qs) (hI:IsPs w qs rs) (hn:n≤100000):Calls Tryz.prog 39 #[.slice A n ca,.int .i64 c] w fun e w'=>e=.returned (.int .i64 (findC rs c))∧w'=w:=by
 have hlen:=hI.len
 have hql:=hP.1
 have HP:=Lib.hid hP
 have HI:=Lib.hid hI
 clear hP hI
 go_enter Tryz.func39,Tryz.ntmps39
 go_wp2
 go_loopw [5] (fun i wr=>FnI n rs c w i wr) (fun i _=>n-(intOf i).toNat)
 case atStart=>exact⟨0,rfl,Nat.zero_le _,fun t h=>(by simp at h),rfl⟩
 case round=>
  obtain⟨k,rfl,hk,hno,rfl⟩:=hrel
  by_cases hlt:k<n
  · obtain⟨b,off,rfl,hb,hc⟩:=HP.out.2 (by omega)
    obtain⟨q,hq⟩:∃ q,qs[k]? = some q:=⟨_,List.getElem?_eq_getElem (by omega)⟩
    obtain⟨r,hr,hqr⟩:=HI.out.get hq
    have c0:=(hc k q hq).1
    rw [hqr.1] at c0
    clear hc
    by_cases he:r.c=c
    · have HF:=Lib.hid (find_first hr he hno)
      have he2:(r.c==c)=true:=by rw [beq_iff_eq];exact he
      clear hr hqr hq hno HP HI
      rw [he] at c0
      go_wp2
      go_ret
      rw [HF.out]
      exact⟨rfl,rfl⟩
    · have HF:=Lib.hid (take_more hr he hno)
      have he2:(r.c==c)=false:=beq_false_of_ne he
      clear hr hqr hq hno
      go_wp2
      go_roundw
      case rel=>exact⟨k+1,by go_num,by omega,HF.out,rfl⟩
      case measure=>simp [intOf];omega
  · have HF:Hid (findC rs c = -1):=Lib.hid (find_none (by rw [List.take_of_length_le (by omega)] at hno;exact hno))
    have hke:k=n:=by omega
    subst hke
    clear hno HP HI
    go_wp2
    go_ret
    rw [HF.out]
    exact⟨rfl,rfl⟩
theorem info39:(Tryz.prog.info? 79).map (fun i=>(i.zero,i.size,i.bytes))=some (some (.agg #[.int .i64 0,.slice none 0 0]),2,32):=by kernel_rfl
def CfI (w1:World) (L:List Ln) (v i:Value) (wr:World):Prop:=
 ∃ (k:Nat) (qs:List Pv) (rs:List Pp),i=.int .i64 k∧k≤L.length∧(cfP rs (L.drop k)=cfOf L∧rs.length≤k∧Rise rs)∧wr.ownsRow w1.heap.size 79 2 v qs.length (pvs qs)∧IsPs wr qs rs∧Below w1.heap.size w1 wr
def CfPost (L:List Ln) (w:World) (e:Ending) (w':World):Prop:=
 Below w.heap.size w w'∧∃ A c qs,e=.returned (.tuple #[.slice A (cfOf L).rows.length c,.int .i64 (cfOf L).err,.int .i64 (cfOf L).num])∧Hid (PAt w' A (cfOf L).rows.length qs∧IsPs w' qs (cfOf L).rows)
theorem cfp_bad {L:List Ln} {w w':World} {e n:Int} (h:cfOf L=⟨[],e,n⟩) (hb:Below w.heap.size w w'):CfPost L w (.returned (.tuple #[.slice none 0 0,.int .i64 e,.int .i64 n])) w':=
 ⟨hb,none,0,[],by rw [h];rfl,Lib.hid (by rw [h];exact⟨PAt.nil _ _,trivial⟩)⟩
theorem cerr_len {f:List (List UInt8)} (h:¬f.length=3):cErr f=12:=by unfold cErr;rw [if_pos h]
theorem cerr_pt {f:List (List UInt8)} (h:f.length=3) (hp:point (cfld f 0)=none):cErr f=13:=by unfold cErr;rw [if_neg (by simpa using h),hp]
theorem cerr_sq {f:List (List UInt8)} {c:Nat} (h:f.length=3) (hp:point (cfld f 0)=some c) (hq:seqOf (cfld f 1)=none):cErr f=13:=by unfold cErr;rw [if_neg (by simpa using h),hp,hq]
theorem cerr_em {f:List (List UInt8)} {c:Nat} {p:List Nat} (h:f.length=3) (hp:point (cfld f 0)=some c) (hq:seqOf (cfld f 1)=some p) (h0:p.length=0):cErr f=16:=by unfold cErr;rw [if_neg (by simpa using h),hp,hq];simp [h0]
theorem cerr_lg {f:List (List UInt8)} {c:Nat} {p:List Nat} (h:f.length=3) (hp:point (cfld f 0)=some c) (hq:seqOf (cfld f 1)=some p) (h0:¬p.length=0) (h1:18<p.length):cErr f=36:=by unfold cErr;rw [if_neg (by simpa using h),hp,hq];simp only;rw [if_neg h0,if_pos h1]
theorem cerr_ok {f:List (List UInt8)} {c:Nat} {p:List Nat} (h:f.length=3) (hp:point (cfld f 0)=some c) (hq:seqOf (cfld f 1)=some p) (h0:¬p.length=0) (h1:¬18<p.length):cErr f=0∧cPair f=⟨c,ints' p⟩:=by
 unfold cErr cPair
 rw [if_neg (by simpa using h),hp,hq]
 simp only
 rw [if_neg h0,if_neg h1]
 exact⟨rfl,rfl⟩
theorem flds3 {w:World} {F:Option Addr} {f:List (List UInt8)} {n:Nat} (h:Vals w F n (strs f)) (hn:f.length=3):∃ b off,F=some ⟨b,off,none⟩∧b<w.heap.size∧w.cell? ⟨b,off,none⟩=some (.string (bs (cfld f 0)))∧w.cell? ⟨b,off+1,none⟩=some (.string (bs (cfld f 1))):=by
 have hl:f.length=n:=by have:=h.1;rwa [strs_length] at this
 obtain⟨b,off,rfl,hlt,hc⟩:=h.2 (by omega)
 exact⟨b,off,rfl,hlt,hc 0 _ (strs_get (by omega)),hc 1 _ (strs_get (by omega))⟩
theorem i64s_ints (p:List Nat):i64s p=nums .i64 (ints' p):=rfl
theorem cfld_len {f:List (List UInt8)} {k N:Nat} (h:∀ y∈f,y.length≤N):(cfld f k).length≤N:=by
 unfold cfld
 rw [List.getD_eq_getElem?_getD]
 cases hk:f[k]? with
 | none=>simp
 | some y=>exact h y (List.mem_of_getElem? hk)
theorem seq_none {l:List UInt8} {w:World} (hl:l.length≤4000) (h:seqOf l=none):Calls Tryz.prog 82 #[.string (bs l)] w fun e w'=>e=.returned (.tuple #[.slice none 0 0,.int .i64 13])∧Below w.heap.size w w':=
 (sequence16 l w hl).mono (by
  rintro e w' ⟨hb,⟨cs,A,ca,h1,-⟩ | ⟨-,rfl⟩⟩
  · rw [h] at h1;cases h1
  · exact⟨rfl,hb⟩)
theorem seq_some {l:List UInt8} {p:List Nat} {w:World} (hl:l.length≤4000) (h:seqOf l=some p):Calls Tryz.prog 82 #[.string (bs l)] w fun e w'=>∃ A ca,e=.returned (.tuple #[.slice A p.length ca,.int .i64 0])∧Hid (Below w.heap.size w w'∧Vals w' A p.length (nums .i64 (ints' p))):=
 (sequence16 l w hl).mono (by
  rintro e w' ⟨hb,⟨cs,A,ca,h1,rfl,hv,-⟩ | ⟨h1,-⟩⟩
  · rw [h] at h1
    cases h1
    exact⟨A,ca,rfl,Lib.hid ⟨hb,by rw [←i64s_ints];exact hv⟩⟩
  · rw [h] at h1;cases h1)
theorem m32 {n:Nat} (h:n≤10000):n≤maxLen:=by simp only [maxLen];omega
theorem b32 {n:Nat} (h:n≤10000):n*32≤140737488355328:=by omega
def InI (rs:List Pp) (c:Int) (M:Nat) (w4:World) (i:Value) (wq:World):Prop:=∃ j:Nat,i=.int .i64 j∧j≤M∧(∀ t∈rs.drop j,c<t.c)∧w4=wq
theorem low_all {rs:List Pp} {j:Nat} {r:Pp} {c:Int} (hr:Rise rs) (hj:rs[j]? = some r) (hle:r.c≤c):∀ t∈rs.take (j+1),t.c≤c:=by
 intro t ht
 obtain⟨i,hi⟩:=List.mem_iff_getElem?.1 ht
 rw [List.getElem?_take] at hi
 split at hi
 · rename_i hlt
   rcases Nat.lt_or_ge i j with h | h
   · have hil:=(List.getElem?_eq_some_iff.1 hi).1
     have hjl:=(List.getElem?_eq_some_iff.1 hj).1
     have:=List.pairwise_iff_getElem.1 hr i j hil hjl h
     rw [(List.getElem?_eq_some_iff.1 hi).2,(List.getElem?_eq_some_iff.1 hj).2] at this
     omega
   · obtain rfl:i=j:=by omega
     rw [hj] at hi
     cases hi
     exact hle
 · cases hi
theorem drop_more {rs:List Pp} {j:Nat} {r:Pp} {c:Int} (hj:rs[j]? = some r) (hlt:c<r.c) (h:∀ t∈rs.drop (j+1),c<t.c):∀ t∈rs.drop j,c<t.c:=by
 have hjl:=(List.getElem?_eq_some_iff.1 hj).1
 rw [List.drop_eq_getElem_cons hjl,(List.getElem?_eq_some_iff.1 hj).2]
 intro t ht
 rcases List.mem_cons.1 ht with rfl | ht
 · exact hlt
 · exact h t ht
theorem cf_end {w1 wr w4 w7:World} {L:List Ln} {k j:Nat} {x:Ln} {qs:List Pv} {rs:List Pp} {c np:Nat} {p:List Nat} {Ap:Option Addr} {cp:Nat} {v:Value} (href:cfP rs (x::L.drop (k+1))=cfOf L) (hkL:k<L.length) (hpl:rs.length≤k) (hrise:Rise rs) (hok:cErr x.2=0∧cPair x.2=⟨c,ints' p⟩) (hnp:p.length=np) (hhas:hasS rs (c:Int)=false)
 (hj:j≤rs.length) (hlo:∀ t∈rs.take j,t.c≤(c:Int)) (hhi:∀ t∈rs.drop j,(c:Int)<t.c) (hb1:Below w1.heap.size w1 wr) (hb4:Below wr.heap.size wr w4) (hips:IsPs wr qs rs) (hvp:Vals w4 Ap np (nums .i64 (ints' p))) (hb7:Below w4.heap.size w4 w7)
 (ho:w7.ownsRow w4.heap.size 79 2 v (0+j+1+(qs.length-j)) (([]++pvs (qs.take j)) ++ [.int .i64 (c:Int),.slice Ap np cp]++pvs (qs.drop j))):CfI w1 L v (.int .i64 ((k:Int)+1)) w7:=by
 have hql:=hips.len
 have hins:insC (cPair x.2) rs=rs.take j++cPair x.2::rs.drop j:=ins_at' hj (by rw [hok.2];exact hlo) (by rw [hok.2];exact hhi)
 have hc:hasS rs (cPair x.2).c=false:=by rw [hok.2];exact hhas
 have hb:Below w1.heap.size w1 w4:=hb1.trans (hb4.mono hb1.size)
 refine⟨k+1,qs.take j++⟨c,Ap,np,cp⟩::qs.drop j,insC (cPair x.2) rs,by go_num,by omega,⟨by rw [←href,cf_add hok.1 hc],by have:=(ins_perm (cPair x.2) rs).length_eq;simp at this;omega,ins_rise hrise hc⟩,?_,?_,hb.trans (hb7.mono hb.size)⟩
 · have e1:([]++pvs (qs.take j)) ++ [.int .i64 (c:Int),.slice Ap np cp]++pvs (qs.drop j)=pvs (qs.take j++⟨c,Ap,np,cp⟩::qs.drop j):=by
    rw [List.nil_append,show ([.int .i64 (c:Int),.slice Ap np cp]:List Value)=pvs [⟨c,Ap,np,cp⟩] from rfl,pvs_app,pvs_app]
    simp
   have e2:0+j+1+(qs.length-j)=(qs.take j++(⟨c,Ap,np,cp⟩:Pv)::qs.drop j).length:=by
    simp only [List.length_append,List.length_take,List.length_cons,List.length_drop]
    omega
   rw [e1,e2] at ho
   refine⟨ho.1,?_⟩
   rcases ho.2 with h0 | ⟨g,cap,cur,h1,h2,h3⟩
   · exact .inl h0
   · exact .inr ⟨g,cap,cur,h1,Nat.le_trans hb.size h2,h3⟩
 · rw [hins]
   have h4:IsPs w7 qs rs:=(hips.below hb4).below hb7
   refine (h4.take j).app ⟨⟨by rw [hok.2],by rw [hok.2];unfold ints';simp [hnp],?_⟩,h4.drop j⟩
   rw [hok.2]
   exact hvp.below hb7
set_option maxRecDepth 100000 in
set_option maxHeartbeats 8000000 in
theorem rconf8 (l:List UInt8) (w:World) (hl:l.length≤4000) (hxl:∀ x∈linesIn l,∀ f∈x.2,f.length≤4000):Calls Tryz.prog 58 #[.string (bs l)] w (CfPost (linesIn l) w):=by
 obtain⟨i0,hi,hz0,hz1,hz2⟩:=info_parts info39
 have c20:=lines8 l w (by omega)
 obtain⟨L,hL⟩:∃ L,linesIn l=L:=⟨_,rfl⟩
 rw [hL]
 go_enter Tryz.func58,Tryz.ntmps58
 go_wp2_with (go_at_call 75;(with_reducible refine c20.mono ?_);rintro e w1 ⟨hb1,A,ca,rfl,hca,hLA⟩)
 clear c20
 have hlen:(linesIn l).length≤4001:=by
  rw [←lines_pieces]
  have h1:=List.length_filterMap_le lineOf (numbered 1 (pieces l))
  rw [numbered_length] at h1
  have h2:=pieces_length l
  omega
 rw [hL] at hlen hLA hca hxl
 obtain⟨N,hN⟩:∃ N,L.length=N:=⟨_,rfl⟩
 rw [hN] at hlen hLA hca ⊢
 have HN:=Lib.hid hN
 have HXL:=Lib.hid hxl
 have HLA:=Lib.hid hLA
 have HB1:=Lib.hid hb1
 clear hL hN hxl hLA hb1 hl
 go_wp2
 go_loopw [6,7] (fun v i wr=>CfI w1 L v i wr) (fun _ i _=>N-(intOf i).toNat)
 case atStart=>exact⟨0,[],[],rfl,Nat.zero_le _,⟨rfl,Nat.le_refl _,List.Pairwise.nil⟩,World.ownsRow_nil _ _ _ _,trivial,Below.refl _ _⟩
 case round=>
  obtain⟨k,qs,rs,rfl,hk,⟨href,hpl,hrise⟩,hown,hips,hbw⟩:=hrel
  have hbww:Below w.heap.size w wr:=HB1.out.trans (hbw.mono HB1.out.size)
  obtain⟨Ao,co,rfl,hoc,hpat,hAn⟩:=own_pat hown
  by_cases hlt:k<N
  · have hkL:k<L.length:=by rw [HN.out];exact hlt
    obtain⟨bL,rfl,hbL,hcell⟩:=HLA.out.2 (by omega)
    obtain⟨x,hx⟩:∃ x,L[k]? = some x:=⟨_,List.getElem?_eq_getElem hkL⟩
    obtain⟨e1,F,cf,e2,hVF⟩:=hcell k x hx
    rw [Nat.mul_comm] at e1 e2
    have d1:wr.cell? ⟨bL,k*2,none⟩=some (.int .i64 x.1):=(hbw.cell (p:=⟨bL,k*2,none⟩) hbL).trans e1
    have d2:wr.cell? ⟨bL,k*2+1,none⟩=some (.slice F x.2.length cf):=(hbw.cell (p:=⟨bL,k*2+1,none⟩) hbL).trans e2
    have hdrop:L.drop k=x::L.drop (k+1):=by rw [List.drop_eq_getElem_cons hkL];congr 1;exact (List.getElem?_eq_some_iff.1 hx).2
    have hxm:=HXL.out x (List.mem_of_getElem? hx)
    have hVw:=hVF.below hbw
    rw [hdrop] at href
    have HBW:=Lib.hid hbww
    have HBW1:=Lib.hid hbw
    have HOW:=Lib.hid hown
    have HPA:=Lib.hid hpat
    have HIP:=Lib.hid hips
    have HRI:=Lib.hid hrise
    have HPL:=Lib.hid hpl
    have hol:rs.length≤8000:=by omega
    have HQR:=Lib.hid hips.len
    have hoq:qs.length≤8000:=by have:=HQR.out;omega
    obtain⟨n,hn⟩:∃ n,x.2.length=n:=⟨_,rfl⟩
    obtain⟨num,hnum⟩:∃ m,x.1=m:=⟨_,rfl⟩
    rw [hnum] at d1
    have hbLw:bL<wr.heap.size:=Nat.lt_of_lt_of_le hbL hbw.size
    clear e1 e2 hcell hdrop hVF hbww hbw hown hpat hips hrise hx hpl
    by_cases hfew:x.2.length=3
    · obtain⟨bF,oF,rfl,hbF,q0,q1⟩:=flds3 hVw hfew
      have hf0:=cfld_len (k:=0) hxm
      have hf1:=cfld_len (k:=1) hxm
      rw [hn] at hfew d2
      subst hfew
      have c21:=fun q=>point12 (cfld x.2 0) (wr.drewN q) (by omega)
      obtain⟨S0,hS0⟩:∃ S,bs (cfld x.2 0)=S:=⟨_,rfl⟩
      rw [hS0] at q0
      simp only [hS0] at c21
      cases hpt:point (cfld x.2 0) with
      | none=>
       have hres:cfOf L=⟨[],13,num⟩:=by rw [←href,cf_err (by rw [cerr_pt hn hpt];decide),cerr_pt hn hpt,hnum]
       have HP:=Lib.hid (fun W (hb:Below w.heap.size w W)=>cfp_bad (w:=w) (w':=W) hres hb)
       simp only [hpt,ptI] at c21
       have C21:=Lib.hid c21
       clear c21 href hres hVw hn hS0 hpt hf0 hf1 hxm hnum
       go_wp2
       go_quiet (fail)
       go_wp2_with (go_at_call 81;(with_reducible refine (C21.out nq).mono ?_);rintro e w2 ⟨rfl,hb2⟩)
       go_ret3
       exact HP.out _ ((below_drewN HBW.out _).trans (hb2.mono (below_drewN HBW.out _).size))
      | some c=>
       simp only [hpt,ptI] at c21
       have C21:=Lib.hid c21
       obtain⟨S1,hS1⟩:∃ S,bs (cfld x.2 1)=S:=⟨_,rfl⟩
       rw [hS1] at q1
       have hc0:¬(c:Int)<0:=by omega
       cases hsq:seqOf (cfld x.2 1) with
       | none=>
        have hres:cfOf L=⟨[],13,num⟩:=by rw [←href,cf_err (by rw [cerr_sq hn hpt hsq];decide),cerr_sq hn hpt hsq,hnum]
        have HP:=Lib.hid (fun W (hb:Below w.heap.size w W)=>cfp_bad (w:=w) (w':=W) hres hb)
        have c22:=fun W=>seq_none (w:=W) hf1 hsq
        simp only [hS1] at c22
        have C22:=Lib.hid c22
        clear c22 c21 href hres hVw hn hS0 hS1 hpt hsq hf0 hf1 hxm hnum
        go_wp2
        go_quiet (fail)
        go_wp2_with (first
         | (go_at_call 81;(with_reducible refine (C21.out nq).mono ?_);rintro e w2 ⟨rfl,hb2⟩;have z3:w2.cell? ⟨bF,oF+1,none⟩=some (.string S1):=(hb2.cell (p:=⟨bF,oF+1,none⟩) hbF).trans q1)
         | (go_at_call 82;(with_reducible refine (C22.out w2).mono ?_);rintro e w3 ⟨rfl,hb3⟩))
        go_ret3
        have hB2:=(below_drewN HBW.out nq).trans (hb2.mono (below_drewN HBW.out nq).size)
        exact HP.out _ (hB2.trans (hb3.mono hB2.size))
       | some p=>
        have c22:=fun W=>seq_some (w:=W) hf1 hsq
        simp only [hS1] at c22
        have C22:=Lib.hid c22
        obtain⟨np,hnp⟩:∃ m,p.length=m:=⟨_,rfl⟩
        simp only [hnp] at C22
        by_cases h0:np=0
        · have hres:cfOf L=⟨[],16,num⟩:=by rw [←href,cf_err (by rw [cerr_em hn hpt hsq (hnp.trans h0)];decide),cerr_em hn hpt hsq (hnp.trans h0),hnum]
          have HP:=Lib.hid (fun W (hb:Below w.heap.size w W)=>cfp_bad (w:=w) (w':=W) hres hb)
          clear c22 c21 href hres hVw hn hS0 hS1 hpt hsq hf0 hf1 hxm hnum hnp
          subst h0
          go_wp2
          go_quiet (fail)
          go_wp2_with (first
           | (go_at_call 81;(with_reducible refine (C21.out nq).mono ?_);rintro e w2 ⟨rfl,hb2⟩;have z3:w2.cell? ⟨bF,oF+1,none⟩=some (.string S1):=(hb2.cell (p:=⟨bF,oF+1,none⟩) hbF).trans q1)
           | (go_at_call 82;(with_reducible refine (C22.out w2).mono ?_);rintro e w3 ⟨Ap,cp,rfl,hb3⟩))
          go_ret3
          have hB2:=(below_drewN HBW.out nq).trans (hb2.mono (below_drewN HBW.out nq).size)
          exact HP.out _ (hB2.trans (hb3.out.1.mono hB2.size))
        · by_cases h18:18<np
          · have hres:cfOf L=⟨[],36,num⟩:=by rw [←href,cf_err (by rw [cerr_lg hn hpt hsq (by rw [hnp];exact h0) (by rw [hnp];exact h18)];decide),cerr_lg hn hpt hsq (by rw [hnp];exact h0) (by rw [hnp];exact h18),hnum]
            have HP:=Lib.hid (fun W (hb:Below w.heap.size w W)=>cfp_bad (w:=w) (w':=W) hres hb)
            have hd1:((np:Int)==0)=false:=beq_false_of_ne (by omega)
            have hd2:(18:Int)<(np:Int):=by omega
            clear c22 c21 href hres hVw hn hS0 hS1 hpt hsq hf0 hf1 hxm hnum hnp
            go_wp2
            go_quiet (fail)
            go_wp2_with (first
             | (go_at_call 81;(with_reducible refine (C21.out nq).mono ?_);rintro e w2 ⟨rfl,hb2⟩;have z3:w2.cell? ⟨bF,oF+1,none⟩=some (.string S1):=(hb2.cell (p:=⟨bF,oF+1,none⟩) hbF).trans q1)
             | (go_at_call 82;(with_reducible refine (C22.out w2).mono ?_);rintro e w3 ⟨Ap,cp,rfl,hb3⟩))
            go_ret3
            have hB2:=(below_drewN HBW.out nq).trans (hb2.mono (below_drewN HBW.out nq).size)
            exact HP.out _ (hB2.trans (hb3.out.1.mono hB2.size))
          · have hok:=cerr_ok hn hpt hsq (by rw [hnp];exact h0) (by rw [hnp];exact h18)
            have hd1:((np:Int)==0)=false:=beq_false_of_ne (by omega)
            have hd2:¬(18:Int)<(np:Int):=by omega
            have c11:=fun W (hW:Below wr.heap.size wr W)=>find11 Ao qs.length co qs rs (c:Int) W (HPA.out.below hW) (HIP.out.below hW) (by omega)
            have C11:=Lib.hid c11
            have hfh:=find_has rs (c:Int)
            have hfg:=find_ge rs (c:Int)
            cases hhas:hasS rs (c:Int) with
            | true=>
             have hres:cfOf L=⟨[],15,num⟩:=by rw [←href,cf_bad hok.1 (by rw [hok.2];exact hhas),hnum]
             have HP:=Lib.hid (fun W (hb:Below w.heap.size w W)=>cfp_bad (w:=w) (w':=W) hres hb)
             rw [hhas] at hfh
             have hf1':0≤findC rs (c:Int):=of_decide_eq_true hfh.symm
             obtain⟨fi,hfi⟩:∃ fi,findC rs (c:Int)=fi:=⟨_,rfl⟩
             simp only [hfi] at C11
             rw [hfi] at hf1'
             clear c11 hfh hfg c22 c21 href hres hVw hn hS0 hS1 hpt hsq hf0 hf1 hxm hnum hnp hok hhas hfi
             go_wp2
             go_quiet (fail)
             go_wp2_with (first
              | (go_at_call 81;(with_reducible refine (C21.out nq).mono ?_);rintro e w2 ⟨rfl,hb2⟩;have z3:w2.cell? ⟨bF,oF+1,none⟩=some (.string S1):=(hb2.cell (p:=⟨bF,oF+1,none⟩) hbF).trans q1)
              | (go_at_call 82;(with_reducible refine (C22.out w2).mono ?_);rintro e w3 ⟨Ap,cp,rfl,hb3⟩;have hB3:Below wr.heap.size wr w3:=((below_drewN (Below.refl _ wr) nq).trans hb2).trans (hb3.out.1.mono hb2.size);have k11:=C11.out w3 hB3)
              | (go_at_call 39;(with_reducible refine k11.mono ?_);rintro e w4 ⟨rfl,rfl⟩))
             go_ret3
             exact HP.out _ (HBW.out.trans (hB3.mono HBW.out.size))
            | false=>
             rw [hhas] at hfh
             have hf1':findC rs (c:Int)<0:=by have:=of_decide_eq_false hfh.symm;omega
             obtain⟨fi,hfi⟩:∃ fi,findC rs (c:Int)=fi:=⟨_,rfl⟩
             simp only [hfi] at C11
             rw [hfi] at hf1'
             have hend:=fun w4 w7 j v Ap cp hj hlo hhi hb4 hvp hb7 ho=>cf_end (w1:=w1) (wr:=wr) (w4:=w4) (w7:=w7) (j:=j) (v:=v) (Ap:=Ap) (cp:=cp) href hkL HPL.out HRI.out hok hnp hhas hj hlo hhi HBW1.out hb4 HIP.out hvp hb7 ho
             have HEND:=Lib.hid hend
             have HAN:=Lib.hid hAn
             have HOC:=Lib.hid hoc
             clear hend c11 hfh hfg c22 c21 href hVw hn hS0 hS1 hpt hsq hf0 hf1 hxm hnum hnp hok hhas hfi
             rcases HOW.out.2 with ⟨hnil,hq0⟩ | ⟨g,cap,cur,hsome,-,hgg,-⟩
             · injection hnil with e1 e2 e3
               subst e1 e3
               obtain rfl:qs = []:=List.eq_nil_of_length_eq_zero hq0
               obtain rfl:rs = []:=List.eq_nil_of_length_eq_zero (by have:=HQR.out;simp at this;omega)
               clear hAn hoc hoq hol e2 hq0
               simp only [List.length_nil] at C11 ⊢
               go_wp2
               go_quiet (fail)
               go_wp2_with (first
                | (go_at_call 81;(with_reducible refine (C21.out nq).mono ?_);rintro e w2 ⟨rfl,hb2⟩;have z3:w2.cell? ⟨bF,oF+1,none⟩=some (.string S1):=(hb2.cell (p:=⟨bF,oF+1,none⟩) hbF).trans q1)
                | (go_at_call 82;(with_reducible refine (C22.out w2).mono ?_);rintro e w3 ⟨Ap,cp,rfl,hb3⟩;have hB3:Below wr.heap.size wr w3:=((below_drewN (Below.refl _ wr) nq).trans hb2).trans (hb3.out.1.mono hb2.size);have k11:=C11.out w3 hB3)
                | (go_at_call 39;(with_reducible refine k11.mono ?_);rintro e w4 ⟨rfl,rfl⟩))
               clear k11
               go_wp2
               go_loopw [13] (fun i wq=>InI [] (c:Int) 0 w4 i wq) (fun i _=>(intOf i).toNat)
               case atStart=>exact⟨0,rfl,Nat.le_refl _,fun t ht=>(by cases ht),rfl⟩
               case round=>
                obtain⟨j,rfl,hjM,-,rfl⟩:=hrel
                obtain rfl:j=0:=by omega
                have a2:0+1≤maxLen:=m32 (by omega)
                have b2:(0+1)*32≤140737488355328:=b32 (by omega)
                have a3:0+1+0≤maxLen:=m32 (by omega)
                have b3:(0+1+0)*32≤140737488355328:=b32 (by omega)
                go_wp2_with (first
                 | (at_builtin;refine append_lit rfl _ _ 52 rfl w4.heap.size 79 i0 (.agg #[.int .i64 0,.slice none 0 0]) 2 32 Tryz.underlying52 hi hz0 hz1 hz2 rfl (by decide) (.slice none 0 0) 0 [] rfl (World.ownsRow_nil _ _ _ _) [.int .i64 (c:Int),.slice Ap np cp] rfl (by simp [Value.oneCell']) rfl a2 b2 (Nat.le_refl _) ?_;intro v6 w6 ho6 hg6;have hB6:Below w4.heap.size w4 w6:=hg6 _ _ (Below.refl _ _) (Nat.le_refl _);have HO6:=Lib.hid ho6;have HB6:=Lib.hid hB6;have hs6:=hB6.size;obtain⟨A6,c6,rfl,-⟩:=own_shapeC ho6;clear ho6 hg6 hB6)
                 | (at_builtin;refine append_pairs rfl _ _ 52 rfl w4.heap.size 79 i0 (.agg #[.int .i64 0,.slice none 0 0]) 32 Tryz.underlying52 hi hz0 hz1 hz2 rfl (.slice A6 (0+1) c6) (0+1) _ rfl HO6.out none 0 0 [] rfl (PAt.nil _ _) (fun _=>rfl) a3 b3 hs6 ?_;intro v7 w7 ho7 hg7;have hB7:Below w4.heap.size w4 w7:=HB6.out.grown hg7 hs6 (fun g e=>(HO6.out.lt g e).1);have HO7:=Lib.hid ho7;have HB7:=Lib.hid hB7;obtain⟨A7,c7,rfl,-⟩:=own_shapeC ho7;clear ho7 hg7 hB7))
                go_roundw
                case rel=>exact HEND.out w4 w7 0 _ Ap cp (Nat.zero_le _) (fun t ht=>by cases ht) (fun t ht=>by cases ht) hB3 hb3.out.2 HB7.out HO7.out
                case measure=>simp [intOf];omega
             · injection hsome with e1 e2 e3
               subst e1 e3
               have hgl:g<wr.heap.size:=(Array.getElem?_eq_some_iff.1 hgg).1
               clear hAn hgg
               obtain⟨M,hM⟩:∃ M,qs.length=M:=⟨_,rfl⟩
               have HMq:=Lib.hid hM
               rw [hM] at hoq C11 hoc ⊢
               clear hM
               go_wp2
               go_quiet (fail)
               go_wp2_with (first
                | (go_at_call 81;(with_reducible refine (C21.out nq).mono ?_);rintro e w2 ⟨rfl,hb2⟩;have z3:w2.cell? ⟨bF,oF+1,none⟩=some (.string S1):=(hb2.cell (p:=⟨bF,oF+1,none⟩) hbF).trans q1)
                | (go_at_call 82;(with_reducible refine (C22.out w2).mono ?_);rintro e w3 ⟨Ap,cp,rfl,hb3⟩;have hB3:Below wr.heap.size wr w3:=((below_drewN (Below.refl _ wr) nq).trans hb2).trans (hb3.out.1.mono hb2.size);have k11:=C11.out w3 hB3)
                | (go_at_call 39;(with_reducible refine k11.mono ?_);rintro e w4 ⟨rfl,rfl⟩))
               have hpat3:PAt w4 (some ⟨g,0,none⟩) M qs:=by have:=HPA.out.below hB3;rwa [HMq.out] at this
               have hips3:=HIP.out.below hB3
               have hcc:∀ j,j<M→∃ r,rs[j]? = some r∧w4.cell? ⟨g,j*2,none⟩=some (.int .i64 r.c):=fun j hj=>by
                obtain⟨b,off,e,-,hc⟩:=hpat3.2 (by omega)
                cases e
                obtain⟨q,hq⟩:∃ q,qs[j]? = some q:=⟨_,List.getElem?_eq_getElem (by have:=HMq.out;omega)⟩
                obtain⟨r,hr,hqr⟩:=hips3.get hq
                have:=(hc j q hq).1
                rw [hqr.1,Nat.zero_add] at this
                exact⟨r,hr,this⟩
               have HCC:=Lib.hid hcc
               have HPT:=Lib.hid hpat3
               have hg3:g<w4.heap.size:=Nat.lt_of_lt_of_le hgl hB3.size
               have HRM:Hid (rs.length=M):=Lib.hid (by have:=HQR.out;have:=HMq.out;omega)
               clear hcc hpat3 hips3 k11
               go_wp2
               go_loopw [13] (fun i wq=>InI rs (c:Int) M w4 i wq) (fun i _=>(intOf i).toNat)
               case atStart=>exact⟨M,rfl,Nat.le_refl _,fun t ht=>(by rw [List.drop_of_length_le (by rw [HRM.out];exact Nat.le_refl _)] at ht;cases ht),rfl⟩
               case round=>
                obtain⟨j,rfl,hjM,hhi,rfl⟩:=hrel
                cases j with
                | zero=>
                 have hlo:∀ t∈rs.take 0,t.c≤(c:Int):=fun t ht=>by simp at ht
                 have a2:0+1≤maxLen:=m32 (by omega)
                 have b2:(0+1)*32≤140737488355328:=b32 (by omega)
                 have a3:0+1+M≤maxLen:=m32 (by omega)
                 have b3:(0+1+M)*32≤140737488355328:=b32 (by omega)
                 have HLO:=Lib.hid hlo
                 have HHI:=Lib.hid hhi
                 clear hlo hhi
                 go_wp2_with (first
                  | (at_builtin;refine append_lit rfl _ _ 52 rfl w4.heap.size 79 i0 (.agg #[.int .i64 0,.slice none 0 0]) 2 32 Tryz.underlying52 hi hz0 hz1 hz2 rfl (by decide) (.slice none 0 0) 0 [] rfl (World.ownsRow_nil _ _ _ _) [.int .i64 (c:Int),.slice Ap np cp] rfl (by simp [Value.oneCell']) rfl a2 b2 (Nat.le_refl _) ?_;intro v6 w6 ho6 hg6;have hB6:Below w4.heap.size w4 w6:=hg6 _ _ (Below.refl _ _) (Nat.le_refl _);have HO6:=Lib.hid ho6;have HB6:=Lib.hid hB6;have hs6:=hB6.size;have HT6:=Lib.hid (HPT.out.below hB6);obtain⟨A6,c6,rfl,-⟩:=own_shapeC ho6;clear ho6 hg6 hB6)
                  | (at_builtin;refine append_pairs rfl _ _ 52 rfl w4.heap.size 79 i0 (.agg #[.int .i64 0,.slice none 0 0]) 32 Tryz.underlying52 hi hz0 hz1 hz2 rfl (.slice A6 (0+1) c6) (0+1) _ rfl HO6.out (some ⟨g,0,none⟩) M co qs rfl HT6.out (fun h=>by cases h) a3 b3 hs6 ?_;intro v7 w7 ho7 hg7;have hB7:Below w4.heap.size w4 w7:=HB6.out.grown hg7 hs6 (fun g e=>(HO6.out.lt g e).1);have HO7:=Lib.hid ho7;have HB7:=Lib.hid hB7;obtain⟨A7,c7,rfl,-⟩:=own_shapeC ho7;clear ho7 hg7 hB7))
                 go_roundw
                 case rel=>exact HEND.out w4 w7 0 _ Ap cp (Nat.zero_le _) HLO.out HHI.out hB3 hb3.out.2 HB7.out (by have:=HO7.out;rw [HMq.out];exact this)
                 case measure=>simp [intOf];omega
                | succ j=>
                 obtain⟨r,hr,hrc⟩:=HCC.out j (by omega)
                 by_cases hcr:(c:Int)<r.c
                 · have hhi':=drop_more hr hcr hhi
                   have HHI:=Lib.hid hhi'
                   have hjl:j<M:=by omega
                   clear hhi hhi' hr
                   go_wp2
                   go_roundw
                   case rel=>exact⟨j,by go_num,by omega,HHI.out,rfl⟩
                   case measure=>simp [intOf]
                 · have hlo:=low_all HRI.out hr (show r.c≤(c:Int) by omega)
                   have hjl:j<M:=by omega
                   clear hr
                   by_cases hco:co=j+1
                   · subst hco
                     obtain rfl:M=j+1:=by omega
                     have hT1:PAt w4 (some ⟨g,0,none⟩) (j+1) (qs.take (j+1)):=HPT.out.take hjM
                     have hT2:PAt w4 (some ⟨g,0,none⟩) 0 []:=PAt.nil _ _
                     have HT1:=Lib.hid hT1
                     have HT2:=Lib.hid hT2
                     have a1:0+(j+1)≤maxLen:=m32 (by omega)
                     have b1:(0+(j+1))*32≤140737488355328:=b32 (by omega)
                     have a2:j+1+1≤maxLen:=m32 (by omega)
                     have b2:(j+1+1)*32≤140737488355328:=b32 (by omega)
                     have a3:j+1+1+0≤maxLen:=m32 (by omega)
                     have b3:(j+1+1+0)*32≤140737488355328:=b32 (by omega)
                     have HLO:=Lib.hid hlo
                     have HHI:=Lib.hid hhi
                     clear hT1 hT2 hlo hhi
                     go_wp2_with (first
                      | (at_builtin;refine append_pairs rfl _ _ 52 rfl w4.heap.size 79 i0 (.agg #[.int .i64 0,.slice none 0 0]) 32 Tryz.underlying52 hi hz0 hz1 hz2 rfl (.slice none 0 0) 0 [] rfl (World.ownsRow_nil _ _ _ _) (some ⟨g,0,none⟩) (j+1) (j+1) (qs.take (j+1)) rfl HT1.out (fun h=>by cases h) a1 b1 (Nat.le_refl _) ?_;intro v5 w5 ho5 hg5;rw [Nat.zero_add] at ho5;have hB5:Below w4.heap.size w4 w5:=(Below.refl _ w4).grown hg5 (Nat.le_refl _) (fun g e=>by cases e);have HO5:=Lib.hid ho5;have HB5:=Lib.hid hB5;have hs5:=hB5.size;obtain⟨A5,c5,rfl,-⟩:=own_shapeC ho5;clear ho5 hg5 hB5)
                      | (at_builtin;refine append_lit rfl _ _ 52 rfl w4.heap.size 79 i0 (.agg #[.int .i64 0,.slice none 0 0]) 2 32 Tryz.underlying52 hi hz0 hz1 hz2 rfl (by decide) (.slice A5 (j+1) c5) (j+1) _ rfl HO5.out [.int .i64 (c:Int),.slice Ap np cp] rfl (by simp [Value.oneCell']) rfl a2 b2 hs5 ?_;intro v6 w6 ho6 hg6;have hB6:Below w4.heap.size w4 w6:=hg6 _ _ HB5.out (Nat.le_refl _);have HO6:=Lib.hid ho6;have HB6:=Lib.hid hB6;have hs6:=hB6.size;have HT6:=Lib.hid (HT2.out.below hB6);obtain⟨A6,c6,rfl,-⟩:=own_shapeC ho6;clear ho6 hg6 hB6)
                      | (at_builtin;refine append_pairs rfl _ _ 52 rfl w4.heap.size 79 i0 (.agg #[.int .i64 0,.slice none 0 0]) 32 Tryz.underlying52 hi hz0 hz1 hz2 rfl (.slice A6 (j+1+1) c6) (j+1+1) _ rfl HO6.out (some ⟨g,0,none⟩) 0 0 [] rfl HT6.out (fun h=>by cases h) a3 b3 hs6 ?_;intro v7 w7 ho7 hg7;have hB7:Below w4.heap.size w4 w7:=HB6.out.grown hg7 hs6 (fun g e=>(HO6.out.lt g e).1);have HO7:=Lib.hid ho7;have HB7:=Lib.hid hB7;obtain⟨A7,c7,rfl,-⟩:=own_shapeC ho7;clear ho7 hg7 hB7))
                     go_roundw
                     case rel=>exact HEND.out w4 w7 (j+1) _ Ap cp (by have:=HRM.out;omega) HLO.out HHI.out hB3 hb3.out.2 HB7.out (by have:=HO7.out;rw [HMq.out,Nat.zero_add,Nat.sub_self,List.drop_of_length_le (by rw [HMq.out];exact Nat.le_refl _)];exact this)
                     case measure=>simp [intOf];omega
                   · have hco2:¬j+1=co:=fun e=>hco e.symm
                     have hT1:PAt w4 (some ⟨g,0,none⟩) (j+1) (qs.take (j+1)):=HPT.out.take hjM
                     have hT2:PAt w4 (some ⟨g,0+(j+1)*2,none⟩) (M-(j+1)) (qs.drop (j+1)):=HPT.out.drop hjM
                     rw [Nat.zero_add] at hT2
                     have HT1:=Lib.hid hT1
                     have HT2:=Lib.hid hT2
                     have a1:0+(j+1)≤maxLen:=m32 (by omega)
                     have b1:(0+(j+1))*32≤140737488355328:=b32 (by omega)
                     have a2:j+1+1≤maxLen:=m32 (by omega)
                     have b2:(j+1+1)*32≤140737488355328:=b32 (by omega)
                     have a3:j+1+1+(M-(j+1))≤maxLen:=m32 (by omega)
                     have b3:(j+1+1+(M-(j+1)))*32≤140737488355328:=b32 (by omega)
                     have HLO:=Lib.hid hlo
                     have HHI:=Lib.hid hhi
                     clear hT1 hT2 hlo hhi
                     go_wp2_with (first
                      | (at_builtin;refine append_pairs rfl _ _ 52 rfl w4.heap.size 79 i0 (.agg #[.int .i64 0,.slice none 0 0]) 32 Tryz.underlying52 hi hz0 hz1 hz2 rfl (.slice none 0 0) 0 [] rfl (World.ownsRow_nil _ _ _ _) (some ⟨g,0,none⟩) (j+1) co (qs.take (j+1)) rfl HT1.out (fun h=>by cases h) a1 b1 (Nat.le_refl _) ?_;intro v5 w5 ho5 hg5;rw [Nat.zero_add] at ho5;have hB5:Below w4.heap.size w4 w5:=(Below.refl _ w4).grown hg5 (Nat.le_refl _) (fun g e=>by cases e);have HO5:=Lib.hid ho5;have HB5:=Lib.hid hB5;have hs5:=hB5.size;obtain⟨A5,c5,rfl,-⟩:=own_shapeC ho5;clear ho5 hg5 hB5)
                      | (at_builtin;refine append_lit rfl _ _ 52 rfl w4.heap.size 79 i0 (.agg #[.int .i64 0,.slice none 0 0]) 2 32 Tryz.underlying52 hi hz0 hz1 hz2 rfl (by decide) (.slice A5 (j+1) c5) (j+1) _ rfl HO5.out [.int .i64 (c:Int),.slice Ap np cp] rfl (by simp [Value.oneCell']) rfl a2 b2 hs5 ?_;intro v6 w6 ho6 hg6;have hB6:Below w4.heap.size w4 w6:=hg6 _ _ HB5.out (Nat.le_refl _);have HO6:=Lib.hid ho6;have HB6:=Lib.hid hB6;have hs6:=hB6.size;have HT6:=Lib.hid (HT2.out.below hB6);obtain⟨A6,c6,rfl,-⟩:=own_shapeC ho6;clear ho6 hg6 hB6)
                      | (at_builtin;refine append_pairs rfl _ _ 52 rfl w4.heap.size 79 i0 (.agg #[.int .i64 0,.slice none 0 0]) 32 Tryz.underlying52 hi hz0 hz1 hz2 rfl (.slice A6 (j+1+1) c6) (j+1+1) _ rfl HO6.out (some ⟨g,(j+1)*2,none⟩) (M-(j+1)) (co-(j+1)) (qs.drop (j+1)) rfl HT6.out (fun h=>by cases h) a3 b3 hs6 ?_;intro v7 w7 ho7 hg7;have hB7:Below w4.heap.size w4 w7:=HB6.out.grown hg7 hs6 (fun g e=>(HO6.out.lt g e).1);have HO7:=Lib.hid ho7;have HB7:=Lib.hid hB7;obtain⟨A7,c7,rfl,-⟩:=own_shapeC ho7;clear ho7 hg7 hB7))
                     go_roundw
                     case rel=>exact HEND.out w4 w7 (j+1) _ Ap cp (by have:=HRM.out;omega) HLO.out HHI.out hB3 hb3.out.2 HB7.out (by have:=HO7.out;rw [HMq.out,Nat.zero_add];exact this)
                     case measure=>simp [intOf];omega
    · have hres:cfOf L=⟨[],12,num⟩:=by rw [←href,cf_err (by rw [cerr_len hfew];decide),cerr_len hfew,hnum]
      have HP:=Lib.hid (fun W (hb:Below w.heap.size w W)=>cfp_bad (w:=w) (w':=W) hres hb)
      rw [hn] at d2 hfew
      have hd1:((n:Int)==3)=false:=beq_false_of_ne (by omega)
      have hd2:((n:Int) != 3)=true:=bne_iff_ne.2 (by omega)
      clear href hres hVw hn hnum
      go_wp2
      go_quiet (fail)
      go_wp2
      go_ret3
      exact HP.out _ (below_drewN HBW.out _)
  · have hke:k=N:=by have:=HN.out;omega
    have hres:cfOf L=⟨rs,0,0⟩:=by rw [←href,List.drop_of_length_le (by rw [HN.out];omega)];rfl
    have HP:Hid (CfPost L w (.returned (.tuple #[.slice Ao qs.length co,.int .i64 0,.int .i64 0])) wr):=Lib.hid ⟨hbww,Ao,co,qs,by rw [hres,hips.len],Lib.hid (by rw [hres,←hips.len];exact⟨hpat,hips⟩)⟩
    subst hke
    clear href hres hpl hrise hown hips hbw hbww hpat hAn hoc
    go_wp2
    go_ret3
    exact HP.out
end Go.Proofs.YtmellioacefjjaaGreatDoor.Cf
