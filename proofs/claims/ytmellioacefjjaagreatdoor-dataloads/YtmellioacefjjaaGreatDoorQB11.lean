/- A part. -/
import Derived.Test.YtmellioacefjjaaGreatDoorQB10
namespace Go.Proofs.YtmellioacefjjaaGreatDoor
open Go.RowKit
attribute [local go_sem] Oper.semAt_some
structure RD (w:World) (b:Nat) (ps:List Uc.Pr) (sp:Nat→List Pq.Sp) (cf:List Cf.Pp) (mk:List (Int×Int×Int)):Prop where
 rows:∃ A c ls,w.cell? ⟨b,0,none⟩=some (.slice A ls.length c)∧RowsIn w A ls.length ls ps
 props:∀ i,i<5→∃ A c,w.cell? ⟨b,1+i,none⟩=some (.slice A (sp i).length c)∧Pq.SAt w A (sp i).length (sp i)
 conf:∃ A c qs,w.cell? ⟨b,6,none⟩=some (.slice A cf.length c)∧Cf.PAt w A cf.length qs∧Cf.IsPs w qs cf
 srcs:∃ A c,w.cell? ⟨b,7,none⟩=some (.slice A mk.length c)∧Vals w A mk.length (nums .i64 (mk.map fun x=>x.1))
 ones:∃ A c,w.cell? ⟨b,8,none⟩=some (.slice A mk.length c)∧Vals w A mk.length (nums .i64 (mk.map fun x=>x.2.1))
 twos:∃ A c,w.cell? ⟨b,9,none⟩=some (.slice A mk.length c)∧Vals w A mk.length (nums .i64 (mk.map fun x=>x.2.2))
theorem RD.below {w w':World} {b:Nat} {ps:List Uc.Pr} {sp:Nat→List Pq.Sp} {cf:List Cf.Pp} {mk:List (Int×Int×Int)} (h:RD w b ps sp cf mk) (hb:Below w.heap.size w w'):RD w' b ps sp cf mk:=by
 have cc:∀ {k:Nat} {v:Value},w.cell? ⟨b,k,none⟩=some v→w'.cell? ⟨b,k,none⟩=some v:=fun {k v} hc=>(hb.cell (p:=⟨b,k,none⟩) (World.block_lt_of_cell? w _ hc)).trans hc
 refine⟨?_,fun i hi=>?_,?_,?_,?_,?_⟩
 · obtain⟨A,c,ls,h1,h2⟩:=h.rows;exact⟨A,c,ls,cc h1,h2.below hb⟩
 · obtain⟨A,c,h1,h2⟩:=h.props i hi;exact⟨A,c,cc h1,h2.below hb⟩
 · obtain⟨A,c,qs,h1,h2,h3⟩:=h.conf;exact⟨A,c,qs,cc h1,h2.below hb,h3.below hb⟩
 · obtain⟨A,c,h1,h2⟩:=h.srcs;exact⟨A,c,cc h1,h2.below hb⟩
 · obtain⟨A,c,h1,h2⟩:=h.ones;exact⟨A,c,cc h1,h2.below hb⟩
 · obtain⟨A,c,h1,h2⟩:=h.twos;exact⟨A,c,cc h1,h2.below hb⟩
set_option maxHeartbeats 1000000 in
theorem prop18_at (b k i n ca:Nat) (A:Option Addr) (l:List Pq.Sp) (c:Int) (w:World) (hk:1+i=k) (hi:i<5) (h:w.cell? ⟨b,k,none⟩=some (.slice A n ca)) (hS:Pq.SAt w A n l) (hn:n≤1000000):
 Calls Tryz.prog 18 #[.pointer (some ⟨b,0,none⟩),.int .i64 (i:Nat),.int .i64 c] w fun e w'=>e=.returned (.string (bs (Pq.valueOf l c)))∧∃ q,w'=w.drewN q:=by
 have c41:=Pq.value12 A n ca l c w hS hn
 obtain⟨T,hT⟩:∃ T,bs (Pq.valueOf l c)=T:=⟨_,rfl⟩
 rw [hT] at c41 ⊢
 have hi5:(i:Int)<5:=by omega
 have hi0:(0:Int)≤(i:Int):=by omega
 have h':w.cell? ⟨b,1+i,none⟩=some (.slice A n ca):=by rw [hk];exact h
 have h'':w.cell? ⟨b,i+1,none⟩=some (.slice A n ca):=by rw [Nat.add_comm];exact h'
 clear hS hT h hk
 go_enter Tryz.func18,Tryz.ntmps18
 go_wp2_with (go_at_call 42;(with_reducible refine c41.mono ?_);rintro e w1 ⟨rfl,q,rfl⟩)
 go_ret
 exact⟨rfl,q,rfl⟩
theorem prop18 {b:Nat} {ps:List Uc.Pr} {sp:Nat→List Pq.Sp} {cf:List Cf.Pp} {mk:List (Int×Int×Int)} {w:World} (h:RD w b ps sp cf mk) (i:Nat) (hi:i<5) (hn:(sp i).length≤1000000) (c:Int):
 Calls Tryz.prog 18 #[.pointer (some ⟨b,0,none⟩),.int .i64 (i:Nat),.int .i64 c] w fun e w'=>e=.returned (.string (bs (Pq.valueOf (sp i) c)))∧∃ q,w'=w.drewN q:=by
 obtain⟨A,ca,h1,h2⟩:=h.props i hi
 exact prop18_at b (1+i) i _ ca A (sp i) c w rfl hi h1 h2 hn
def unas:List UInt8:=[85,78,65,83,83,73,71,78,69,68]
def statOf (l:List Pq.Sp) (c:Int):List UInt8:=if Pq.valueOf l c = [] then unas else Pq.valueOf l c
set_option maxHeartbeats 1000000 in
theorem status21 {b:Nat} {ps:List Uc.Pr} {sp:Nat→List Pq.Sp} {cf:List Cf.Pp} {mk:List (Int×Int×Int)} {w:World} (h:RD w b ps sp cf mk) (hn:(sp 2).length≤1000000) (c:Int):
 Calls Tryz.prog 21 #[.pointer (some ⟨b,0,none⟩),.int .i64 c] w fun e w'=>e=.returned (.string (bs (statOf (sp 2) c)))∧∃ q,w'=w.drewN q:=by
 have c18:=prop18 h 2 (by omega) hn c
 have c18':Calls Tryz.prog 18 #[.pointer (some ⟨b,0,none⟩),.int .i64 2,.int .i64 c] w fun e w'=>e=.returned (.string (bs (Pq.valueOf (sp 2) c)))∧∃ q,w'=w.drewN q:=c18
 by_cases hv:Pq.valueOf (sp 2) c = []
 · have e1:statOf (sp 2) c=unas:=by unfold statOf;rw [if_pos hv]
   rw [e1,show bs unas=⟨#[85,78,65,83,83,73,71,78,69,68]⟩ from rfl]
   rw [hv,bs_nil] at c18'
   clear h c18 hv e1
   go_enter Tryz.func21,Tryz.ntmps21
   go_wp2_with (go_at_call 18;(with_reducible refine c18'.mono ?_);rintro e w1 ⟨rfl,q,rfl⟩)
   go_ret
   exact⟨rfl,q,rfl⟩
 · have e1:statOf (sp 2) c=Pq.valueOf (sp 2) c:=by unfold statOf;rw [if_neg hv]
   have hne:=bs_some hv
   rw [e1]
   obtain⟨T,hT⟩:∃ T,bs (Pq.valueOf (sp 2) c)=T:=⟨_,rfl⟩
   rw [hT] at c18' hne ⊢
   clear h c18 hv e1 hT
   go_enter Tryz.func21,Tryz.ntmps21
   go_wp2_with (go_at_call 18;(with_reducible refine c18'.mono ?_);rintro e w1 ⟨rfl,q,rfl⟩)
   go_ret
   exact⟨rfl,q,rfl⟩
def findM:List (Int×Int×Int)→Int→Int→Option Int
 | [],_,_=>none
 | x::l,a,b=>if x.2.1=a∧x.2.2=b then some x.1 else findM l a b
def mkV:Option Int→Value
 | some c=>.tuple #[.int .i64 c,.bool true]
 | none=>.tuple #[.int .i64 0,.bool false]
theorem findM_at:∀ {l:List (Int×Int×Int)} {a b:Int} {k:Nat} {x:Int×Int×Int},l[k]? = some x→(x.2.1=a∧x.2.2=b)→(∀ t∈l.take k,¬(t.2.1=a∧t.2.2=b))→findM l a b=some x.1
 | [],_,_,_,_,h,_,_=>by simp at h
 | y::l,a,b,0,x,h,hx,_=>by
  simp at h
  subst h
  rw [findM,if_pos hx]
 | y::l,a,b,k+1,x,h,hx,hno=>by
  rw [findM,if_neg (hno y (by simp))]
  exact findM_at (by simpa using h) hx (fun t ht=>hno t (by simp [ht]))
theorem findM_none:∀ {l:List (Int×Int×Int)} {a b:Int},(∀ t∈l,¬(t.2.1=a∧t.2.2=b))→findM l a b=none
 | [],_,_,_=>rfl
 | y::l,a,b,h=>by
  rw [findM,if_neg (h y (by simp))]
  exact findM_none (fun t ht=>h t (List.mem_cons_of_mem _ ht))
def MkI (mk:List (Int×Int×Int)) (a b:Int) (w:World) (i:Value) (wr:World):Prop:=∃ k:Nat,(i=.int .i64 k∧k≤mk.length)∧(∀ t∈mk.take k,¬(t.2.1=a∧t.2.2=b))∧w=wr
theorem mk_more {mk:List (Int×Int×Int)} {a b:Int} {k:Nat} {x:Int×Int×Int} (h:mk[k]? = some x) (hx:¬(x.2.1=a∧x.2.2=b)) (hno:∀ t∈mk.take k,¬(t.2.1=a∧t.2.2=b)):∀ t∈mk.take (k+1),¬(t.2.1=a∧t.2.2=b):=by
 have hlt:=(List.getElem?_eq_some_iff.1 h).1
 intro t ht
 rw [List.take_succ_eq_append_getElem hlt,List.mem_append,List.mem_singleton] at ht
 rcases ht with h' | h'
 · exact hno t h'
 · rw [h',(List.getElem?_eq_some_iff.1 h).2];exact hx
set_option maxRecDepth 100000 in
set_option maxHeartbeats 2000000 in
theorem makes14 {b:Nat} {ps:List Uc.Pr} {sp:Nat→List Pq.Sp} {cf:List Cf.Pp} {mk:List (Int×Int×Int)} {w:World} (h:RD w b ps sp cf mk) (hn:mk.length≤1000000) (x y:Int):
 Calls Tryz.prog 14 #[.pointer (some ⟨b,0,none⟩),.int .i64 x,.int .i64 y] w fun e w'=>e=.returned (mkV (findM mk x y))∧w=w':=by
 obtain⟨A1,c1,h1,v1⟩:=h.srcs
 obtain⟨A2,c2,h2,v2⟩:=h.ones
 obtain⟨A3,c3,h3,v3⟩:=h.twos
 obtain⟨n,hnn⟩:∃ n,mk.length=n:=⟨_,rfl⟩
 rw [hnn] at h1 h2 h3 v1 v2 v3 hn
 have HV1:=Lib.hid v1
 have HV2:=Lib.hid v2
 have HV3:=Lib.hid v3
 have HN:=Lib.hid hnn
 clear h v1 v2 v3 hnn
 go_enter Tryz.func14,Tryz.ntmps14
 go_wp2
 go_loopw [8] (fun i wr=>MkI mk x y w i wr) (fun i _=>n-(intOf i).toNat)
 case atStart=>exact⟨0,⟨rfl,Nat.zero_le _⟩,fun t h=>(by simp at h),rfl⟩
 case round=>
  obtain⟨k,⟨rfl,hk⟩,hno,rfl⟩:=hrel
  rw [HN.out] at hk
  by_cases hlt:k<n
  · obtain⟨t,ht⟩:∃ t,mk[k]? = some t:=⟨_,List.getElem?_eq_getElem (by have:=HN.out;omega)⟩
    obtain⟨b1,o1,rfl,-,q1⟩:=HV1.out.2 (by omega)
    obtain⟨b2,o2,rfl,-,q2⟩:=HV2.out.2 (by omega)
    obtain⟨b3,o3,rfl,-,q3⟩:=HV3.out.2 (by omega)
    have k1:w.cell? ⟨b1,o1+k,none⟩=some (.int .i64 t.1):=q1 k _ (by unfold nums;rw [List.map_map,List.getElem?_map,ht];rfl)
    have k2:w.cell? ⟨b2,o2+k,none⟩=some (.int .i64 t.2.1):=q2 k _ (by unfold nums;rw [List.map_map,List.getElem?_map,ht];rfl)
    have k3:w.cell? ⟨b3,o3+k,none⟩=some (.int .i64 t.2.2):=q3 k _ (by unfold nums;rw [List.map_map,List.getElem?_map,ht];rfl)
    by_cases g1:t.2.1=x
    · by_cases g2:t.2.2=y
      · have HF:=Lib.hid (findM_at ht ⟨g1,g2⟩ hno)
        have e1:(t.2.1==x)=true:=by rw [beq_iff_eq];exact g1
        have e2:(t.2.2==y)=true:=by rw [beq_iff_eq];exact g2
        clear q1 q2 q3 ht hno
        go_wp2
        refine bodyPost_ret (v:=.tuple #[.int .i64 t.1,.bool true]) (by simp [results,Tryz.results14,go_sem]) rfl ?_
        rw [HF.out]
        exact⟨rfl,rfl⟩
      · have HF:=Lib.hid (mk_more ht (fun h=>g2 h.2) hno)
        have e1:(t.2.1==x)=true:=by rw [beq_iff_eq];exact g1
        have e2:(t.2.2==y)=false:=beq_false_of_ne g2
        clear q1 q2 q3 ht hno
        go_wp2
        go_roundw
        case rel=>exact⟨k+1,⟨by go_num,by rw [HN.out];omega⟩,HF.out,rfl⟩
        case measure=>simp [intOf];omega
    · have HF:=Lib.hid (mk_more ht (fun h=>g1 h.1) hno)
      have e1:(t.2.1==x)=false:=beq_false_of_ne g1
      clear q1 q2 q3 ht hno
      go_wp2
      go_roundw
      case rel=>exact⟨k+1,⟨by go_num,by rw [HN.out];omega⟩,HF.out,rfl⟩
      case measure=>simp [intOf];omega
  · have HF:Hid (findM mk x y=none):=Lib.hid (findM_none (by rw [List.take_of_length_le (by rw [HN.out];omega)] at hno;exact hno))
    have hke:k=n:=by omega
    subst hke
    clear hno
    go_wp2
    refine bodyPost_ret (v:=.tuple #[.int .i64 0,.bool false]) (by simp [results,Tryz.results14,go_sem]) rfl ?_
    rw [HF.out]
    exact⟨rfl,rfl⟩
end Go.Proofs.YtmellioacefjjaaGreatDoor
namespace Go.Proofs.YtmellioacefjjaaGreatDoor.Uc
open Go.RowKit
def TIn (w:World) (p A:Option Addr) (c:Nat) (ls:List Rw):Prop:=
 (p=none∧ls = []∧A=none∧c=0)∨∃ b,p=some ⟨b,0,none⟩∧b<w.heap.size∧w.cell? ⟨b,0,none⟩=some (.slice A ls.length c)∧RAt w A ls.length ls
theorem TIn.below {w w':World} {p A:Option Addr} {c:Nat} {ls:List Rw} (h:TIn w p A c ls) (hb:Below w.heap.size w w'):TIn w' p A c ls:=by
 rcases h with h | ⟨b,rfl,hlt,hc,hS⟩
 · exact .inl h
 · exact .inr ⟨b,rfl,Nat.lt_of_lt_of_le hlt hb.size,(hb.cell (p:=⟨b,0,none⟩) hlt).trans hc,hS.below hb⟩
theorem TIn.rat {w:World} {p A:Option Addr} {c:Nat} {ls:List Rw} (h:TIn w p A c ls):RAt w A ls.length ls:=by
 rcases h with ⟨_,rfl,_,_⟩ | ⟨b,rfl,hlt,hc,hS⟩
 · exact RAt.nil w A
 · exact hS
set_option maxRecDepth 100000 in
set_option maxHeartbeats 1000000 in
theorem list24 (p A:Option Addr) (c:Nat) (ls:List Rw) (w:World) (hT:TIn w p A c ls):
 Calls Tryz.prog 52 #[.pointer p] w fun e w'=>e=.returned (.slice A ls.length c)∧w=w':=by
 rcases hT with ⟨rfl,rfl,rfl,rfl⟩ | ⟨b,rfl,hlt,hc,hS⟩
 · go_enter Tryz.func52,Tryz.ntmps52
   go_wp2
   go_ret
   exact⟨rfl,rfl⟩
 · clear hS
   go_enter Tryz.func52,Tryz.ntmps52
   go_wp2
   go_ret
   exact⟨rfl,rfl⟩
theorem below_store {w w1:World} {a b d:Int} {c e f:Value} (o:Obj) (h:Below w.heap.size w (w.alloc o)) (h1:Below (w.alloc o).heap.size (w.alloc o) w1):
 Below w.heap.size w ((((((w1.setCell ⟨w.heap.size,0,none⟩ (.int .i64 a)).setCell ⟨w.heap.size,1,none⟩ (.int .i64 b)).setCell ⟨w.heap.size,2,none⟩ c).setCell ⟨w.heap.size,3,none⟩ (.int .i64 d)).setCell ⟨w.heap.size,4,none⟩ e).setCell ⟨w.heap.size,5,none⟩ f):=
 below_six a b d (h.trans (h1.mono h.size))
theorem six_box {w w1:World} {v0 v1 v2 v3 v4 v5:Value} {t:TypeId} (h:Below (w.alloc (.cells #[v0,v1,v2,v3,v4,v5] t)).heap.size (w.alloc (.cells #[v0,v1,v2,v3,v4,v5] t)) w1):
 (w1.cell? ⟨w.heap.size,0,none⟩=some v0∧w1.cell? ⟨w.heap.size,1,none⟩=some v1∧w1.cell? ⟨w.heap.size,2,none⟩=some v2∧w1.cell? ⟨w.heap.size,3,none⟩=some v3∧w1.cell? ⟨w.heap.size,4,none⟩=some v4∧w1.cell? ⟨w.heap.size,5,none⟩=some v5) ∧
 ∀ i,w1.frozen? ⟨w.heap.size,i,none⟩=false:=by
 have hl:w.heap.size<(w.alloc (.cells #[v0,v1,v2,v3,v4,v5] t)).heap.size:=by simp
 refine⟨⟨(h.cell (p:=⟨w.heap.size,0,none⟩) hl).trans (by simp),(h.cell (p:=⟨w.heap.size,1,none⟩) hl).trans (by simp),(h.cell (p:=⟨w.heap.size,2,none⟩) hl).trans (by simp),(h.cell (p:=⟨w.heap.size,3,none⟩) hl).trans (by simp),(h.cell (p:=⟨w.heap.size,4,none⟩) hl).trans (by simp),(h.cell (p:=⟨w.heap.size,5,none⟩) hl).trans (by simp)⟩,fun i=>(h.frozen (p:=⟨w.heap.size,i,none⟩) hl).trans ?_⟩
 have h2:=World.alloc_heap_new w (.cells #[v0,v1,v2,v3,v4,v5] t)
 simp only [World.frozen?]
 rw [h2]
 simp
set_option maxRecDepth 100000 in
set_option maxHeartbeats 4000000 in
theorem row27 (p A:Option Addr) (c:Nat) (ls:List Rw) (z:Int) (w:World) (hT:TIn w p A c ls) (hn:ls.length≤100000) (hr:Rises ls):
 Calls Tryz.prog 40 #[.pointer p,.int .i64 z] w fun e w'=>e=.returned (rwV (atOf ls z))∧Below w.heap.size w w':=by
 have hb0:Below w.heap.size w (w.alloc (.cells #[.int .i64 0,.int .i64 0,.string ⟨#[]⟩,.int .i64 0,.string ⟨#[]⟩,.slice none 0 0] 33)):=(Below.refl _ _).alloc (Nat.le_refl _) _
 have c24:=list24 p A c ls _ (hT.below hb0)
 have c43:=bin43 A ls.length c ls z _ (hT.below hb0).rat hn hr
 unfold BinPost at c43
 have HB:=Lib.hid hb0
 clear hb0
 cases hfo:foundAt ls z
 · have HV:=Lib.hid (at_lost hr hfo)
   rw [hfo] at c43
   clear hT hr hfo
   go_enter Tryz.func40,Tryz.ntmps40
   go_wp2_with (first
    | (go_at_call 52;(with_reducible refine c24.mono ?_);rintro e w1 ⟨rfl,rfl⟩)
    | (go_at_call 63;(with_reducible refine c43.mono ?_);rintro e w1 ⟨rfl,hb1⟩;have HB1:=Lib.hid hb1;obtain⟨⟨e0,e1,e2,e3,e4,e5⟩,ef⟩:=six_box hb1;clear hb1))
   exact bodyPost_ret (v:=rwV rw0) (by simp [results,Tryz.results40,go_sem,e0,e1,e2,e3,e4,e5,rwV,rw0,bs_nil]) rfl ⟨by rw [HV.out],below_store _ HB.out HB1.out⟩
 · obtain⟨s,hs,hm⟩:=found_some hfo
   have HV:=Lib.hid (at_found hs hm)
   rw [hfo] at c43
   have hkl:=(List.getElem?_eq_some_iff.1 hs).1
   obtain⟨b2,off,rfl,hb2,hcc⟩:=hT.rat.2 (by omega)
   obtain⟨h1,h2,h3,h4,h5,h6⟩:=hcc _ s hs
   obtain⟨K,hK⟩:∃ K,placeOf ls z=K:=⟨_,rfl⟩
   rw [hK] at c43 h1 h2 h3 h4 h5 h6 hkl
   obtain⟨T,hT'⟩:∃ T,bs s.gc=T:=⟨_,rfl⟩
   obtain⟨U,hU⟩:∃ U,bs s.bd=U:=⟨_,rfl⟩
   have HT:=Lib.hid hT'
   have HU:=Lib.hid hU
   rw [hT'] at h3
   rw [hU] at h5
   obtain⟨N,hN⟩:∃ N,ls.length=N:=⟨_,rfl⟩
   rw [hN] at c24 c43 hkl hn
   clear hr hfo hs hm hcc hK hT' hU hT hN
   go_enter Tryz.func40,Tryz.ntmps40
   go_wp2_with (first
    | (go_at_call 52;(with_reducible refine c24.mono ?_);rintro e w1 ⟨rfl,rfl⟩)
    | (go_at_call 63;(with_reducible refine c43.mono ?_);rintro e w1 ⟨rfl,hb1⟩;have HB1:=Lib.hid hb1;obtain⟨⟨e0,e1,e2,e3,e4,e5⟩,ef⟩:=six_box hb1;have k1:=(HB1.out.cell (p:=⟨b2,off+K*6,none⟩) (by show b2<_;simp;omega)).trans ((HB.out.cell (p:=⟨b2,off+K*6,none⟩) hb2).trans h1);have k2:=(HB1.out.cell (p:=⟨b2,off+K*6+1,none⟩) (by show b2<_;simp;omega)).trans ((HB.out.cell (p:=⟨b2,off+K*6+1,none⟩) hb2).trans h2);have k3:=(HB1.out.cell (p:=⟨b2,off+K*6+2,none⟩) (by show b2<_;simp;omega)).trans ((HB.out.cell (p:=⟨b2,off+K*6+2,none⟩) hb2).trans h3);have k4:=(HB1.out.cell (p:=⟨b2,off+K*6+3,none⟩) (by show b2<_;simp;omega)).trans ((HB.out.cell (p:=⟨b2,off+K*6+3,none⟩) hb2).trans h4);have k5:=(HB1.out.cell (p:=⟨b2,off+K*6+4,none⟩) (by show b2<_;simp;omega)).trans ((HB.out.cell (p:=⟨b2,off+K*6+4,none⟩) hb2).trans h5);have k6:=(HB1.out.cell (p:=⟨b2,off+K*6+5,none⟩) (by show b2<_;simp;omega)).trans ((HB.out.cell (p:=⟨b2,off+K*6+5,none⟩) hb2).trans h6);clear hb1))
   exact bodyPost_ret (v:=rwV s) (by simp [results,Tryz.results40,go_sem,e0,e1,e2,e3,e4,e5,rwV,HT.out,HU.out]) rfl ⟨by rw [HV.out],below_store _ HB.out HB1.out⟩
theorem field2 (s:Rw) (W:World):(Instr.field 33 (rwV s) 2).run Tryz.prog W=.ok (.string (bs s.gc)) W:=by kernel_rfl
theorem field3 (s:Rw) (W:World):(Instr.field 33 (rwV s) 3).run Tryz.prog W=.ok (.int .i64 s.ccc) W:=by kernel_rfl
set_option maxRecDepth 100000 in
set_option maxHeartbeats 1000000 in
theorem gc14 (p A:Option Addr) (c:Nat) (ls:List Rw) (z:Int) (w:World) (hT:TIn w p A c ls) (hn:ls.length≤100000) (hr:Rises ls):
 Calls Tryz.prog 16 #[.pointer p,.int .i64 z] w fun e w'=>e=.returned (.string (bs (atOf ls z).gc))∧Below w.heap.size w w':=by
 have c27:=row27 p A c ls z w hT hn hr
 unfold rwV at c27
 clear hT hr
 have hfd:∀ W:World,_:=fun W=>field2 (atOf ls z) W
 unfold rwV at hfd
 go_enter Tryz.func16,Tryz.ntmps16
 go_wp2_with (go_at_call 40;(with_reducible refine c27.mono ?_);rintro e w1 ⟨rfl,hb1⟩)
 go_ret
 exact⟨rfl,hb1⟩
set_option maxRecDepth 100000 in
set_option maxHeartbeats 1000000 in
theorem ccc15 (p A:Option Addr) (c:Nat) (ls:List Rw) (z:Int) (w:World) (hT:TIn w p A c ls) (hn:ls.length≤100000) (hr:Rises ls):
 Calls Tryz.prog 32 #[.pointer p,.int .i64 z] w fun e w'=>e=.returned (.int .i64 (atOf ls z).ccc)∧Below w.heap.size w w':=by
 have c27:=row27 p A c ls z w hT hn hr
 unfold rwV at c27
 clear hT hr
 have hfd:∀ W:World,_:=fun W=>field3 (atOf ls z) W
 unfold rwV at hfd
 go_enter Tryz.func32,Tryz.ntmps32
 go_wp2_with (go_at_call 40;(with_reducible refine c27.mono ?_);rintro e w1 ⟨rfl,hb1⟩)
 go_ret
 exact⟨rfl,hb1⟩
end Go.Proofs.YtmellioacefjjaaGreatDoor.Uc
namespace Go.Proofs.YtmellioacefjjaaGreatDoor
open Go.RowKit
attribute [local go_sem] Oper.semAt_some
def RpR (cf:List Cf.Pp) (c:Int) (w:World) (e:Ending) (w':World):Prop:=
 w'=w∧((Cf.findC cf c<0∧e=.returned (.slice none 0 0))∨∃ r A k,cf[(Cf.findC cf c).toNat]? = some r∧0≤Cf.findC cf c∧e=.returned (.slice A r.p.length k)∧Vals w A r.p.length (nums .i64 r.p))
set_option maxHeartbeats 1000000 in
theorem proto12 {b:Nat} {ps:List Uc.Pr} {sp:Nat→List Pq.Sp} {cf:List Cf.Pp} {mk:List (Int×Int×Int)} {w:World} (h:RD w b ps sp cf mk) (hn:cf.length≤100000) (c:Int):
 Calls Tryz.prog 12 #[.pointer (some ⟨b,0,none⟩),.int .i64 c] w (RpR cf c w):=by
 obtain⟨A,ca,qs,h1,hP,hI⟩:=h.conf
 have c38:=Cf.find11 A cf.length ca qs cf c w hP hI hn
 by_cases hf:Cf.findC cf c<0
 · have HF:=Lib.hid hf
   have hd:decide (Cf.findC cf c<0)=true:=decide_eq_true hf
   obtain⟨f,hff⟩:∃ f,Cf.findC cf c=f:=⟨_,rfl⟩
   obtain⟨n,hnn⟩:∃ n,cf.length=n:=⟨_,rfl⟩
   rw [hff] at c38 hd
   rw [hnn] at c38 h1
   clear h hP hI hf hff hnn
   go_enter Tryz.func12,Tryz.ntmps12
   go_wp2_with (go_at_call 39;(with_reducible refine c38.mono ?_);rintro e w1 ⟨rfl,rfl⟩)
   go_ret
   exact⟨rfl,.inl ⟨HF.out,rfl⟩⟩
 · have hlt:=Cf.find_lt cf c
   obtain⟨j,hj⟩:∃ j:Nat,Cf.findC cf c=(j:Int):=⟨(Cf.findC cf c).toNat,by omega⟩
   obtain⟨q,hq⟩:∃ q,qs[j]? = some q:=⟨_,List.getElem?_eq_getElem (by have:=hI.len;omega)⟩
   obtain⟨r,hr,hqr⟩:=hI.get hq
   have hjn:j<cf.length:=by omega
   obtain⟨b2,off,rfl,hb2,hc⟩:=hP.2 (by omega)
   have k1:w.cell? ⟨b2,off+j*2+1,none⟩=some (.slice q.A q.n q.cap):=(hc j q hq).2
   have HE:Hid (RpR cf c w (.returned (.slice q.A q.n q.cap)) w):=Lib.hid ⟨rfl,.inr ⟨r,q.A,q.cap,by rw [hj];simpa using hr,by omega,by rw [hqr.2.1],by have:=hqr.2.2;rwa [hqr.2.1] at this⟩⟩
   have hd:decide ((j:Int)<0)=false:=decide_eq_false (by omega)
   obtain⟨n,hnn⟩:∃ n,cf.length=n:=⟨_,rfl⟩
   obtain⟨qA,hqA⟩:∃ n,q.A=n:=⟨_,rfl⟩
   obtain⟨qn,hqn⟩:∃ n,q.n=n:=⟨_,rfl⟩
   obtain⟨qc,hqc⟩:∃ n,q.cap=n:=⟨_,rfl⟩
   rw [hqA,hqn,hqc] at k1 HE
   rw [hj] at c38
   rw [hnn] at c38 h1 hjn
   clear h hP hI hf hc hq hr hqr hj hlt hnn hqA hqn hqc
   go_enter Tryz.func12,Tryz.ntmps12
   go_wp2_with (go_at_call 39;(with_reducible refine c38.mono ?_);rintro e w1 ⟨rfl,rfl⟩)
   go_ret
   exact HE.out
set_option maxHeartbeats 1000000 in
theorem row10 {b:Nat} {ps:List Uc.Pr} {sp:Nat→List Pq.Sp} {cf:List Cf.Pp} {mk:List (Int×Int×Int)} {w:World} (h:RD w b ps sp cf mk) (hn:ps.length≤1000000) (c:Int):
 Calls Tryz.prog 10 #[.pointer (some ⟨b,0,none⟩),.int .i64 c] w fun e w'=>∃ s:Uc.Rw,e=.returned (Uc.rwV s)∧Hid (s.gc=(Uc.patOf ps c).gc∧Below w.heap.size w w'):=by
 obtain⟨A,ca,ls,h1,hR⟩:=h.rows
 have hl:=hR.2.len
 have hb0:Below w.heap.size w (w.alloc (.cells #[.int .i64 0,.int .i64 0,.string ⟨#[]⟩,.int .i64 0,.string ⟨#[]⟩,.slice none 0 0] 33)):=(Below.refl _ _).alloc (Nat.le_refl _) _
 have c36:=Uc.at13 A ls.length ca ls c _ (hR.1.below hb0) (by omega)
 have HG:=Lib.hid (Uc.ist_at c hR.2).2.2.1
 have h1':(w.alloc (.cells #[.int .i64 0,.int .i64 0,.string ⟨#[]⟩,.int .i64 0,.string ⟨#[]⟩,.slice none 0 0] 33)).cell? ⟨b,0,none⟩=some (.slice A ls.length ca):=(hb0.cell (p:=⟨b,0,none⟩) (World.block_lt_of_cell? w _ h1)).trans h1
 have hbl:b<w.heap.size:=World.block_lt_of_cell? w _ h1
 obtain⟨s,hs⟩:∃ s,Uc.atOf ls c=s:=⟨_,rfl⟩
 rw [hs] at c36 HG
 obtain⟨T,hT⟩:∃ T,bs s.gc=T:=⟨_,rfl⟩
 obtain⟨U,hU⟩:∃ T,bs s.bd=T:=⟨_,rfl⟩
 have HS:Hid (Uc.rwV s=.agg #[.int .i64 s.a,.int .i64 s.b,.string T,.int .i64 s.ccc,.string U,.slice s.dp s.dm s.dc]):=Lib.hid (by unfold Uc.rwV;rw [hT,hU])
 unfold Uc.rwV at c36
 rw [hT,hU] at c36
 have HB0:=Lib.hid hb0
 obtain⟨n,hnn⟩:∃ n,ls.length=n:=⟨_,rfl⟩
 rw [hnn] at c36 h1 h1'
 have hfr:∀ i,(w.alloc (.cells #[.int .i64 0,.int .i64 0,.string ⟨#[]⟩,.int .i64 0,.string ⟨#[]⟩,.slice none 0 0] 33)).frozen? ⟨w.heap.size,i,none⟩=false:=fun i=>frozen_new w _ _ i
 have HFR:=Lib.hid hfr
 clear h hR hl hb0 hs hT hU hnn hfr
 go_enter Tryz.func10,Tryz.ntmps10
 go_wp2_with (go_at_call 36;(with_reducible refine c36.mono ?_);rintro e w1 ⟨rfl,hb1⟩;obtain⟨⟨e0,e1,e2,e3,e4,e5⟩,ef⟩:=Uc.six_box hb1)
 refine bodyPost_ret (v:=.agg #[.int .i64 s.a,.int .i64 s.b,.string T,.int .i64 s.ccc,.string U,.slice s.dp s.dm s.dc]) (by simp [results,Tryz.results10,go_sem,e0,e1,e2,e3,e4,e5]) rfl ?_
 exact⟨s,by rw [HS.out],Lib.hid ⟨HG.out,Uc.below_six _ _ _ (HB0.out.trans (hb1.mono HB0.out.size))⟩⟩
def valsOf:Nat→List (List UInt8)
 | 2=>[[70,117,108,108,95,67,111,109,112,111,115,105,116,105,111,110,95,69,120,99,108,117,115,105,111,110]]
 | 3=>[[68,101,102,97,117,108,116,95,73,103,110,111,114,97,98,108,101,95,67,111,100,101,95,80,111,105,110,116]]
 | 4=>[[80,86,65,76,73,68],[67,79,78,84,69,88,84,74],[67,79,78,84,69,88,84,79],[68,73,83,65,76,76,79,87,69,68],[85,78,65,83,83,73,71,78,69,68]]
 | _=>[]
theorem vals_lit (w:World) (us:List Value) (e:TypeId):Vals (w.alloc (.cells us.toArray e)) (some ⟨w.heap.size,0,none⟩) us.length us:=
 ⟨rfl,fun _=>⟨w.heap.size,0,rfl,by simp,fun j u hj=>by
  have:=lit_cells w us e j u hj
  rwa [add_at] at this⟩⟩
def ValPost (i:Nat) (w:World) (e:Ending) (w':World):Prop:=∃ A c,e=.returned (.slice A (valsOf i).length c)∧Hid (Below w.heap.size w w'∧Vals w' A (valsOf i).length (strs (valsOf i)))
set_option maxHeartbeats 1000000 in
theorem values54 (i:Nat) (hi:i≤1000) (w:World):Calls Tryz.prog 57 #[.int .i64 (i:Nat)] w (ValPost i w):=by
 have hb0:∀ o,Below w.heap.size w (w.alloc o):=fun o=>(Below.refl _ _).alloc (Nat.le_refl _) o
 by_cases h2:i=2
 · subst h2
   go_enter Tryz.func57,Tryz.ntmps57
   go_wp2
   go_ret
   exact⟨_,_,rfl,Lib.hid ⟨hb0 _,vals_lit w (strs (valsOf 2)) 9⟩⟩
 by_cases h3:i=3
 · subst h3
   go_enter Tryz.func57,Tryz.ntmps57
   go_wp2
   go_ret
   exact⟨_,_,rfl,Lib.hid ⟨hb0 _,vals_lit w (strs (valsOf 3)) 9⟩⟩
 by_cases h4:i=4
 · subst h4
   go_enter Tryz.func57,Tryz.ntmps57
   go_wp2
   go_ret
   exact⟨_,_,rfl,Lib.hid ⟨hb0 _,vals_lit w (strs (valsOf 4)) 9⟩⟩
 · have e:valsOf i = []:=by
    match i,h2,h3,h4 with
    | 0,_,_,_=>rfl
    | 1,_,_,_=>rfl
    | 2,h,_,_=>exact absurd rfl h
    | 3,_,h,_=>exact absurd rfl h
    | 4,_,_,h=>exact absurd rfl h
    | n+5,_,_,_=>rfl
   unfold ValPost
   rw [e]
   have e2:((i:Int)==2)=false:=beq_false_of_ne (by omega)
   have e3:((i:Int)==3)=false:=beq_false_of_ne (by omega)
   have e4:((i:Int)==4)=false:=beq_false_of_ne (by omega)
   clear e
   go_enter Tryz.func57,Tryz.ntmps57
   go_wp2
   go_ret
   exact⟨_,_,rfl,Lib.hid ⟨Below.refl _ _,Vals.nil _ _⟩⟩
end Go.Proofs.YtmellioacefjjaaGreatDoor
namespace Go.Proofs.YtmellioacefjjaaGreatDoor.Pq
open Go.RowKit
def pfld (f:List (List UInt8)) (k:Nat):List UInt8:=f.getD k []
structure PRes where
 rows:List Sp
 err:Int
 num:Int
def amongB (vs:List (List UInt8)) (v:List UInt8):Bool:=decide (vs.length=0)||decide (v∈vs)
def spOf (f:List (List UInt8)):Sp:=⟨(rangeOf (pfld f 0)).1,(rangeOf (pfld f 0)).2.1,pfld f 1⟩
def lineErr (f:List (List UInt8)):Int:=if f.length<2 then 12 else if ¬(rangeOf (pfld f 0)).2.2=0 then (rangeOf (pfld f 0)).2.2 else if pfld f 1 = [] then 16 else 0
def propP (vs:List (List UInt8)):List Sp→List Ln→PRes
 | out,[]=>⟨out,0,0⟩
 | out,x::t=>
  if ¬lineErr x.2=0 then ⟨[],lineErr x.2,x.1⟩ else
  if amongB vs (pfld x.2 1)=false then propP vs out t else
  if ¬check out (spOf x.2)=0 then ⟨[],check out (spOf x.2),x.1⟩ else propP vs (out ++ [spOf x.2]) t
def propOf (vs:List (List UInt8)) (l:List Ln):PRes:=propP vs [] l
theorem prp_err {vs:List (List UInt8)} {out:List Sp} {x:Ln} {t:List Ln} (h:¬lineErr x.2=0):propP vs out (x::t)=⟨[],lineErr x.2,x.1⟩:=by rw [propP,if_pos h]
theorem prp_skip {vs:List (List UInt8)} {out:List Sp} {x:Ln} {t:List Ln} (h:lineErr x.2=0) (ha:amongB vs (pfld x.2 1)=false):propP vs out (x::t)=propP vs out t:=by rw [propP,if_neg (by simpa using h),if_pos ha]
theorem prp_bad {vs:List (List UInt8)} {out:List Sp} {x:Ln} {t:List Ln} (h:lineErr x.2=0) (ha:amongB vs (pfld x.2 1)=true) (hc:¬check out (spOf x.2)=0):propP vs out (x::t)=⟨[],check out (spOf x.2),x.1⟩:=by
 rw [propP,if_neg (by simpa using h),if_neg (by rw [ha];simp),if_pos hc]
theorem prp_add {vs:List (List UInt8)} {out:List Sp} {x:Ln} {t:List Ln} (h:lineErr x.2=0) (ha:amongB vs (pfld x.2 1)=true) (hc:check out (spOf x.2)=0):propP vs out (x::t)=propP vs (out ++ [spOf x.2]) t:=by
 rw [propP,if_neg (by simpa using h),if_neg (by rw [ha];simp),if_neg (by simpa using hc)]
theorem line_few {f:List (List UInt8)} (h:f.length<2):lineErr f=12:=by unfold lineErr;rw [if_pos h]
theorem line_rng {f:List (List UInt8)} (h:¬f.length<2) (hr:¬(rangeOf (pfld f 0)).2.2=0):lineErr f=(rangeOf (pfld f 0)).2.2:=by unfold lineErr;rw [if_neg h,if_pos hr]
theorem line_emp {f:List (List UInt8)} (h:¬f.length<2) (hr:(rangeOf (pfld f 0)).2.2=0) (hv:pfld f 1 = []):lineErr f=16:=by unfold lineErr;rw [if_neg h,if_neg (by simpa using hr),if_pos hv]
theorem line_ok {f:List (List UInt8)} (h:¬f.length<2) (hr:(rangeOf (pfld f 0)).2.2=0) (hv:¬pfld f 1 = []):lineErr f=0:=by unfold lineErr;rw [if_neg h,if_neg (by simpa using hr),if_neg hv]
def amTo (vs:List (List UInt8)) (v:List UInt8) (j:Nat):Bool:=decide (vs.length=0)||decide (v∈vs.take j)
theorem am_zero (vs:List (List UInt8)) (v:List UInt8):amTo vs v 0=decide (vs.length=0):=by simp [amTo]
theorem am_all (vs:List (List UInt8)) (v:List UInt8):amTo vs v vs.length=amongB vs v:=by unfold amTo amongB;rw [List.take_length]
theorem am_snoc {vs:List (List UInt8)} {v u:List UInt8} {j:Nat} (h:vs[j]? = some u):amTo vs v (j+1)=(amTo vs v j||decide (u=v)):=by
 have hj:=(List.getElem?_eq_some_iff.1 h).1
 unfold amTo
 rw [List.take_succ_eq_append_getElem hj,Bool.or_assoc]
 congr 1
 have e:vs[j]=u:=(List.getElem?_eq_some_iff.1 h).2
 rw [e,Bool.eq_iff_iff]
 simp only [List.mem_append,List.mem_singleton,decide_eq_true_eq,Bool.or_eq_true]
 exact or_congr Iff.rfl eq_comm
theorem prp_len:∀ (vs:List (List UInt8)) (l:List Ln) (out:List Sp),(propP vs out l).rows.length≤out.length+l.length
 | _,[],out=>by rw [propP];simp
 | vs,x::t,out=>by
  rw [propP]
  split
  · simp
  split
  · have:=prp_len vs t out;simp at this ⊢;omega
  split
  · simp
  · have:=prp_len vs t (out ++ [spOf x.2]);simp at this ⊢;omega
theorem flds2 {w:World} {F:Option Addr} {f:List (List UInt8)} {n:Nat} (h:Vals w F n (strs f)) (hn:¬f.length<2):∃ b off,F=some ⟨b,off,none⟩∧b<w.heap.size∧w.cell? ⟨b,off,none⟩=some (.string (bs (pfld f 0)))∧w.cell? ⟨b,off+1,none⟩=some (.string (bs (pfld f 1))):=by
 have hl:f.length=n:=by have:=h.1;rwa [strs_length] at this
 obtain⟨b,off,rfl,hlt,hc⟩:=h.2 (by omega)
 exact⟨b,off,rfl,hlt,hc 0 _ (strs_get (by omega)),hc 1 _ (strs_get (by omega))⟩
theorem spvs_at:∀ {ls:List Sp} {j:Nat} {u:Value},(spvs ls)[j]? = some u→∃ q s,ls[q]? = some s∧((j=q*3∧u=.int .i64 s.a)∨(j=q*3+1∧u=.int .i64 s.b)∨(j=q*3+2∧u=.string (bs s.v)))
 | [],j,u,h=>by simp [spvs] at h
 | s::ls,0,u,h=>by rw [spvs_cons] at h;simp at h;exact⟨0,s,rfl,.inl ⟨rfl,h.symm⟩⟩
 | s::ls,1,u,h=>by rw [spvs_cons] at h;simp at h;exact⟨0,s,rfl,.inr (.inl ⟨rfl,h.symm⟩)⟩
 | s::ls,2,u,h=>by rw [spvs_cons] at h;simp at h;exact⟨0,s,rfl,.inr (.inr ⟨rfl,h.symm⟩)⟩
 | s::ls,j+3,u,h=>by
  rw [spvs_cons] at h
  obtain⟨q,t,hq,ht⟩:=spvs_at (ls:=ls) (j:=j) (u:=u) (by simpa using h)
  refine⟨q+1,t,by simpa using hq,?_⟩
  rcases ht with ⟨rfl,e⟩ | ⟨rfl,e⟩ | ⟨rfl,e⟩
  · exact .inl ⟨by omega,e⟩
  · exact .inr (.inl ⟨by omega,e⟩)
  · exact .inr (.inr ⟨by omega,e⟩)
theorem add_off (b off j:Nat):(⟨b,off,none⟩:Addr).add j=⟨b,off+j,none⟩:=by unfold Addr.add;split <;> simp_all
theorem sat_cells {w:World} {ad:Addr} {m:Nat} {ls:List Sp} (h:SAt w (some ad) m ls):∀ j u,(spvs ls)[j]? = some u→w.cell? (ad.add j)=some u:=by
 intro j u hu
 obtain⟨q,s,hq,hs⟩:=spvs_at hu
 have hlt:=(List.getElem?_eq_some_iff.1 hq).1
 obtain⟨b,off,e,_,hc⟩:=h.2 (by have:=h.1;omega)
 obtain rfl:ad=⟨b,off,none⟩:=by injection e
 obtain⟨h1,h2,h3⟩:=hc q s hq
 rw [add_off]
 rcases hs with ⟨rfl,rfl⟩ | ⟨rfl,rfl⟩ | ⟨rfl,rfl⟩
 · exact h1
 · exact h2
 · exact h3
theorem append_spans {P:Program} {w:World} {ops:Array Oper} {rest:List Oper} {o:Oper} {a:Act} {Q:Exit→Act→World→Prop} (hgd:o.guard=none) (s x:Operand) (t:TypeId)
 (ho:o.op=.call { callee:=.builtin .append,args:=#[s,x],argTypes:=#[t,t] })
 (base:Nat) (e:TypeId) (i:TypeInfo) (z:Value) (bytes:Nat) (ht:P.underlying t=some (.slice e)) (hi:P.info? e=some i) (hz:i.zero=some z)
 (hsize:i.size=3) (hby:i.bytes=bytes) (hzs:z.cells.size=3)
 (v:Value) (n:Nat) (xs:List Value) (hs:a.eval s=v) (hown:w.ownsRow base e 3 v n xs)
 (A:Option Addr) (m c:Nat) (ls:List Sp) (hx:a.eval x=.slice A m c) (hN:SAt w A m ls) (hA:A=none→c=0)
 (h63:n+m≤maxLen) (hbytes:(n+m)*bytes≤140737488355328) (hbase:base≤w.heap.size)
 (h:∀ v' w',w'.ownsRow base e 3 v' (n+m) (xs++spvs ls)→w.grownBy w' v.ownBlock→wpList P ops Q rest (a.put o.dst v') w'):wpList P ops Q (o::rest) a w:=by
 cases A with
 | none=>
  have hm:m=0:=by
   rcases Nat.eq_zero_or_pos m with h0 | h0
   · exact h0
   · obtain⟨b,off,e,_⟩:=hN.2 h0
     cases e
  subst hm
  have hc:=hA rfl
  subst hc
  obtain rfl:ls = []:=List.eq_nil_of_length_eq_zero hN.1
  refine wpList_append_own_none hgd s x t ho base e i 3 ht hi v n xs hs hown hx (h v w ?_ (World.grownBy.refl w _))
  simpa [spvs] using hown
 | some ad=>
  refine wpList_append_own w hgd s x t ho base e i z 3 bytes ht hi hz hsize hby hzs (by decide) v n xs hs hown ad m c (spvs ls) hx (by rw [spvs_length,hN.1]) (sat_cells hN) ?_ h63 hbytes hbase (fun v' w' h1 h2 _=>h v' w' h1 h2)
  intro u hu
  obtain⟨j,hj⟩:=List.mem_iff_getElem?.1 hu
  obtain⟨q,t,_,⟨_,rfl⟩ | ⟨_,rfl⟩ | ⟨_,rfl⟩⟩:=spvs_at hj <;> rfl
theorem SAt.take {w:World} {A:Option Addr} {n k:Nat} {ls:List Sp} (h:SAt w A n ls) (hk:k≤n):SAt w A k (ls.take k):=by
 refine⟨by rw [List.length_take,h.1];omega,fun h0=>?_⟩
 obtain⟨b,off,rfl,hlt,hc⟩:=h.2 (by omega)
 refine⟨b,off,rfl,hlt,fun j s hj=>?_⟩
 rw [List.getElem?_take] at hj
 split at hj
 · exact hc j s hj
 · cases hj
theorem SAt.drop {w:World} {b off n k:Nat} {ls:List Sp} (h:SAt w (some ⟨b,off,none⟩) n ls) (hk:k≤n):SAt w (some ⟨b,off+k*3,none⟩) (n-k) (ls.drop k):=by
 refine⟨by rw [List.length_drop,h.1],fun h0=>?_⟩
 obtain⟨b',off',e,hlt,hc⟩:=h.2 (by omega)
 cases e
 refine⟨b,off+k*3,rfl,hlt,fun j s hj=>?_⟩
 rw [List.getElem?_drop] at hj
 have:=hc (k+j) s hj
 rw [show off+(k+j)*3=off+k*3+j*3 by omega] at this
 exact this
def Low (l:List Sp):Prop:=l.Pairwise fun s t=>s.a≤t.a
theorem ins_low {s:Sp} {l:List Sp} (h:Low l):Low (ins s l):=by
 induction l with
 | nil=>simp [ins,Low]
 | cons x l ih=>
  have hp:=List.pairwise_cons.1 h
  unfold ins
  rw [List.takeWhile_cons,List.dropWhile_cons]
  by_cases hx:x.a≤s.a
  · rw [if_pos (by simpa using hx),if_pos (by simpa using hx),List.cons_append]
    refine List.pairwise_cons.2 ⟨fun t ht=>?_,ih hp.2⟩
    rcases (ins_mem (s:=s) (l:=l)).1 ht with rfl | ht
    · exact hx
    · exact hp.1 t ht
  · rw [if_neg (by simpa using hx),if_neg (by simpa using hx),List.nil_append]
    refine List.pairwise_cons.2 ⟨fun t ht=>?_,h⟩
    rcases List.mem_cons.1 ht with rfl | ht
    · omega
    · have:=hp.1 t ht
      omega
theorem sorted_low (l:List Sp):Low (sorted l):=by
 unfold sorted
 have:∀ (l acc:List Sp),Low acc→Low (l.foldl (fun acc s=>ins s acc) acc):=by
  intro l
  induction l with
  | nil=>intro acc h;exact h
  | cons s l ih=>intro acc h;exact ih _ (ins_low h)
 exact this l [] List.Pairwise.nil
theorem low_take {l:List Sp} {k:Nat} {s:Sp} {x:Int} (h:Low l) (hs:l[k]? = some s) (hx:s.a≤x):∀ t∈l.take (k+1),t.a≤x:=by
 have hlt:=(List.getElem?_eq_some_iff.1 hs).1
 have e:l[k]=s:=(List.getElem?_eq_some_iff.1 hs).2
 intro t ht
 obtain⟨j,hj,rfl⟩:=List.mem_iff_getElem.1 ht
 rw [List.length_take] at hj
 rw [List.getElem_take]
 rcases Nat.lt_or_ge j k with h1 | h1
 · have:=List.pairwise_iff_getElem.1 h j k (by omega) hlt h1
   rw [e] at this
   omega
 · obtain rfl:j=k:=by omega
   rw [e];exact hx
theorem drop_head {l:List Sp} {k:Nat} {s:Sp} {x:Int} (hs:l[k]? = some s) (hx:x<s.a):∀ t,(l.drop k).head? = some t→x<t.a:=by
 intro t ht
 rw [List.head?_drop,hs] at ht
 cases ht
 exact hx
theorem take_sorted {l:List Sp} {k:Nat} {s:Sp} (hs:l[k]? = some s):sorted (l.take (k+1))=ins s (sorted (l.take k)):=by
 have hlt:=(List.getElem?_eq_some_iff.1 hs).1
 have e:l[k]=s:=(List.getElem?_eq_some_iff.1 hs).2
 rw [List.take_succ_eq_append_getElem hlt,e,sorted_snoc]
def selS (vs:List (List UInt8)) (L:List Ln):List Sp:=(L.filter fun x=>amongB vs (pfld x.2 1)).map fun x=>spOf x.2
theorem sel_cons (vs:List (List UInt8)) (x:Ln) (L:List Ln):selS vs (x::L)=if amongB vs (pfld x.2 1)=true then spOf x.2::selS vs L else selS vs L:=by
 unfold selS
 rw [List.filter_cons]
 split <;> rfl
theorem prp_inv:∀ (vs:List (List UInt8)) (L:List Ln) (out:List Sp),(propP vs out L).err=0→(∀ x∈L,lineErr x.2=0)∧came out (selS vs L)=.ok (propP vs out L).rows∧(propP vs out L).num=0
 | vs,[],out,_=>⟨(fun x h=>by cases h),(by rw [propP];rfl),(by rw [propP])⟩
 | vs,x::L,out,h=>by
  by_cases hx:lineErr x.2=0
  · cases ha:amongB vs (pfld x.2 1) with
    | false=>
     rw [prp_skip hx ha] at h ⊢
     obtain⟨h1,h2,h3⟩:=prp_inv vs L out h
     refine⟨fun y hy=>?_,?_,h3⟩
     · rcases List.mem_cons.1 hy with rfl | hy
       · exact hx
       · exact h1 y hy
     · rw [sel_cons,ha,if_neg (by simp)]
       exact h2
    | true=>
     by_cases hc:check out (spOf x.2)=0
     · rw [prp_add hx ha hc] at h ⊢
       obtain⟨h1,h2,h3⟩:=prp_inv vs L _ h
       refine⟨fun y hy=>?_,?_,h3⟩
       · rcases List.mem_cons.1 hy with rfl | hy
         · exact hx
         · exact h1 y hy
       · rw [sel_cons,ha,if_pos rfl,came,if_pos hc]
         exact h2
     · rw [prp_bad hx ha hc] at h
       exact absurd h hc
  · rw [prp_err hx] at h
    exact absurd h hx
end Go.Proofs.YtmellioacefjjaaGreatDoor.Pq
