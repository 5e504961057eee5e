/- A part. -/
import Derived.Test.YtbkgbhlmeeodgaaGreatDoorQc37
import Derived.Shelf.Spec.SlicesInsert
namespace Go.Proofs.YtbkgbhlmeeodgaaGreatDoor
open Go.RowKit
def WfI (x:Int):Prop:=(Lit.int .i64 x).wf=true
theorem wfi_of {x:Int} (h:-1000000000000≤x∧x≤1000000000000):WfI x:=WalkArith.wf_i64 (by omega)
def hiK (k:Int→Int) (H:List Int):Int:=H.foldl (fun m h=>max m (k h)) (-1)
theorem hiK_snoc (k:Int→Int) (H:List Int) (c:Int):hiK k (H ++ [c])=max (hiK k H) (k c):=by unfold hiK;rw [List.foldl_append];rfl
theorem foldl_lt {k:Int→Int} {y:Int}:∀ (H:List Int) (m:Int),H.foldl (fun m h=>max m (k h)) m<y↔m<y∧∀ h∈H,k h<y
 | [],m=>by simp
 | x::H,m=>by
  rw [List.foldl_cons,foldl_lt H]
  constructor
  · rintro⟨h1,h2⟩
    refine⟨by omega,fun h hh=>?_⟩
    rcases List.mem_cons.1 hh with rfl | hh
    · omega
    · exact h2 h hh
  · rintro⟨h1,h2⟩
    have:=h2 x (List.mem_cons_self ..)
    exact⟨by omega,fun h hh=>h2 h (List.mem_cons_of_mem _ hh)⟩
theorem blk_hi {k:Int→Int} {H:List Int} {y:Int} (hy:0≤y):blk k H y=true↔¬hiK k H<y:=by
 unfold hiK
 rw [foldl_lt]
 constructor
 · intro h ⟨_,h2⟩
   obtain⟨x,hx,e⟩:=List.any_eq_true.1 h
   have e:=of_decide_eq_true e
   have:=h2 x hx
   omega
 · intro h
   refine Classical.byContradiction fun hn=>h ⟨by omega,fun x hx=>blk_no hn x hx⟩
def stV (S:St):Int:=match S.p with | none=>-1 | some _=>(S.B.length:Int)
structure CoS (κ:Int→Int) (pr:Int→Int→Option Int) (s:List Int) (k L:Nat) (S:St) (st hi:Int):Prop where
 eq:S=cfold κ pr ⟨[],none,[]⟩ (s.take k)
 cin:Cin κ S
 len:S.all.length=L
 le:L≤k
 st:st=stV S
 hi:hi=hiK κ S.H
 wf:∀ x∈S.all,WfI x
section
variable {κ:Int→Int} {pr:Int→Int→Option Int} {s:List Int} {k L:Nat} {S:St} {st hi c m:Int}
theorem coS_zero:CoS κ pr s 0 0 ⟨[],none,[]⟩ (-1) (-1):=⟨rfl,cin_start,rfl,Nat.le_refl _,rfl,rfl,fun _ h=>by cases h⟩
theorem cfold_snoc (hc:s[k]? = some c):cfold κ pr ⟨[],none,[]⟩ (s.take (k+1))=cst κ pr (cfold κ pr ⟨[],none,[]⟩ (s.take k)) c:=by
 unfold cfold
 rw [List.take_add_one,hc,List.foldl_append]
 rfl
theorem mem_all {x:Int}:x∈S.all↔x∈S.B∨S.p=some x∨x∈S.H:=by
 unfold St.all
 rw [List.mem_append,List.mem_append,Option.mem_toList]
theorem coS_made (hz:∀ q c m,pr q c=some m → κ m=0) (h:CoS κ pr s k L S st hi) (hc:s[k]? = some c) (hm:mdC κ pr S c=some m) (hw:WfI m):CoS κ pr s (k+1) L ⟨S.B,some m,S.H⟩ st hi∧S.all.set S.B.length m=St.all ⟨S.B,some m,S.H⟩∧st=(S.B.length:Int)∧S.B.length<L:=by
 have hp:∃ q,S.p=some q:=by
  unfold mdC at hm
  cases hp:S.p with
  | none=>rw [hp] at hm;cases hm
  | some q=>exact⟨q,rfl⟩
 obtain⟨q,hp⟩:=hp
 have e:cst κ pr S c=⟨S.B,some m,S.H⟩:=cst_made hm
 have ha:St.all ⟨S.B,some m,S.H⟩=S.B++m::S.H:=rfl
 have hb:S.all=S.B++q::S.H:=by unfold St.all;rw [hp];rfl
 refine⟨⟨?_,?_,?_,by have:=h.le;omega,?_,h.hi,fun x hx=>?_⟩,?_,?_,?_⟩
 · rw [cfold_snoc hc,←h.eq,e]
 · rw [←e];exact cin_step hz h.cin c
 · rw [←h.len,ha,hb];simp
 · rw [h.st];unfold stV;rw [hp]
 · rcases mem_all.1 hx with hx | hx | hx
   · exact h.wf x (mem_all.2 (.inl hx))
   · injection hx with hx;rw [←hx];exact hw
   · exact h.wf x (mem_all.2 (.inr (.inr hx)))
 · rw [ha,hb];simp
 · rw [h.st];unfold stV;rw [hp]
 · rw [←h.len,hb];simp
theorem coS_zeroed (hz:∀ q c m,pr q c=some m → κ m=0) (h:CoS κ pr s k L S st hi) (hc:s[k]? = some c) (hm:mdC κ pr S c=none) (h0:κ c=0) (hw:WfI c):CoS κ pr s (k+1) (L+1) ⟨S.all,some c,[]⟩ (L:Int) (-1)∧S.all ++ [c]=St.all ⟨S.all,some c,[]⟩:=by
 have e:cst κ pr S c=⟨S.all,some c,[]⟩:=cst_zero hm h0
 refine⟨⟨?_,?_,?_,by have:=h.le;omega,?_,rfl,fun x hx=>?_⟩,rfl⟩
 · rw [cfold_snoc hc,←h.eq,e]
 · rw [←e];exact cin_step hz h.cin c
 · have:=h.len;simp [St.all] at this ⊢;omega
 · show (L:Int)=(S.all.length:Int);rw [h.len]
 · rcases mem_all.1 hx with hx | hx | hx
   · exact h.wf x hx
   · injection hx with hx;rw [←hx];exact hw
   · cases hx
theorem coS_kept (hz:∀ q c m,pr q c=some m → κ m=0) (h:CoS κ pr s k L S st hi) (hc:s[k]? = some c) (hm:mdC κ pr S c=none) (h0:κ c≠0) (hw:WfI c):CoS κ pr s (k+1) (L+1) ⟨S.B,S.p,S.H ++ [c]⟩ st (max hi (κ c))∧S.all ++ [c]=St.all ⟨S.B,S.p,S.H ++ [c]⟩:=by
 have e:cst κ pr S c=⟨S.B,S.p,S.H ++ [c]⟩:=cst_kept hm h0
 have ha:S.all ++ [c]=St.all ⟨S.B,S.p,S.H ++ [c]⟩:=by simp [St.all]
 refine⟨⟨?_,?_,?_,by have:=h.le;omega,h.st,?_,fun x hx=>?_⟩,ha⟩
 · rw [cfold_snoc hc,←h.eq,e]
 · rw [←e];exact cin_step hz h.cin c
 · rw [←ha,List.length_append,h.len];rfl
 · rw [hiK_snoc,h.hi]
 · rw [←ha] at hx
   rcases List.mem_append.1 hx with hx | hx
   · exact h.wf x hx
   · rw [List.mem_singleton.1 hx];exact hw
theorem coS_try (hk:∀ x,0 ≤ κ x) (h:CoS κ pr s k L S st hi):(st = -1∧mdC κ pr S c=none)∨(st ≠ -1∧¬hi < κ c∧mdC κ pr S c=none)∨(∃ q,st ≠ -1∧hi < κ c∧mdC κ pr S c=pr q c∧S.all[S.B.length]? = some q∧st=(S.B.length:Int)∧S.B.length<L∧WfI q):=by
 cases hp:S.p with
 | none=>exact .inl ⟨by rw [h.st];unfold stV;rw [hp],by unfold mdC;rw [hp];rfl⟩
 | some q=>
  have e1:st=(S.B.length:Int):=by rw [h.st];unfold stV;rw [hp]
  have e2:mdC κ pr S c=if blk κ S.H (κ c)=true then none else pr q c:=by unfold mdC;rw [hp];rfl
  have hb:S.all=S.B++q::S.H:=by unfold St.all;rw [hp];rfl
  by_cases hbl:blk κ S.H (κ c)=true
  · exact .inr (.inl ⟨by omega,by rw [h.hi];exact (blk_hi (hk c)).1 hbl,by rw [e2,if_pos hbl]⟩)
  · refine .inr (.inr ⟨q,by omega,?_,by rw [e2,if_neg hbl],by rw [hb];simp,e1,?_,h.wf q (mem_all.2 (.inr (.inl hp)))⟩)
    · rw [h.hi];exact Classical.byContradiction fun hn=>hbl ((blk_hi (hk c)).2 hn)
    · rw [←h.len,hb];simp
theorem coS_end (h:CoS κ pr s s.length L S st hi):S.all=cmpL κ pr s:=by
 rw [h.eq,List.take_length];rfl
end
section
variable {ps:List Uc.Pr} {ms:List (Int×Int×Int)}
theorem dec_wf (hL:LowR ps) {c x:Int} (hx:x∈dcf ps c):WfI x:=by
 refine wfi_of ?_
 unfold dcf at hx
 obtain⟨d,hd,rfl⟩:=List.mem_map.1 hx
 by_cases hm:(Uc.patOf ps c).dec = []
 · rw [hm] at hd;cases hd
 · obtain⟨m1,-,-⟩:=pat_mem hm
   have:=hL _ m1 d hd
   omega
theorem sparts_wf {c x:Int} (hc:sylB c) (hx:x∈sparts c):WfI x:=by
 have:=(sparts_kor hc hx).2
 exact wfi_of (by omega)
theorem ful_wf (hL:LowR ps):∀ (n:Nat) (c x:Int),WfI c→x∈ful (dcf ps) n c→WfI x
 | 0,c,x,hc,hx=>by
  by_cases hs:sylB c
  · rw [ful_syl hs] at hx;exact sparts_wf hs hx
  · rw [ful,if_neg hs,List.mem_singleton] at hx;rw [hx];exact hc
 | n+1,c,x,hc,hx=>by
  by_cases hs:sylB c
  · rw [ful_syl hs] at hx;exact sparts_wf hs hx
  · by_cases hd:dcf ps c = []
    · rw [ful_nil hs hd,List.mem_singleton] at hx;rw [hx];exact hc
    · rw [ful_more hs hd,List.mem_flatMap] at hx
      obtain⟨y,hy,hxy⟩:=hx
      exact ful_wf hL n y x (dec_wf hL hy) hxy
theorem nfd_wf (hF:Fit ps) (hL:LowR ps) {s:List Int} (hs:∀ x∈s,WfI x):∀ x∈nfd ps s,WfI x:=fun x hx=>by
 obtain⟨c,hc,hx⟩:=List.mem_flatMap.1 (nf_mem hF.ccc hx)
 exact ful_wf hL _ c x (hs c hc) hx
theorem pr_wf (hF:Fit ps) (hM:Mks ps ms) {q c m:Int} (h:prM ms q c=some m):WfI m:=by
 unfold prM at h
 rcases tog_cases q c with ⟨h1,h2,g1,g2,g3,g4⟩ | ⟨h1,h2,g1,g2,g3,g4,g5⟩ | ⟨h1,-⟩
 · rw [if_pos h1,h2] at h
   injection h with h
   exact wfi_of (by omega)
 · rw [if_pos h1,h2] at h
   injection h with h
   exact wfi_of (by omega)
 · rw [if_neg (by rw [h1];exact Bool.false_ne_true)] at h
   have h2:=hM.two _ _ _ h
   have hm:(Uc.patOf ps m).dec ≠ []:=fun e=>by unfold dcf at h2;rw [e] at h2;cases h2
   obtain⟨m1,m2,m3⟩:=pat_mem hm
   refine wfi_of ?_
   obtain⟨f1,f2,f3,-⟩:=hF.good.2 _ m1
   omega
theorem cfold_wf (hp:∀ q c m,prM ms q c=some m→WfI m):∀ (s:List Int) (S:St),(∀ x∈S.all,WfI x)→(∀ x∈s,WfI x)→∀ x∈(cfold (kc ps) (prM ms) S s).all,WfI x
 | [],_,h,_=>h
 | c::s,S,h,hs=>by
  refine cfold_wf hp s (cst (kc ps) (prM ms) S c) (fun x hx=>?_) (fun x hx=>hs x (List.mem_cons_of_mem _ hx))
  cases hm:mdC (kc ps) (prM ms) S c with
  | none=>
   rw [cst_none hm] at hx
   rcases List.mem_append.1 hx with hx | hx
   · exact h x hx
   · rw [List.mem_singleton.1 hx];exact hs c (List.mem_cons_self ..)
  | some m=>
   rw [cst_made hm] at hx
   rcases mem_all.1 hx with hx | hx | hx
   · exact h x (mem_all.2 (.inl hx))
   · injection hx with hx
     rw [←hx]
     unfold mdC at hm
     cases hq:S.p with
     | none=>rw [hq] at hm;cases hm
     | some q=>
      rw [hq] at hm
      have hm:(if blk (kc ps) S.H (kc ps c)=true then none else prM ms q c)=some m:=hm
      split at hm
      · cases hm
      · exact hp _ _ _ hm
   · exact h x (mem_all.2 (.inr (.inr hx)))
theorem nfc_wf (hF:Fit ps) (hM:Mks ps ms) (hL:LowR ps) {s:List Int} (hs:∀ x∈s,WfI x):∀ x∈nfc ps ms s,WfI x:=
 cfold_wf (fun _ _ _ h=>pr_wf hF hM h) _ _ (fun _ h=>by cases h) (nfd_wf hF hL hs)
end
set_option maxRecDepth 100000 in
set_option maxHeartbeats 2000000 in
theorem pair28 (b:Nat) (ms:List (Int×Int×Int)) (x y:Int) (w:World) (h:PM w b ms) (hx:WfI x) (hy:WfI y):
 Calls Tryz.prog 28 #[.pointer (some ⟨b,0,none⟩),.int .i64 x,.int .i64 y] w fun e w'=>e=.returned (mkV (prM ms x y))∧w=w':=by
 have ct:=together11_same x y w
 have cm:=mak13 b ms x y w h hx hy
 unfold TogSame at ct
 unfold prM
 obtain⟨r,hr⟩:∃ r,tog x y=r:=⟨_,rfl⟩
 rw [hr] at ct ⊢
 obtain⟨v,hv⟩:∃ v,findM ms x y=v:=⟨_,rfl⟩
 rw [hv] at cm ⊢
 obtain⟨c,f⟩:=r
 clear h hx hy hr hv
 cases f with
 | true=>
  rw [if_pos rfl]
  unfold mkV
  go_enter Tryz.func28,Tryz.ntmps28
  go_wp2_with (go_at_call 52;(with_reducible refine ct.mono ?_);rintro e w' ⟨rfl,rfl⟩)
  exact bodyPost_ret (v:=.tuple #[.int .i64 c,.bool true]) (by simp [results,Tryz.results28,go_sem]) rfl ⟨rfl,rfl⟩
 | false=>
  rw [if_neg Bool.false_ne_true]
  cases v with
  | none=>
   unfold mkV at cm ⊢
   go_enter Tryz.func28,Tryz.ntmps28
   go_wp2_with (first
    | (go_at_call 52;(with_reducible refine ct.mono ?_);rintro e w' ⟨rfl,rfl⟩)
    | (go_at_call 53;(with_reducible refine cm.mono ?_);rintro e w' ⟨rfl,rfl⟩))
   exact bodyPost_ret (v:=.tuple #[.int .i64 0,.bool false]) (by simp [results,Tryz.results28,go_sem]) rfl ⟨rfl,rfl⟩
  | some m=>
   unfold mkV at cm ⊢
   go_enter Tryz.func28,Tryz.ntmps28
   go_wp2_with (first
    | (go_at_call 52;(with_reducible refine ct.mono ?_);rintro e w' ⟨rfl,rfl⟩)
    | (go_at_call 53;(with_reducible refine cm.mono ?_);rintro e w' ⟨rfl,rfl⟩))
   exact bodyPost_ret (v:=.tuple #[.int .i64 m,.bool true]) (by simp [results,Tryz.results28,go_sem]) rfl ⟨rfl,rfl⟩
end Go.Proofs.YtbkgbhlmeeodgaaGreatDoor
namespace Go.Proofs.YtbkgbhlmeeodgaaGreatDoor
open Go.RowKit Go.Lib Go.Shelf
theorem nlen (zs:List Int):(nums .i64 zs).length=zs.length:=List.length_map _
theorem napp (a b:List Int):nums .i64 (a++b)=nums .i64 a++nums .i64 b:=List.map_append
theorem none_ {zs:List Int}:∀ u∈nums .i64 zs,u.oneCell'=true:=fun u hu=>by
 obtain⟨z,-,rfl⟩:=List.mem_map.1 hu
 rfl
theorem infoN:(Tryz.prog.info? 3).map (fun i=>(i.zero,i.size,i.bytes))=some (some (.int .i64 0),1,8):=by kernel_rfl
theorem infoI':∃ i,Tryz.prog.info? 3=some i∧i.zero=some (.int .i64 0)∧i.size=1∧i.bytes=8:=by
 cases h:Tryz.prog.info? 3 with
 | none=>have:=infoN;rw [h] at this;cases this
 | some i=>
  have:=infoN
  rw [h] at this
  injection this with this
  injection this with h1 h2
  injection h2 with h2 h3
  exact⟨i,rfl,h1,h2,h3⟩
theorem own_take {w:World} {base g n c:Nat} {zs:List Value} (h:w.ownsRow base 3 1 (.slice (some ⟨g,0,none⟩) n c) n zs) (k:Nat) (hk:k≤n):w.ownsRow base 3 1 (.slice (some ⟨g,0,none⟩) k c) k (zs.take k):=by
 have hl:zs.length=n:=by have:=h.1;simpa using this
 refine⟨by rw [List.length_take];omega,?_⟩
 rcases h.2 with ⟨h,_⟩ | ⟨g',cap,cur,e,hb,hg,hc,hm,hs,ht⟩
 · cases h
 · cases e
   refine .inr ⟨g,c,cur,rfl,hb,hg,by omega,hm,hs,?_⟩
   rw [←ht,List.take_take]
   congr 1
   omega
def RpPost (base g:Nat) (zs:List Int) (w:World) (e:Ending) (w':World):Prop:=∃ A c,e=.returned (.slice A zs.length c)∧w'.ownsRow base 3 1 (.slice A zs.length c) zs.length (nums .i64 zs)∧w.grownBy w' (some g)
set_option maxHeartbeats 4000000 in
set_option maxRecDepth 100000 in
theorem replace_end (base g c bv vb m vc a:Nat) (A V:List Int) (x:Int) (w:World) (ho:w.ownsRow base 3 1 (.slice (some ⟨g,0,none⟩) (a+1) c) (a+1) (nums .i64 (A ++ [x]))) (hv:w.ownsRow bv 3 1 (.slice (some ⟨vb,0,none⟩) m vc) m (nums .i64 V))
 (ha:A.length=a) (hm:0<m) (hn:a+m≤1000000) (hbase:base≤w.heap.size):
 Calls Tryz.prog 71 #[.slice (some ⟨g,0,none⟩) (a+1) c,.int .i64 a,.int .i64 (a+1:Nat),.slice (some ⟨vb,0,none⟩) m vc] w (RpPost base g (A++V) w):=by
 obtain⟨i0,hi,hz0,hz1,hz2⟩:=infoI'
 have hc:a+1≤c:=by
  rcases ho.2 with ⟨h,_⟩ | ⟨g',cap,cur,e,-,-,hc,-⟩
  · cases h
  · cases e;exact hc
 have hcm:c≤maxLen:=by
  rcases ho.2 with ⟨h,_⟩ | ⟨g',cap,cur,e,-,-,-,hc,-⟩
  · cases h
  · cases e;exact hc
 have hA:=own_take ho a (by omega)
 rw [napp,List.take_left' (by rw [nlen];exact ha)] at hA
 have hVl:V.length=m:=by have:=hv.1;rw [nlen] at this;omega
 have hcell:∀ j u,(nums .i64 V)[j]? = some u→w.cell? ((⟨vb,0,none⟩:Addr).add j)=some u:=fun j u hj=>hv.cells (g:=vb) rfl j u hj
 have hF:Hid (∀ v' w',w'.ownsRow base 3 1 v' (a+m) (nums .i64 A++nums .i64 V)→w.grownBy w' (some g)→∃ A' c',v'=.slice A' (a+m) c'∧RpPost base g (A++V) w (.returned (.slice A' (a+m) c')) w'):=fun v' w' h1 h2=>by
  obtain⟨A',c',rfl,-⟩:=own_vals h1
  have hl:(A++V).length=a+m:=by rw [List.length_append];omega
  exact⟨A',c',rfl,A',c',by rw [hl],by rw [hl,napp];exact h1,h2⟩
 have hone:=none_ (zs:=V)
 have hul:(nums .i64 V).length=m*1:=by rw [nlen];omega
 have h63:a+m≤maxLen:=by unfold maxLen;omega
 have HA:=Lib.hid hA
 have HV:=Lib.hid (And.intro hul (And.intro hcell hone))
 have hmI:(0:Int)<(m:Int):=by omega
 have hlt:¬(a:Int)+(m:Int)<(a:Int)+1:=by omega
 have hle1:(a:Int)≤(c:Int):=by omega
 have hle2:(a:Int)+1≤(c:Int):=by omega
 have hq:decide (a+m<a+1)=false:=decide_eq_false (by omega)
 clear ho hv ha hA hVl hul hcell hone
 go_enter Tryz.func71,Tryz.ntmps71
 go_wp2_with (at_builtin;refine wpList_append_own _ rfl _ _ 25 rfl base 3 i0 (.int .i64 0) 1 8 Tryz.underlying25 hi hz0 hz1 hz2 rfl (by decide) _ a _ rfl HA.out ⟨vb,0,none⟩ m vc _ rfl HV.out.1 HV.out.2.1 HV.out.2.2 h63 (by omega) hbase ?_;intro v' w' h1 h2 _;obtain⟨A',c',rfl,hP⟩:=hF.out v' w' h1 h2;have HP:=Lib.hid hP;clear hP h1 h2)
 go_ret
 exact HP.out
end Go.Proofs.YtbkgbhlmeeodgaaGreatDoor
