/- A part. -/
import Derived.Test.YtbkgbhlmeeodgaaGreatDoorQc39
import Derived.Laws.EntriesVeiled
import Derived.Shelf.SlSortCmp.PdqK
import Derived.Shelf.Slices.Equal
import Derived.Shelf.SlSortCmp.KitK
import Derived.Deep.LoopGhost
namespace Go.Proofs.YtbkgbhlmeeodgaaGreatDoor
open Go.RowKit Go.Shelf
theorem own_low {w:World} {b b' n:Nat} {v:Value} {xs:List Value} (h:w.ownsRow b' 3 1 v n xs) (hb:b≤b'):w.ownsRow b 3 1 v n xs:=by
 refine⟨h.1,?_⟩
 rcases h.2 with h1 | ⟨g,cap,cur,e,h1,h2⟩
 · exact .inl h1
 · exact .inr ⟨g,cap,cur,e,Nat.le_trans hb h1,h2⟩
def ApO (w:World) (zs:List Int) (e:Ending) (w':World):Prop:=∃ A c,e=.returned (.slice A zs.length c)∧Below w.heap.size w w'∧Hid (w'.ownsRow w.heap.size 3 1 (.slice A zs.length c) zs.length (nums .i64 zs))
theorem apO_of {w w':World} {zs:List Int} {v:Value} (ho:w'.ownsRow w.heap.size 3 1 v zs.length (nums .i64 zs)) (hb:Below w.heap.size w w'):ApO w zs (.returned v) w':=by
 obtain⟨A,c,rfl,-⟩:=own_vals ho
 exact⟨A,c,rfl,hb,ho⟩
theorem cloneO (A:Option Addr) (n c:Nat) (zs:List Int) (w:World) (hV:Vals w A n (nums .i64 zs)) (hn:n≤1000000):Calls Tryz.prog 102 #[.slice A n c] w (ApO w zs):=by
 have hl:zs.length=n:=by have:=hV.1;unfold nums at this;rwa [List.length_map] at this
 subst hl
 cases A with
 | none=>
  have h0:zs.length=0:=by
   rcases Nat.eq_zero_or_pos zs.length with h | h
   · exact h
   · obtain⟨b,off,e,-⟩:=hV.2 h
     cases e
  obtain rfl:zs = []:=List.eq_nil_of_length_eq_zero h0
  refine (Tryz.slices_Clone_int_nil 0 c w).mono ?_
  rintro e w' ⟨rfl,rfl⟩
  exact⟨none,0,rfl,Below.refl _ _,World.ownsRow_nil _ _ _ _⟩
 | some ad=>
  rcases Nat.eq_zero_or_pos zs.length with h0 | hpos
  · obtain rfl:zs = []:=List.eq_nil_of_length_eq_zero h0
    refine (Tryz.slices_Clone_int_zero ad c w).mono ?_
    rintro e w' ⟨v',rfl,ho,-,hb⟩
    exact apO_of ho hb
  · obtain⟨b,off,e,hlt,hc⟩:=hV.2 hpos
    cases e
    refine (Tryz.slices_Clone_int b off zs.length c zs w (by omega) (by omega) (fun j hj=>hc j _ (nums_get hj))).mono ?_
    rintro e w' ⟨v',rfl,ho,-,hb⟩
    rw [List.take_of_length_le (by omega)] at ho
    exact apO_of ho hb
set_option maxRecDepth 100000 in
set_option maxHeartbeats 1000000 in
theorem decomp53 (p A:Option Addr) (c:Nat) (ls:List Uc.Rw) (ps:List Uc.Pr) (z:Int) (w:World) (hT:Uc.TIn w p A c ls) (hi:Uc.Ist w ls ps) (hF:Fit ps):
 Calls Tryz.prog 67 #[.pointer p,.int .i64 z] w (ApO w (dcf ps z)):=by
 have hl:ls.length≤100000:=by have:=hi.len;have:=hF.few;omega
 have c27:=Uc.row27 p A c ls z w hT hl (Uc.ist_rises hi hF.good)
 have hfd:∀ W:World,_:=fun W=>Uc.field5 (Uc.atOf ls z) W
 have hz:=Uc.ist_at z hi
 have h2:=hF.two z
 have C26:Hid (∀ W,Below w.heap.size w W→Calls Tryz.prog 102 #[.slice (Uc.atOf ls z).dp (Uc.atOf ls z).dm (Uc.atOf ls z).dc] W (ApO W (dcf ps z))):=fun W hb=>by
  have hd:(Uc.atOf ls z).dm=(dcf ps z).length:=by rw [hz.2.2.2.2.2.1];unfold dcf;rw [List.length_map]
  have:=hz.2.2.2.2.2.2.below hb
  exact cloneO _ _ _ _ W this (by omega)
 unfold Uc.rwV at c27 hfd
 clear hT hi hF hz hl h2
 go_enter Tryz.func67,Tryz.ntmps67
 go_wp2_with (first
  | (go_at_call 51;(with_reducible refine c27.mono ?_);rintro e w1 ⟨rfl,hb1⟩)
  | (go_at_call 102;(with_reducible refine (C26.out _ hb1).mono ?_);rintro e w2 ⟨A2,c2,rfl,hb2,hV2⟩))
 go_ret
 exact⟨A2,c2,rfl,hb1.trans (hb2.mono hb1.size),own_low hV2 hb1.size⟩
theorem sparts_of {l v t:Int} (h:Places l v t):sparts (syl l v t)=partsOf l v t:=by
 obtain⟨a,b,c,d,e,f⟩:=h
 unfold sparts partsOf syl
 have h1:(44032+(21*l+v)*28+t-44032)%28=t:=by omega
 have h2:(44032+(21*l+v)*28+t-44032)/28/21=l:=by omega
 have h3:(44032+(21*l+v)*28+t-44032)/28%21=v:=by omega
 rw [h1,h2,h3]
set_option maxRecDepth 100000 in
set_option maxHeartbeats 2000000 in
theorem apart56 (c:Int) (w:World) (hs:sylB c):Calls Tryz.prog 70 #[.int .i64 c] w (ApO w (sparts c)):=by
 obtain⟨l,v,t,hp,rfl⟩:=hang c hs.1 (by have:=hs.2;omega)
 rw [sparts_of hp]
 have hi:=hang_in hp
 have h:=is10 (syl l v t) w
 rw [decide_eq_true hi] at h
 replace h:Calls Tryz.prog 69 #[.int .i64 (syl l v t)] w fun e w'=>e=.returned (.bool true)∧w=w':=h.mono fun _ _ ⟨a,b⟩=>⟨a,b.symm⟩
 obtain⟨hO,hT,hL,hV⟩:=divs hp
 obtain⟨l0,l1,v0,v1,t0,t1⟩:=hp
 obtain⟨c,hc⟩:∃ c,syl l v t=c:=⟨_,rfl⟩
 rw [hc] at hi h hO hT ⊢
 obtain⟨c0,c1⟩:=hi
 obtain⟨o,ho⟩:∃ o,21*l+v=o:=⟨_,rfl⟩
 have o0:0≤o:=by omega
 have o1:o<399:=by omega
 rw [ho] at hO hL hV
 clear hc ho hs
 obtain⟨i0,hi,hz0,hz1,hz2⟩:=infoI'
 have HR:=Lib.hid (fun W x y=>two_row W x y)
 by_cases ht:t=0
 · subst ht
   rw [show partsOf l v 0 = [4352+l,4449+v] from if_pos rfl]
   go_enter Tryz.func70,Tryz.ntmps70
   go_wp2_with (go_at_call 69;(with_reducible refine h.mono ?_);rintro e w' ⟨rfl,rfl⟩)
   go_ret
   exact apO_of (zs:=[4352+l,4449+v]) (HR.out _ _ _) ((Below.refl _ _).alloc (Nat.le_refl _) _)
 · have hb:(t==0)=false:=beq_false_of_ne ht
   rw [show partsOf l v t = [4352+l,4449+v,4519+t] from if_neg ht]
   have HE:Hid (∀ v' w',w'.ownsRow w.heap.size 3 1 v' 3 ([Value.int .i64 (4352+l),.int .i64 (4449+v)] ++ [.int .i64 (4520+t-1)])→Grew w.heap.size (w.alloc (.cells #[.int .i64 (4352+l),.int .i64 (4449+v)] 3)) w'→∃ A2 c2,v'=.slice A2 3 c2∧ApO w [4352+l,4449+v,4519+t] (.returned (.slice A2 3 c2)) w'):=fun v' w' h1 h2=>by
    obtain⟨A2,c2,rfl,-⟩:=own_vals h1
    refine⟨A2,c2,rfl,A2,c2,rfl,h2 _ _ ((Below.refl _ _).alloc (Nat.le_refl _) _) (Nat.le_refl _),?_⟩
    have e:nums .i64 [4352+l,4449+v,4519+t] = [Value.int .i64 (4352+l),.int .i64 (4449+v)] ++ [.int .i64 (4520+t-1)]:=by
     rw [show 4520+t-1=4519+t by omega];rfl
    rw [e]
    exact h1
   go_enter Tryz.func70,Tryz.ntmps70
   go_wp2_with (first
    | (go_at_call 69;(with_reducible refine h.mono ?_);rintro e w' ⟨rfl,rfl⟩)
    | (at_builtin;refine append_lit rfl _ _ 25 rfl w.heap.size 3 i0 (.int .i64 0) 1 8 Tryz.underlying25 hi hz0 hz1 hz2 rfl (by decide) _ 2 _ rfl (HR.out _ _ _) _ rfl (fun u hu=>by simp at hu;subst hu;rfl) (by rw [World.size_alloc];rfl) (by unfold maxLen;omega) (by omega) (by simp) ?_;intro v' w' h1 h2;obtain⟨A2,c2,rfl,h3⟩:=HE.out v' w' h1 h2;have H3:=Lib.hid h3;clear h1 h2 h3))
   go_ret
   exact H3.out
def TbR (W:World) (p:Option Addr) (ps:List Uc.Pr):Prop:=∃ A c ls,Uc.TIn W p A c ls∧Uc.Ist W ls ps
theorem TbR.below {W W':World} {p:Option Addr} {ps:List Uc.Pr} (h:TbR W p ps) (hb:Below W.heap.size W W'):TbR W' p ps:=by
 obtain⟨A,c,ls,h1,h2⟩:=h
 exact⟨A,c,ls,h1.below hb,h2.below hb⟩
def StR (W:World) (bx:Nat) (ps:List Uc.Pr):Prop:=∃ p,W.cell? ⟨bx,0,none⟩=some (.func (.func 67) #[.pointer p] #[])∧TbR W p ps
theorem StR.lt {W:World} {bx:Nat} {ps:List Uc.Pr} (h:StR W bx ps):bx<W.heap.size:=by
 obtain⟨p,h,-⟩:=h
 exact World.block_lt_of_cell? W _ h
theorem StR.below {W W':World} {bx:Nat} {ps:List Uc.Pr} (h:StR W bx ps) (hb:Below W.heap.size W W'):StR W' bx ps:=by
 have hl:=h.lt
 obtain⟨p,h1,h2⟩:=h
 exact⟨p,(hb.cell (p:=⟨bx,0,none⟩) hl).trans h1,h2.below hb⟩
theorem uni24 (b:Nat) (p:Option Addr) (w:World) (h:w.cell? ⟨b,0,none⟩=some (.pointer p)):Calls Tryz.prog 25 #[.pointer (some ⟨b,0,none⟩)] w fun e w'=>e=.returned (.pointer p)∧w=w':=uni15 b p w h
set_option maxHeartbeats 1000000 in
theorem ccc25 (p:Option Addr) (ps:List Uc.Pr) (z:Int) (w:World) (hT:TbR w p ps) (hF:Fit ps):Calls Tryz.prog 26 #[.pointer p,.int .i64 z] w fun e w'=>e=.returned (.int .i64 (kc ps z))∧Below w.heap.size w w':=by
 obtain⟨A,c,ls,h1,h2⟩:=hT
 have h:=Uc.ccc15 p A c ls z w h1 (by have:=h2.len;have:=hF.few;omega) (Uc.ist_rises h2 hF.good)
 rw [(Uc.ist_at z h2).2.2.2.1] at h
 exact h
set_option maxRecDepth 100000 in
set_option maxHeartbeats 2000000 in
theorem step54 (bx:Nat) (ps:List Uc.Pr) (x:Int) (w:World) (hS:StR w bx ps) (hF:Fit ps):Calls Tryz.prog 68 #[.int .i64 x,.pointer (some ⟨bx,0,none⟩)] w (ApO w (stp (dcf ps) x)):=by
 have h:=is10 x w
 by_cases hs:sylB x
 · rw [decide_eq_true (show 44032≤x∧x<55204 from ⟨hs.1,by have:=hs.2;omega⟩)] at h
   replace h:Calls Tryz.prog 69 #[.int .i64 x] w fun e w'=>e=.returned (.bool true)∧w=w':=h.mono fun _ _ ⟨a,b⟩=>⟨a,b.symm⟩
   have c:=apart56 x w hs
   rw [stp_syl hs]
   obtain⟨zs,hz⟩:∃ zs,sparts x=zs:=⟨_,rfl⟩
   rw [hz] at c ⊢
   clear hz hs hS
   go_enter Tryz.func68,Tryz.ntmps68
   go_wp2_with (first
    | (go_at_call 69;(with_reducible refine h.mono ?_);rintro e w1 ⟨rfl,rfl⟩)
    | (go_at_call 70;(with_reducible refine c.mono ?_);rintro e w1 ⟨A2,c2,rfl,hb2,hV2⟩))
   go_ret
   exact⟨A2,c2,rfl,hb2,hV2⟩
 · rw [decide_eq_false (show ¬(44032≤x∧x<55204) from fun h=>hs ⟨h.1,by omega⟩)] at h
   replace h:Calls Tryz.prog 69 #[.int .i64 x] w fun e w'=>e=.returned (.bool false)∧w=w':=h.mono fun _ _ ⟨a,b⟩=>⟨a,b.symm⟩
   obtain⟨p,hc,A,c,ls,h1,h2⟩:=hS
   have c:=decomp53 p A c ls ps x w h1 h2 hF
   rw [stp_no hs]
   obtain⟨zs,hz⟩:∃ zs,dcf ps x=zs:=⟨_,rfl⟩
   rw [hz] at c ⊢
   clear hz hs h1 h2
   go_enter Tryz.func68,Tryz.ntmps68
   go_wp2_with (first
    | (go_at_call 69;(with_reducible refine h.mono ?_);rintro e w1 ⟨rfl,rfl⟩)
    | (go_at_call 67;(with_reducible refine c.mono ?_);rintro e w1 ⟨A2,c2,rfl,hb2,hV2⟩))
   go_ret
   exact⟨A2,c2,rfl,hb2,hV2⟩
def SoPost (w:World) (ps:List Uc.Pr) (e:Ending) (w':World):Prop:=∃ bx,e=.returned (.func (.func 68) #[] #[.pointer (some ⟨bx,0,none⟩)])∧Hid (Below w.heap.size w w'∧StR w' bx ps)
set_option maxRecDepth 100000 in
set_option maxHeartbeats 2000000 in
theorem stepOf28 (b:Nat) (p:Option Addr) (ps:List Uc.Pr) (w:World) (h:w.cell? ⟨b,0,none⟩=some (.pointer p)) (hT:TbR w p ps):Calls Tryz.prog 39 #[.pointer (some ⟨b,0,none⟩)] w (SoPost w ps):=by
 have c:=uni24 b p w h
 have HF:Hid (SoPost w ps (.returned (.func (.func 68) #[] #[.pointer (some ⟨w.heap.size,0,none⟩)])) (w.alloc (.cells #[.func (.func 67) #[.pointer p] #[]] 60))):=by
  have hb:Below w.heap.size w (w.alloc (.cells #[.func (.func 67) #[.pointer p] #[]] 60)):=(Below.refl _ _).alloc (Nat.le_refl _) _
  exact⟨w.heap.size,rfl,hb,p,by rw [new_at _ _ _ _ _ rfl];rfl,hT.below hb⟩
 have hmf:∀ (fn:Fn) (first cap:Array Value) (w:World),(Instr.makeFunc fn first cap).run Tryz.prog w=.ok (.func fn first cap) w:=fun _ _ _ _=>rfl
 clear h hT
 go_enter Tryz.func39,Tryz.ntmps39
 go_wp2_with (go_at_call 25;(with_reducible refine c.mono ?_);rintro e w1 ⟨rfl,rfl⟩)
 go_ret
 exact HF.out
theorem replace57 (base g n c bv vb m vc a:Nat) (A V B:List Int) (x:Int) (w:World) (ho:w.ownsRow base 3 1 (.slice (some ⟨g,0,none⟩) n c) n (nums .i64 (A++x::B))) (hv:w.ownsRow bv 3 1 (.slice (some ⟨vb,0,none⟩) m vc) m (nums .i64 V))
 (hne:g≠vb) (ha:A.length=a) (hm:0<m) (hl:a+m+B.length≤1000000) (hbase:base≤w.heap.size):
 Calls Tryz.prog 71 #[.slice (some ⟨g,0,none⟩) n c,.int .i64 a,.int .i64 (a+1:Nat),.slice (some ⟨vb,0,none⟩) m vc] w (RpPost base g (A++V++B) w):=by
 have hn:n=a+1+B.length:=by have:=ho.1;rw [nlen,List.length_append,List.length_cons] at this;omega
 cases B with
 | nil=>
  simp only [List.length_nil,Nat.add_zero] at hn hl
  subst hn
  rw [List.append_nil]
  exact replace_end base g c bv vb m vc a A V x w ho hv ha hm hl hbase
 | cons y B=>
  subst hn
  have hk:0<(y::B).length:=by simp
  by_cases hroom:a+m+(y::B).length≤c
  · by_cases h1:m=1
    · subst h1
      have hVl:V.length=1:=by have:=hv.1;rwa [nlen] at this
      match V,hVl with
      | [z],_=>exact replace_one base g c bv vb vc a _ A (y::B) x z w ho hv ha rfl hk hl
    · exact replace_shift base g c bv vb m vc a _ A V (y::B) x w ho hv hne ha rfl hk (by omega) hroom hl
  · exact replace_grow base g c bv vb m vc a _ A V (y::B) x w ho hv ha rfl hk hm (by omega) hl hbase
def AfPost (base:Nat) (zs:List Int) (w:World) (e:Ending) (w':World):Prop:=∃ A c,e=.returned (.slice A zs.length c)∧Hid (w'.ownsRow base 3 1 (.slice A zs.length c) zs.length (nums .i64 zs)∧Below base w w')
def AfI (ps:List Uc.Pr) (base:Nat) (Z:List Int) (w:World) (kx:Nat) (s1 s7:Value) (wr:World):Prop:=
 ∃ (A:Option Addr) (c:Nat) (T todo o:List Int),s1=.slice A (T++todo).length c∧s7=.int .i64 T.length∧T++o=Z∧Run (dcf ps) kx todo o∧Hid (wr.ownsRow base 3 1 (.slice A (T++todo).length c) (T++todo).length (nums .i64 (T++todo))∧Below base w wr)
set_option maxRecDepth 100000 in
set_option maxHeartbeats 4000000 in
theorem appendFull29 (bx base:Nat) (ps:List Uc.Pr) (A:Option Addr) (c:Nat) (T:List Int) (x:Int) (w:World) (hF:Fit ps) (hbx:∀ W,Below base w W→StR W bx ps) (ho:w.ownsRow base 3 1 (.slice A T.length c) T.length (nums .i64 T)) (hl:T.length≤100000) (hbase:base≤w.heap.size):
 Calls Tryz.prog 40 #[.func (.func 68) #[] #[.pointer (some ⟨bx,0,none⟩)],.slice A T.length c,.int .i64 x] w (AfPost base (T++fl ps x) w):=by
 obtain⟨g0,hrun⟩:=hF.run x
 have hfl:=hF.len x
 obtain⟨Z,hZ⟩:∃ Z,T++fl ps x=Z:=⟨_,rfl⟩
 have HZl:Hid (Z.length≤100012):=by show Z.length≤_;rw [←hZ,List.length_append];omega
 have HST:Hid (∀ W,Below base w W→StR W bx ps):=hbx
 have HFT:=Lib.hid hF
 have HSTEP:Hid (∀ W y,Below base w W→Calls Tryz.prog 68 #[.int .i64 y,.pointer (some ⟨bx,0,none⟩)] W (ApO W (stp (dcf ps) y))):=fun W y hb=>step54 bx ps y W (hbx W hb) hF
 obtain⟨i0,hi,hz0,hz1,hz2⟩:=infoI'
 have HAT:Hid (∀ v' w',w'.ownsRow base 3 1 v' (T.length+1) (nums .i64 T ++ [.int .i64 x])→Grew base w w'→∃ A' c',v'=.slice A' (T.length+1) c'∧Hid (AfI ps base Z w g0 v' (.int .i64 T.length) w')):=fun v' w' h1 h2=>by
  obtain⟨A',c',rfl,-⟩:=own_vals h1
  have hl:(T ++ [x]).length=T.length+1:=by simp
  exact⟨A',c',rfl,A',c',T,[x],fl ps x,by rw [hl],rfl,hZ,hrun,by rw [hl,napp];exact h1,h2 _ _ (Below.refl _ _) (Nat.le_refl _)⟩
 obtain⟨N,hN⟩:∃ N,T.length=N:=⟨_,rfl⟩
 rw [hN] at HAT ho hl ⊢
 rw [hZ]
 have HO:=Lib.hid ho
 clear hrun hfl hZ hbx hF hN ho
 go_enter Tryz.func40,Tryz.ntmps40
 go_wp2_with (at_builtin;refine append_lit rfl _ _ 25 rfl base 3 i0 (.int .i64 0) 1 8 Tryz.underlying25 hi hz0 hz1 hz2 rfl (by decide) _ N _ rfl HO.out _ rfl (fun u hu=>by simp at hu;subst hu;rfl) rfl (by unfold maxLen;omega) (by omega) hbase ?_;intro v' w' h1 h2;obtain⟨A',c',rfl,h3⟩:=HAT.out v' w' h1 h2;clear h1 h2)
 go_loopg [1,7] g0 (fun kx s1 s7 wr=>AfI ps base Z w kx s1 s7 wr)
 case atStart=>exact h3.out
 case round=>
  clear h3 HAT HO
  obtain⟨A2,c2,T2,todo,o,rfl,rfl,hTo,hR,HI⟩:=hrel
  cases hR with
  | nil=>
   rw [List.append_nil] at HI hTo ⊢
   subst hTo
   have HE:Hid (AfPost base T2 w (.returned (.slice A2 T2.length c2)) wr):=⟨A2,c2,rfl,HI⟩
   obtain⟨t,ht⟩:∃ t,T2.length=t:=⟨_,rfl⟩
   rw [ht] at HE ⊢
   clear HI ht
   go_wp2
   go_ret
   exact HE.out
  | @leaf g1 y l o' hst hR=>
   have hn0:0<(T2++y::l).length:=by simp only [List.length_append,List.length_cons];omega
   have htb:T2.length≤200000:=by have:=HZl.out;rw [←hTo,List.length_append] at this;omega
   obtain⟨hI1,hI2⟩:=HI.out
   obtain⟨g,rfl⟩:∃ g,A2=some ⟨g,0,none⟩:=by
    rcases hI1.2 with ⟨h,h0⟩ | ⟨g,cap,cur,e,-⟩
    · omega
    · cases e;exact⟨g,rfl⟩
   have hcy:wr.cell? ⟨g,T2.length,none⟩=some (.int .i64 y):=(rc_own hI1).2.2.2.2 _ _ (by rw [napp,List.getElem?_append_right (by rw [nlen];exact Nat.le_refl _),nlen,Nat.sub_self];rfl)
   have d:Calls Tryz.prog 68 #[.int .i64 y,.pointer (some ⟨bx,0,none⟩)] wr fun e w2=>∃ A3 c3,e=.returned (.slice A3 0 c3)∧Hid (Below wr.heap.size wr w2):=(HSTEP.out wr y hI2).mono (by
    rintro e w2 ⟨A3,c3,rfl,hb,-⟩
    rw [hst]
    exact⟨A3,c3,rfl,hb⟩)
   have e1:T2++y::l=(T2 ++ [y])++l:=by simp
   have e2:(T2 ++ [y]).length=T2.length+1:=by simp
   have HN:Hid (∀ w2,Below wr.heap.size wr w2→AfI ps base Z w g1 (.slice (some ⟨g,0,none⟩) (T2++y::l).length c2) (.int .i64 (T2.length+1:Nat)) w2):=fun w2 hb=>by
    refine⟨some ⟨g,0,none⟩,c2,T2 ++ [y],l,o',by rw [e1],by rw [e2],by rw [←hTo];simp,hR,?_,hI2.trans (hb.mono (Nat.le_trans hbase hI2.size))⟩
    rw [←e1]
    exact own_below hI1 hb (Nat.le_refl _)
   have hlt:T2.length<(T2++y::l).length:=by simp
   obtain⟨t,ht⟩:∃ t,T2.length=t:=⟨_,rfl⟩
   obtain⟨n2,hn2⟩:∃ n,(T2++y::l).length=n:=⟨_,rfl⟩
   rw [hn2] at hlt HN ⊢
   rw [ht] at hlt hcy HN htb ⊢
   clear HI hI1 hI2 hst hR hTo e1 e2 ht hn2 hn0
   have hb9:decide (t<n2)=true:=decide_eq_true hlt
   go_wp2_with (go_at_call 68;(with_reducible refine d.mono ?_);rintro e w2 ⟨A3,c3,rfl,hb2⟩)
   go_roundg g1
   case measure=>omega
   case rel=>
    have:=HN.out w2 hb2.out
    rwa [show ((t+1:Nat):Int)=(t:Int)+1 by omega] at this
  | @more g1 y l o' hst hR=>
   have hn0:0<(T2++y::l).length:=by simp only [List.length_append,List.length_cons];omega
   have htb:T2.length≤200000:=by have:=HZl.out;rw [←hTo,List.length_append] at this;omega
   obtain⟨hI1,hI2⟩:=HI.out
   obtain⟨g,rfl⟩:∃ g,A2=some ⟨g,0,none⟩:=by
    rcases hI1.2 with ⟨h,h0⟩ | ⟨g,cap,cur,e,-⟩
    · omega
    · cases e;exact⟨g,rfl⟩
   have hgl:=hI1.lt g rfl
   have hcy:wr.cell? ⟨g,T2.length,none⟩=some (.int .i64 y):=(rc_own hI1).2.2.2.2 _ _ (by rw [napp,List.getElem?_append_right (by rw [nlen];exact Nat.le_refl _),nlen,Nat.sub_self];rfl)
   obtain⟨V,hV⟩:∃ V,stp (dcf ps) y=V:=⟨_,rfl⟩
   rw [hV] at hst hR
   have hVl:0<V.length:=List.length_pos_iff.2 hst
   have hlen:=hR.len
   have hZ2:T2.length+o.length≤100012:=by have:=HZl.out;rw [←hTo,List.length_append] at this;exact this
   rw [List.length_append] at hlen
   have d:Calls Tryz.prog 68 #[.int .i64 y,.pointer (some ⟨bx,0,none⟩)] wr fun e w2=>∃ vb c3,e=.returned (.slice (some ⟨vb,0,none⟩) V.length c3)∧Hid (Below wr.heap.size wr w2∧wr.heap.size≤vb∧w2.ownsRow wr.heap.size 3 1 (.slice (some ⟨vb,0,none⟩) V.length c3) V.length (nums .i64 V)):=(HSTEP.out wr y hI2).mono (by
    rintro e w2 ⟨A3,c3,rfl,hb,hO⟩
    rw [hV] at hO ⊢
    have hO2:=hO.out
    rcases hO2.2 with ⟨h,h0⟩ | ⟨vb,cap,cur,e,h1,-⟩
    · omega
    · cases e;exact⟨vb,c3,rfl,hb,h1,hO2⟩)
   have HREP:Hid (∀ w2 vb c3,(Below wr.heap.size wr w2∧wr.heap.size≤vb∧w2.ownsRow wr.heap.size 3 1 (.slice (some ⟨vb,0,none⟩) V.length c3) V.length (nums .i64 V))→Calls Tryz.prog 71 #[.slice (some ⟨g,0,none⟩) (T2++y::l).length c2,.int .i64 T2.length,.int .i64 (T2.length+1:Int),.slice (some ⟨vb,0,none⟩) V.length c3] w2 fun e w3=>∃ A5 c5,e=.returned (.slice A5 (T2++V++l).length c5)∧Hid (AfI ps base Z w g1 (.slice A5 (T2++V++l).length c5) (.int .i64 T2.length) w3)):=fun w2 vb c3 ⟨h1,h2,h3⟩=>by
    have hbw:=Nat.le_trans hbase hI2.size
    refine (replace57 base g _ c2 wr.heap.size vb _ c3 T2.length T2 V l y w2 (own_below hI1 h1 (Nat.le_refl _)) h3 (by omega) rfl hVl (by omega) (Nat.le_trans hbw h1.size)).mono ?_
    rintro e w3 ⟨A5,c5,rfl,h4,h5⟩
    refine⟨A5,c5,rfl,A5,c5,T2,V++l,o,by rw [List.append_assoc],rfl,hTo,hR,by rw [←List.append_assoc];exact h4,?_⟩
    exact (hI2.trans (h1.mono hbw)).grown h5 (Nat.le_trans hbw h1.size) (fun k hk=>by cases hk;exact hgl.1)
   have hlt:T2.length<(T2++y::l).length:=by simp
   have hne:¬V.length=0:=by omega
   obtain⟨t,ht⟩:∃ t,T2.length=t:=⟨_,rfl⟩
   obtain⟨n2,hn2⟩:∃ n,(T2++y::l).length=n:=⟨_,rfl⟩
   obtain⟨n3,hn3⟩:∃ n,(T2++V++l).length=n:=⟨_,rfl⟩
   obtain⟨m,hm⟩:∃ m,V.length=m:=⟨_,rfl⟩
   rw [hm] at hne d
   simp only [hm,hn3,hn2,ht] at HREP
   rw [hn2] at hlt ⊢
   rw [ht] at hlt hcy htb ⊢
   clear HI hI1 hI2 hst hR hTo ht hn2 hn0 hn3 hm hV hVl hlen hZ2 hgl
   have hb9:decide (t<n2)=true:=decide_eq_true hlt
   have hbm:((m:Int)==0)=false:=beq_false_of_ne (by omega)
   go_wp2_with (first
    | (go_at_call 68;(with_reducible refine d.mono ?_);rintro e w2 ⟨vb,c3,rfl,h6⟩)
    | (go_at_call 71;(with_reducible refine (HREP.out w2 vb c3 h6.out).mono ?_);rintro e w3 ⟨A5,c5,rfl,h7⟩))
   go_roundg g1
   case measure=>omega
   case rel=>exact h7.out
end Go.Proofs.YtbkgbhlmeeodgaaGreatDoor
namespace Go.Proofs
open Go.Shelf
def Tryz.insMk_ren:Go.Shelf.Ren:=⟨fun | 20=>131 | n=>n,fun | 24=>70 | 22=>67 | 3=>3 | 25=>110 | 4=>4 | 0=>0 | n=>n,fun | n=>n⟩
theorem Tryz.insMk:Go.Proofs.SlLaysF0.n20 Tryz.prog Tryz.insMk_ren:={
 mixed:=by kernel_rfl
 f20:=⟨Tryz.f131.name,by decide,Tryz.func131.trans (congrArg some (by kernel_rfl))⟩
 t0:=Tryz.underlying0
 a0:=Tryz.isAgg0
 z0:=Tryz.sizeOf0
 v0:=Tryz.zeroValue0
 t3:=Tryz.underlying3
 a3:=Tryz.isAgg3
 z3:=Tryz.sizeOf3
 v3:=Tryz.zeroValue3
 t4:=Tryz.underlying4
 a4:=Tryz.isAgg4
 z4:=Tryz.sizeOf4
 v4:=Tryz.zeroValue4
 t22:=Tryz.underlying67
 a22:=Tryz.isAgg67
 z22:=Tryz.sizeOf67
 v22:=Tryz.zeroValue67
 t25:=Tryz.underlying110
 a25:=Tryz.isAgg110
 z25:=Tryz.sizeOf110
 v25:=Tryz.zeroValue110 }
def Tryz.equalInt_ren:Go.Shelf.Ren:=⟨fun | 111=>47 | n=>n,fun | 28=>25 | 3=>3 | 4=>4 | 0=>0 | n=>n,fun | n=>n⟩
theorem Tryz.equalInt:Go.Proofs.Lays.n111 Tryz.prog Tryz.equalInt_ren:={
 mixed:=by kernel_rfl
 f111:=Tryz.func47.trans (congrArg some (by kernel_rfl))
 t0:=Tryz.underlying0
 a0:=Tryz.isAgg0
 z0:=Tryz.sizeOf0
 v0:=Tryz.zeroValue0
 t3:=Tryz.underlying3
 a3:=Tryz.isAgg3
 z3:=Tryz.sizeOf3
 v3:=Tryz.zeroValue3
 t4:=Tryz.underlying4
 a4:=Tryz.isAgg4
 z4:=Tryz.sizeOf4
 v4:=Tryz.zeroValue4
 t28:=Tryz.underlying25
 a28:=Tryz.isAgg25
 z28:=Tryz.sizeOf25
 v28:=Tryz.zeroValue25 }
theorem Tryz.slices_Equal (b1 o1 n c b2 o2 m d:Nat) (xs ys:List Int) (w:World) (hx:n≤xs.length) (hy:m≤ys.length) (hbig:n≤9223372036854775807) (hbig2:m≤9223372036854775807) (hc1:∀ j,j<xs.length→w.cell? ⟨b1,o1+j,none⟩=some (.int .i64 (xs.getD j 0))) (hc2:∀ j,j<ys.length→w.cell? ⟨b2,o2+j,none⟩=some (.int .i64 (ys.getD j 0))):
 Calls Tryz.prog 47 #[.slice (some ⟨b1,o1,none⟩) n c,.slice (some ⟨b2,o2,none⟩) m d] w fun e w'=>e=.returned (.bool (xs.take n==ys.take m))∧∃ q,w'=w.drewN q:=Any.slices_Equal_int Tryz.equalInt b1 o1 n c b2 o2 m d xs ys w hx hy hbig hbig2 hc1 hc2
theorem Tryz.slices_Equal_empty (a1 a2:Option Addr) (c m d:Nat) (w:World) (hbig2:m≤9223372036854775807):
 Calls Tryz.prog 47 #[.slice a1 0 c,.slice a2 m d] w fun e w'=>e=.returned (.bool (decide (m=0)))∧w'=w:=Any.slices_Equal_int_empty Tryz.equalInt a1 a2 c m d w hbig2
end Go.Proofs
namespace Go.Proofs.YtbkgbhlmeeodgaaGreatDoor
open Go.Sort
section
variable {k:Int→Int}
structure Sym (k:Int→Int) (X U V Y:List Int) (a m b mid s0 r0:Nat):Prop where
 ha:a=X.length
 hm:m=a+U.length
 hb:b=m+V.length
 am:a<m
 mb:m<b
 hmid:mid=(a+b)/2
 h0:(mid<m∧s0=mid+m-b∧r0=mid)∨(m≤mid∧s0=a∧r0=m)
structure SymAt (k:Int→Int) (D:Array Int) (n s0 r0 s r:Nat):Prop where
 lo:s0≤s
 sr:s≤r
 hi:r≤r0
 H1:r<r0→k D[n-1-r]! < k D[r]!
 H2:s0<s→k D[s-1]! ≤ k D[n-s]!
theorem Sym.bnd {X U V Y:List Int} {a m b mid s0 r0:Nat} (h:Sym k X U V Y a m b mid s0 r0):a≤s0∧s0≤r0∧r0≤m∧r0≤mid∧m≤mid+m-r0∧mid+m-s0≤b∧a<mid+1∧mid<b∧b≤X.length+U.length+V.length:=by
 obtain⟨h1,h2,h3,h4,h5,h6,h7⟩:=h
 rcases h7 with ⟨h7,h8,h9⟩ | ⟨h7,h8,h9⟩ <;> omega
theorem Sym.cut {X U V Y:List Int} {a m b mid s0 r0 s:Nat} (h:Sym k X U V Y a m b mid s0 r0) (hU:Srt k U) (hV:Srt k V) (g:SymAt k (X++U++V++Y).toArray (mid+m) s0 r0 s s):
 s-a≤U.length∧mid+m-s-m≤V.length∧(∀ x∈U.drop (s-a),∀ y∈V.take (mid-s),k y<k x)∧(∀ x∈U.take (s-a)++V.take (mid-s),∀ y∈U.drop (s-a)++V.drop (mid-s),k x≤k y):=by
 obtain⟨b1,b2,b3,b4,b5,b6,b7,b8,b9⟩:=h.bnd
 obtain⟨h1,h2,h3,h4,h5,h6,h7⟩:=h
 obtain⟨g1,g2,g3,g4,g5⟩:=g
 have e:=sym_cut hU hV (u:=s-a) (v:=mid-s) (by omega) (by omega) (fun x y hx hv hy=>by
  have hul:=(List.getElem?_eq_some_iff.1 hx).1
  have hvl:=(List.getElem?_eq_some_iff.1 hy).1
  have hlt:s<r0:=by rcases h7 with ⟨h7,h8,h9⟩ | ⟨h7,h8,h9⟩ <;> omega
  have hq:=g4 hlt
  have e1:(X++U++V++Y).toArray[s]! = x:=arr_get _ _ _ (by
   rw [show s=X.length+(s-a) by omega,at_X (V:=V) (Y:=Y) hul];exact hx)
  have e2:(X++U++V++Y).toArray[mid+m-1-s]! = y:=arr_get _ _ _ (by
   rw [show mid+m-1-s=X.length+U.length+(mid-s-1) by omega,at_V (X:=X) (U:=U) (Y:=Y) hvl];exact hy)
  rwa [e1,e2] at hq) (fun x y hu hx hy=>by
  have hul:=(List.getElem?_eq_some_iff.1 hx).1
  have hvl:=(List.getElem?_eq_some_iff.1 hy).1
  have hlt:s0<s:=by rcases h7 with ⟨h7,h8,h9⟩ | ⟨h7,h8,h9⟩ <;> omega
  have hq:=g5 hlt
  have e1:(X++U++V++Y).toArray[s-1]! = x:=arr_get _ _ _ (by
   rw [show s-1=X.length+(s-a-1) by omega,at_X (V:=V) (Y:=Y) hul];exact hx)
  have e2:(X++U++V++Y).toArray[mid+m-s]! = y:=arr_get _ _ _ (by
   rw [show mid+m-s=X.length+U.length+(mid-s) by omega,at_V (X:=X) (U:=U) (Y:=Y) hvl];exact hy)
  rwa [e1,e2] at hq)
 exact⟨by omega,by omega,e.1,e.2⟩
theorem symAt_start {D:Array Int} {n s0 r0:Nat} (h:s0≤r0):SymAt k D n s0 r0 s0 r0:=⟨Nat.le_refl _,h,Nat.le_refl _,fun h=>absurd h (Nat.lt_irrefl _),fun h=>absurd h (Nat.lt_irrefl _)⟩
theorem SymAt.up {D:Array Int} {n s0 r0 s r c:Nat} (h:SymAt k D n s0 r0 s r) (h1:s≤c) (h2:c<r) (hk:¬k D[n-1-c]! < k D[c]!):SymAt k D n s0 r0 (c+1) r:=
 ⟨by have:=h.lo;omega,h2,h.hi,h.H1,fun _=>by rw [show c+1-1=c by omega,show n-(c+1)=n-1-c by omega];omega⟩
theorem SymAt.down {D:Array Int} {n s0 r0 s r c:Nat} (h:SymAt k D n s0 r0 s r) (h1:s≤c) (h2:c<r) (hk:k D[n-1-c]! < k D[c]!):SymAt k D n s0 r0 s c:=
 ⟨h.lo,h1,by have:=h.hi;omega,fun _=>hk,h.H2⟩
theorem one_right {x:Int} {V:List Int} (hV:Srt k V) {p:Nat} (hp:p≤V.length) (h1:∀ y,0<p→V[p-1]? = some y→k y<k x) (h2:∀ y,V[p]? = some y→¬k y<k x):
 Srt k (V.take p++x::V.drop p)∧Cl k ([x]++V) (V.take p++x::V.drop p):=by
 have l1:∀ y∈V.take p,k y<k x:=fun y hy=>by
  obtain⟨j,hj,ej⟩:=mem_take_at hy
  have a2:V[p-1]? = some V[p-1]:=List.getElem?_eq_getElem (by omega)
  have:=h1 _ (by omega) a2
  have:=srt_le hV (show j≤p-1 by omega) ej a2
  omega
 have l2:∀ y∈V.drop p,k x≤k y:=fun y hy=>by
  obtain⟨j,hj,ej⟩:=mem_drop_at hy
  have jl:=(List.getElem?_eq_some_iff.1 ej).1
  have a2:V[p]? = some V[p]:=List.getElem?_eq_getElem (by omega)
  have:=h2 _ a2
  have:=srt_le hV hj a2 ej
  omega
 refine⟨(hV.take p).glue (List.pairwise_cons.2 ⟨l2,hV.drop p⟩) (fun y hy z hz=>?_),?_⟩
 · rcases List.mem_cons.1 hz with rfl | hz
   · have:=l1 y hy;omega
   · have:=l1 y hy;have:=l2 z hz;omega
 · have e:=(cl_flip (k:=k) (u:=[x]) (v:=V.take p) (fun y hy z hz=>by rw [List.mem_singleton] at hy;subst hy;have:=l1 z hz;omega)).app (Cl.refl (V.drop p))
   rw [List.append_assoc,List.take_append_drop] at e
   simpa using e
theorem one_left {x:Int} {U:List Int} (hU:Srt k U) {p:Nat} (hp:p≤U.length) (h1:∀ y,0<p→U[p-1]? = some y→¬k x<k y) (h2:∀ y,U[p]? = some y→k x<k y):
 Srt k (U.take p++x::U.drop p)∧Cl k (U ++ [x]) (U.take p++x::U.drop p):=by
 have l1:∀ y∈U.take p,k y≤k x:=fun y hy=>by
  obtain⟨j,hj,ej⟩:=mem_take_at hy
  have a2:U[p-1]? = some U[p-1]:=List.getElem?_eq_getElem (by omega)
  have:=h1 _ (by omega) a2
  have:=srt_le hU (show j≤p-1 by omega) ej a2
  omega
 have l2:∀ y∈U.drop p,k x<k y:=fun y hy=>by
  obtain⟨j,hj,ej⟩:=mem_drop_at hy
  have jl:=(List.getElem?_eq_some_iff.1 ej).1
  have a2:U[p]? = some U[p]:=List.getElem?_eq_getElem (by omega)
  have:=h2 _ a2
  have:=srt_le hU hj a2 ej
  omega
 refine⟨(hU.take p).glue (List.pairwise_cons.2 ⟨fun y hy=>by have:=l2 y hy;omega,hU.drop p⟩) (fun y hy z hz=>?_),?_⟩
 · rcases List.mem_cons.1 hz with rfl | hz
   · exact l1 y hy
   · have:=l1 y hy;have:=l2 z hz;omega
 · have e:=(Cl.refl (k:=k) (U.take p)).app (cl_flip (k:=k) (u:=U.drop p) (v:=[x]) (fun y hy z hz=>by rw [List.mem_singleton] at hz;subst hz;have:=l2 y hy;omega))
   rw [←List.append_assoc,List.take_append_drop] at e
   simpa using e
def wayR (X V Y:List Int) (x:Int) (i:Nat):Array Int:=(X++(V.take i++x::V.drop i)++Y).toArray
theorem wayR_zero (X V Y:List Int) (x:Int):wayR X V Y x 0=(X ++ [x]++V++Y).toArray:=by simp [wayR]
theorem wayR_step (X V Y:List Int) (x:Int) (i j:Nat) (hi:i<V.length) (hj:j=X.length+i):swp (wayR X V Y x i) j (j+1)=wayR X V Y x (i+1):=by
 have e1:V.drop i=V[i]::V.drop (i+1):=List.drop_eq_getElem_cons hi
 have e2:V.take (i+1)=V.take i ++ [V[i]]:=by rw [List.take_succ_eq_append_getElem hi]
 obtain⟨u,eu⟩:∃ u,u=V[i]:=⟨_,rfl⟩
 rw [←eu] at e1 e2
 clear eu
 unfold wayR
 rw [e1,e2]
 have:=swp_lo (X++V.take i) [] (V.drop (i+1)++Y) x u j (j+1) (by rw [List.length_append,List.length_take];omega) (by rw [List.length_append,List.length_take];simp;omega)
 simpa using this
def wayL (X U Y:List Int) (x:Int) (i:Nat):Array Int:=(X++(U.take i++x::U.drop i)++Y).toArray
theorem wayL_all (X U Y:List Int) (x:Int) (n:Nat) (hn:U.length=n):wayL X U Y x n=(X++U ++ [x]++Y).toArray:=by
 unfold wayL
 rw [List.take_of_length_le (by omega),List.drop_eq_nil_of_le (by omega)]
 simp
theorem wayL_step (X U Y:List Int) (x:Int) (i j:Nat) (hi:i<U.length) (hj:j=X.length+i):swp (wayL X U Y x (i+1)) (j+1) j=wayL X U Y x i:=by
 have e1:U.drop i=U[i]::U.drop (i+1):=List.drop_eq_getElem_cons hi
 have e2:U.take (i+1)=U.take i ++ [U[i]]:=by rw [List.take_succ_eq_append_getElem hi]
 obtain⟨u,eu⟩:∃ u,u=U[i]:=⟨_,rfl⟩
 rw [←eu] at e1 e2
 clear eu
 unfold wayL
 rw [e1,e2]
 have:=swp_hi (X++U.take i) [] (U.drop (i+1)++Y) u x j (j+1) (by rw [List.length_append,List.length_take];omega) (by rw [List.length_append,List.length_take];simp;omega)
 simpa using this
end
structure Rot (G:List Int) (m i j:Nat) (D:Array Int):Prop where
 mk::out:∃ X U V Y:List Int,D=(X++U++V++Y).toArray∧X++V++U++Y=G∧U.length=i∧V.length=j∧X.length+i=m∧0<i∧0<j
theorem rot_more {G X U V Y:List Int} {m i j:Nat} (hG:X++V++U++Y=G) (hu:U.length=i) (hv:V.length=j) (hX:X.length+i=m) (hi:j<i) (hj:0<j):
 ∃ U1 U2:List Int,U=U1++U2∧U1.length=j∧U2.length=i-j∧Rot G m (i-j) j (X++V++U2++U1++Y).toArray:=
 ⟨U.take j,U.drop j,(List.take_append_drop _ _).symm,by rw [List.length_take];omega,by rw [List.length_drop];omega,⟨X++V,U.drop j,U.take j,Y,rfl,by
  rw [←hG]
  conv=>rhs;rw [←List.take_append_drop j U]
  simp,by rw [List.length_drop];omega,by rw [List.length_take];omega,by rw [List.length_append];omega,by omega,hj⟩⟩
theorem rot_less {G X U V Y:List Int} {m i j:Nat} (hG:X++V++U++Y=G) (hv:V.length=j) (hX:X.length+i=m) (hi:i<j) (h0:0<i):
 ∃ V1 V2:List Int,V=V1++V2∧V1.length=j-i∧V2.length=i∧Rot G m i (j-i) (X++V2++V1++U++Y).toArray:=
 ⟨V.take (j-i),V.drop (j-i),(List.take_append_drop _ _).symm,by rw [List.length_take];omega,by rw [List.length_drop];omega,⟨X,V.drop (j-i),V.take (j-i),U++Y,by simp,by
  rw [←hG]
  conv=>rhs;rw [←List.take_append_drop (j-i) V]
  simp,by rw [List.length_drop];omega,by rw [List.length_take];omega,by omega,h0,by omega⟩⟩
end Go.Proofs.YtbkgbhlmeeodgaaGreatDoor
namespace Go.Proofs.YtbkgbhlmeeodgaaGreatDoor
open Go.RowKit Go.Sort Go.Shelf Go.Lib
def mrkV (κ:Int→Int) (c:Int):List Value:=[.int .i64 c,.int .i64 (κ c)]
def cfK (κ:Int→Int) (x y:Int):Int:=Lib.compareInt (κ x) (κ y)
theorem cfK_lt (κ:Int→Int) (x y:Int):cfK κ x y<0 ↔ κ x < κ y:=by
 unfold cfK Lib.compareInt
 by_cases h1:κ x < κ y
 · simp [h1]
 · by_cases h2:κ y < κ x <;> simp [h1,h2]
theorem ltOf_cfK (κ:Int→Int):ltOf (cfK κ)=ltK κ:=by
 funext x y
 show decide (cfK κ x y<0)=decide (κ x < κ y)
 exact decide_eq_decide.2 (cfK_lt κ x y)
set_option maxHeartbeats 1000000 in
theorem closure60 (κ:Int→Int) (x y:Int) (W:World):Calls Tryz.prog 74 #[.agg (mrkV κ x).toArray,.agg (mrkV κ y).toArray] W fun e w'=>e=.returned (.int .i64 (cfK κ x y))∧∃ q os',w'=grow (W.drewN q) os':=by
 have hcon:=fun W'=>Tryz.cmp_Compare (κ x) (κ y) W'
 have e0:cfK κ x y=Lib.compareInt (κ x) (κ y):=rfl
 rw [e0]
 clear e0
 generalize Lib.compareInt (κ x) (κ y)=r at hcon ⊢
 unfold mrkV
 generalize κ x=a at hcon ⊢
 generalize κ y=b at hcon ⊢
 go_enter Tryz.func74,Tryz.ntmps74
 go_wp2_with (go_at_call 75;(with_reducible refine (hcon _).mono ?_);rintro e w' ⟨rfl,rfl⟩)
 go_ret
 exact⟨rfl,0,_,by rw [alloc_eq_grow,alloc_eq_grow,grow_grow];rfl⟩
theorem cmpLays60 (κ:Int→Int) (blk off size:Nat) (w:World):CmpLays Tryz.prog 74 #[] (mrkV κ) 2 (cfK κ) blk off size w:=fun _ _ _ _ x y=>closure60 κ x y _
theorem mkV_one (κ:Int→Int):∀ x,∀ v∈mrkV κ x,v.oneCell'=true:=fun x v hv=>by
 simp [mrkV] at hv
 rcases hv with rfl | rfl <;> rfl
theorem mk_cells {κ:Int→Int} {W:World} {blk off:Nat} {D:Array Int} {i:Nat} (h:HoldsK (mrkV κ) 2 W blk off D) (hi:i<D.size):W.cell? ⟨blk,off+i*2,none⟩=some (.int .i64 D[i]!)∧W.cell? ⟨blk,off+i*2+1,none⟩=some (.int .i64 (κ D[i]!)):=
 ⟨(h.cell hi (c:=0) (by omega)).1,(h.cell hi (c:=1) (by omega)).1⟩
theorem mk_frozen {κ:Int→Int} {W:World} {blk off:Nat} {D:Array Int} {i:Nat} (h:HoldsK (mrkV κ) 2 W blk off D) (hi:i<D.size):W.frozen? ⟨blk,off+i*2,none⟩=false∧W.frozen? ⟨blk,off+i*2+1,none⟩=false:=
 ⟨(h.cell hi (c:=0) (by omega)).2,(h.cell hi (c:=1) (by omega)).2⟩
theorem lst_size {l:List Int} {n:Nat} (h:l.length=n):l.toArray.size=n:=by simpa using h
end Go.Proofs.YtbkgbhlmeeodgaaGreatDoor
