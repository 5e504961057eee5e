/- A part. -/
import Derived.Test.YtbkgbhlmeeodgaaGreatDoorQc12
namespace Go.Proofs.YtbkgbhlmeeodgaaGreatDoor
open Go.RowKit Go.Shelf
attribute [local go_sem] Oper.semAt_some
theorem Vals.hold {A':World→Nat→Prop} {w w':World} {A:Option Addr} {n:Nat} {vs:List Value} (h:Vals w A n vs) (hk:Hold A' w w') (hA:∀ a,A=some a→A' w a.block):Vals w' A n vs:=by
 refine⟨h.1,fun hn=>?_⟩
 obtain⟨b,off,rfl,hlt,hc⟩:=h.2 hn
 exact⟨b,off,rfl,Nat.lt_of_lt_of_le hlt hk.1,fun j v hj=>hk.cell (a:=⟨b,off+j,none⟩) (hA ⟨b,off,none⟩ rfl) (hc j v hj)⟩
theorem ML.hold {A:World→Nat→Prop} {w w':World} (h:ML w) (hk:Hold A w w') (h0:A w 1):ML w'∧A w' 1:=by
 obtain⟨m,hm⟩:=h
 exact⟨⟨m,hk.cell (a:=⟨1,0,none⟩) h0 hm⟩,(hk.2 1 h0 (World.block_lt_of_cell? w _ hm)).2⟩
theorem cell_abide {β:Type} {B:Nat} (a:Addr) (v:Value):Abide 0 0 B (fun (_:β) W=>W.cell? a=some v):=by
 intro _ W W' row hs hg hr
 refine cell_kept hs hg (fun r e=>?_)
 rcases hr r e with h | ⟨_,h⟩
 · omega
 · exact h
theorem ml_abide {β:Type} {B:Nat}:Abide 0 0 B (fun (_:β) W=>ML W):=fun s W W' row ⟨m,hm⟩ hg hr=>⟨m,cell_abide (β:=β) _ _ s W W' row hm hg hr⟩
def FBodRel (L:List UInt8) (A:World→Nat→Prop) (N0 n:Nat) (J:List (Int×List UInt8)→World→Prop) (r i:Value) (wr:World):Prop:=
 ∃ (pre:List (Int×List UInt8)) (rest:List UInt8) (P:Option Addr) (n' c' k:Nat),r=.slice P n' c'∧i=.int .i64 ((k:Int)+1)∧Octs wr P n' rest∧(P=none→c'=0)∧n'≤c'∧(∀ a,P=some a→A wr a.block∧a.block<wr.heap.size) ∧
  numbered 1 (pieces L)=pre++numbered ((k:Int)+1) (pieces rest)∧pre.length=k∧k+n'≤n∧J pre wr∧(ML wr∧A wr 1)∧N0≤wr.heap.size
set_option maxRecDepth 100000 in
set_option maxHeartbeats 4000000 in
theorem fiter45 (m l B n c N0:Nat) (P0:Option Addr) (L:List UInt8) (A:World→Nat→Prop) (hL:Lets A) (hm:1≤m) (hn:n≤100000) (J Jx:List (Int×List UInt8)→World→Prop) (hJ:∀ s W W',J s W→Below W.heap.size W W'→J s W')
 (hY:∀ pre x W,J pre W→x.2.length≤n∧N0≤W.heap.size→pre.length<200000→YieldAt Fence.wide (m-1) Tryz.prog l #[.int .i64 x.1,.string (bs x.2)] W fun e W'=>
  ((e=.returned (.bool true)∧J (pre ++ [x]) W')∨(e=.returned (.bool false)∧Jx (pre ++ [x]) W'))∧Hold A W W')
 (W:World) (hBs:W.cell? ⟨B,0,none⟩=some (.slice P0 n c)) (hO:Octs W P0 n L) (hP:∀ a,P0=some a→A W a.block∧a.block<W.heap.size) (hA0:A W 1) (hM:ML W) (hPc:P0=none→c=0) (hc:n≤c) (hN0:N0≤W.heap.size) (h0:J [] W):
 CallsIn Fence.wide m Tryz.prog 163 #[.func (.yield l) #[] #[],.pointer (some ⟨B,0,none⟩)] W fun e W'=>(∃ v,e=.returned v) ∧
  ((∃ ys,ys=numbered 1 (pieces L)∧J ys W')∨(∃ pre,pre <+: numbered 1 (pieces L)∧Jx pre W')):=by
 have H0:Hid (FBodRel L A N0 n J (.slice P0 n c) (.int .i64 1) W):=Lib.hid ⟨[],L,P0,n,c,0,rfl,rfl,hO,hPc,hc,hP,by simp,rfl,by omega,h0,⟨hM,hA0⟩,hN0⟩
 have HL:=Lib.hid hL
 clear hO hP h0 hPc hc hN0 hM hA0 hL
 refine callsIn_of_wp Tryz.func163 rfl trivial ?_ rfl
 simp only [Tryz.ntmps163,List.size_toArray,List.length_cons,List.length_nil,Nat.reduceAdd,Nat.reduceSub,Array.replicate_succ,Array.replicate_zero,List.push_toArray,List.append_toArray,List.nil_append,List.cons_append]
 gi_wp2
 gi_loopw [3,4] (fun r i wr=>FBodRel L A N0 n J r i wr) (fun r _ _=>lenOf r)
 case atStart=>exact H0.out
 case round=>
  clear hBs H0
  obtain⟨pre,rest,P,n',c',k,rfl,rfl,hOr,hPr,hcr,hAr,hnum,hpre,hkn,hJr,hMr,hNr⟩:=hrel
  by_cases hpos:0<n'
  · have b1:Below wr.heap.size wr (wr.alloc (.cells #[.int .u8 10] 5)):=(Below.refl _ _).alloc (Nat.le_refl _) _
    have hO1:=hOr.below b1
    obtain⟨mm,hmm⟩:=hMr.1.below b1
    have c35:=Tryz.bytes_Cut_all P (some ⟨wr.heap.size,0,none⟩) n' c' 1 1 (ints rest) (ints [10]) mm (wr.alloc (.cells #[.int .u8 10] 5)) (by rw [ints_length,hOr.len]) rfl (ints_range _) (ints_range _) hO1.bytesIn (one_octs wr 10 10 rfl) hPr hcr (by omega) (by omega) hmm
    obtain⟨k1,Q,n2,c2,f,t,e1,hk1,hn2,hc2,hQc,hQb,hOt,hpc⟩:=line_cut hOr hpos hcr
    rw [e1] at c35
    have hOl:=hO1.take k1 hk1
    have c36:=fun q=>callsIn_wide (n:=m-1) |>.2 (body36 P k1 c' (rest.take k1) ((wr.alloc (.cells #[.int .u8 10] 5)).drewN q) hOl hPr (by omega) (by omega) ⟨mm,hmm⟩)
    have c35:=callsIn_wide (n:=m-1) |>.2 c35
    have hQA:∀ a,Q=some a→A wr a.block∧a.block<wr.heap.size:=fun a e=>by obtain⟨a',e',h'⟩:=hQb a e;rw [h'];exact hAr a' e'
    have hx:pre++numbered ((k:Int)+1) (pieces rest)=(pre ++ [((k:Int)+1,bodyOf (rest.take k1))])++numbered (((k+1:Nat):Int)+1) (pieces t):=by
     rw [hpc,numbered,List.append_assoc]
     simp
    rw [hx] at hnum
    have hY2:=fun w1 (hb1:Below wr.heap.size wr w1)=>hY pre ((k:Int)+1,bodyOf (rest.take k1)) w1 (hJ _ _ _ hJr hb1) ⟨by have h1:=body_length (rest.take k1);have h2:(rest.take k1).length≤k1:=List.length_take_le _ _;dsimp only;omega,Nat.le_trans hNr hb1.size⟩ (by omega)
    obtain⟨bd,hbd⟩:∃ bd,bodyOf (rest.take k1)=bd:=⟨_,rfl⟩
    rw [hbd] at hY2 hnum
    simp only [hbd] at c36
    have hend:=fun w1 W3 (hb1:Below wr.heap.size wr w1) (hk3:Hold A w1 W3) (hJ3:J (pre ++ [((k:Int)+1,bd)]) W3)=>show FBodRel L A N0 n J (.slice Q n2 c2) (.int .i64 ((k:Int)+1+1)) W3 from
     have hh:Hold A wr W3:=(Hold.of_below HL.out hb1).trans hk3
     ⟨_,t,Q,n2,c2,k+1,rfl,by go_num,Vals.hold hOt hh (fun a e=>(hQA a e).1),hQc,hc2,fun a e=>⟨(hh.2 _ (hQA a e).1 (hQA a e).2).2,Nat.lt_of_lt_of_le (hQA a e).2 hh.1⟩,hnum,by simp [hpre],by omega,hJ3,hMr.1.hold hh hMr.2,Nat.le_trans hNr hh.1⟩
    have hstop:Hid (pre ++ [((k:Int)+1,bd)] <+: numbered 1 (pieces L)):=Lib.hid ⟨_,hnum.symm⟩
    have hbb:=fun q w1 (hb:Below ((wr.alloc (.cells #[.int .u8 10] 5)).drewN q).heap.size ((wr.alloc (.cells #[.int .u8 10] 5)).drewN q) w1)=>show Below wr.heap.size wr w1 from (below_drewN b1 q).trans (hb.mono b1.size)
    have HBB:=Lib.hid hbb
    have C36:=Lib.hid c36
    have HE:=Lib.hid hend
    have HY2:=Lib.hid hY2
    have HJ:=Lib.hid hJ
    have HYY:=Lib.hid hY
    have HQA:=Lib.hid hQA
    have HQB:=Lib.hid hQb
    have HAR:=Lib.hid hAr
    have HNUM:=Lib.hid hnum
    have HQC:=Lib.hid hQc
    have HPR:=Lib.hid hPr
    have HOR:=Lib.hid hOr
    have HMR:=Lib.hid hMr
    clear hbb c36 hend hY2 hJ hY hQA hQb hAr hnum hQc hPr hOr hO1 hOl hOt hpc hx hmm hJr hbd e1 hMr
    have hlen:lenOf (.slice P n' c')=n':=rfl
    gi_wp2_with (first
     | (refine⟨trivial,?_⟩;gi_at_call 164;(with_reducible refine c35.mono ?_);rintro e w' ⟨rfl,q,rfl⟩)
     | (refine⟨trivial,?_⟩;gi_at_call 165;(with_reducible refine (C36.out q).mono ?_);rintro e w1 ⟨rfl,hb1⟩;have hb1':=HBB.out q w1 hb1;obtain⟨fn,tmps,assign,body,hy,hR⟩:=HY2.out w1 hb1'))
    refine hR.mono ?_
    rintro e W3 ⟨⟨rfl,hJ3⟩ | ⟨rfl,hJx3⟩,hk3⟩
    · gi_wp2
      go_roundw
      case rel=>exact HE.out w1 W3 hb1' hk3 hJ3
      case measure=>rw [lenOf_slice,lenOf_slice];exact hn2
    · gi_wp2
      refine bodyPost_ret (results_none rfl _ _ _) rfl ?_
      exact⟨⟨_,rfl⟩,.inr ⟨_,hstop.out,hJx3⟩⟩
  · obtain rfl:n'=0:=by omega
    have hr:rest = []:=List.eq_nil_of_length_eq_zero hOr.len
    rw [hr,pieces_nil] at hnum
    have HE:Hid (pre=numbered 1 (pieces L)):=by rw [hnum];simp [numbered];trivial
    have HJR:=Lib.hid hJr
    have HPR:=Lib.hid hPr
    have HMR:=Lib.hid hMr
    clear hnum hOr hAr hJr hPr hJ hY hr hMr
    gi_wp2
    go_end0
    exact⟨⟨_,rfl⟩,.inl ⟨_,HE.out,HJR.out⟩⟩
theorem fseq45 (m B n c:Nat) (P0:Option Addr) (L:List UInt8) (A:World→Nat→Prop) (w:World) (hL:Lets A) (hm:1≤m) (hn:n≤100000) (hB:B<w.heap.size) (hBs:w.cell? ⟨B,0,none⟩=some (.slice P0 n c)) (hO:Octs w P0 n L)
 (hP:∀ a,P0=some a→A w a.block∧a.block<w.heap.size) (hA0:A w 1) (hM:ML w) (hPc:P0=none→c=0) (hc:n≤c):
 SeqFree Fence.wide m Tryz.prog 163 #[.pointer (some ⟨B,0,none⟩)] (fun x:Int×List UInt8=>#[.int .i64 x.1,.string (bs x.2)]) (fun x W=>x.2.length≤n∧w.heap.size+2≤W.heap.size) A (fun ys=>ys=numbered 1 (pieces L)) (fun pre=>pre <+: numbered 1 (pieces L)) 200000 w:=
 fun l J Jx W hW hsz hJ _ _ hY h0=>
  fiter45 m l B n c (w.heap.size+2) P0 L _ (hL.and _) hm hn J Jx (fun _ _ _ h hb=>hJ.below h hb) (fun pre x W1 hj hx hl=>hY pre x W1 hj hx hl) W ((hW.cell (p:=⟨B,0,none⟩) hB).trans hBs) (hO.below hW)
   (fun a e=>have hlt:=(hP a e).2;⟨⟨hL.below (hP a e).1 hW,by omega,by omega⟩,by omega⟩) ⟨hL.below hA0 hW,by have:=hM.lt;omega,by have:=hM.lt;omega⟩ (hM.below hW) hPc hc (by omega) h0
def LKeep (A:World→Nat→Prop) (N0 l yb:Nat) (W:World):Prop:=
 (W.cell? ⟨yb,0,none⟩=some (.func (.yield l) #[] #[])∧A W yb)∧((ML W∧A W 1)∧N0≤W.heap.size)
theorem lkeep_abide {β:Type} {A:World→Nat→Prop} (hL:Lets A) (N0 l yb B:Nat):Abide 0 0 B (fun (_:β) W=>LKeep A N0 l yb W):=
 Abide.and (Abide.and (cell_abide _ _) (hL.abide yb _)) (Abide.and (Abide.and ml_abide (hL.abide 1 _)) (fun _ _ _ _ h hg _=>Nat.le_trans h hg.size))
theorem LKeep.hold {A:World→Nat→Prop} {N0 l yb:Nat} {W W':World} (h:LKeep A N0 l yb W) (hk:Hold A W W'):LKeep A N0 l yb W':=
 ⟨⟨hk.cell (a:=⟨yb,0,none⟩) h.1.2 h.1.1,(hk.2 yb h.1.2 (World.block_lt_of_cell? W _ h.1.1)).2⟩,h.2.1.1.hold hk h.2.1.2,Nat.le_trans h.2.2 hk.1⟩
def FBI (A:World→Nat→Prop) (N0 l yb:Nat) (J:List LnV→World→Prop) (pre:List (Int×List UInt8)) (W:World):Prop:=
 (∃ xs:List LnV,xs.map view=pre.filterMap lineOf∧xs.length≤pre.length∧J xs W)∧LKeep A N0 l yb W
theorem fbi_abide {A:World→Nat→Prop} (hL:Lets A) {N0 l yb B C:Nat} {J:List LnV→World→Prop} (hB:B≤C) (h:Abide 0 0 B J):Abide 0 0 C (FBI A N0 l yb J):=
 Abide.and (fun s W W' row hs hg hr=>by
  obtain⟨xs,h1,h2,h3⟩:=hs
  exact⟨xs,h1,h2,h.mono (fun _ _ h=>absurd h (by omega)) hB _ W W' row h3 hg hr⟩) (lkeep_abide hL N0 l yb C)
def FLnRd (n N0:Nat) (x:LnV) (W:World):Prop:=LnRd x W∧N0≤W.heap.size∧∀ f∈x.2.2,f.length≤n
theorem cut_len (c:UInt8):∀ (l:List UInt8),∀ x∈cutAll c l,x.length≤l.length
 | [],x,hx=>by simp [cutAll] at hx;rw [hx];simp
 | y::l,x,hx=>by
  unfold cutAll at hx
  split at hx
  · rcases List.mem_cons.1 hx with rfl | hx
    · simp
    · have:=cut_len c l x hx
      simp
      omega
  · cases h:cutAll c l with
    | nil=>exact absurd h (cutAll_ne c l)
    | cons a t=>
     rw [h] at hx
     simp only [glue] at hx
     rcases List.mem_cons.1 hx with rfl | hx
     · have:=cut_len c l a (by rw [h];simp)
       simp
       omega
     · have:=cut_len c l x (by rw [h];exact List.mem_cons_of_mem _ hx)
       simp
       omega
theorem fields_len {bd:List UInt8} {n:Nat} (h:bd.length≤n):∀ f∈fieldsOf bd,f.length≤n:=by
 intro f hf
 unfold fieldsOf at hf
 obtain⟨p,hp,rfl⟩:=List.mem_map.1 hf
 have h1:=trim_length p
 have h2:=cut_len 59 bd p hp
 omega
set_option maxRecDepth 100000 in
set_option maxHeartbeats 4000000 in
theorem fiter30 (m B n c:Nat) (P0:Option Addr) (L:List UInt8) (A:World→Nat→Prop) (w:World) (hL:Lets A) (hm:5≤m) (hn:n≤100000) (hB:B<w.heap.size) (hBs:w.cell? ⟨B,0,none⟩=some (.slice P0 n c)) (hO:Octs w P0 n L)
 (hP:∀ a,P0=some a→A w a.block∧a.block<w.heap.size) (hA0:A w 1) (hM:ML w) (hPc:P0=none→c=0) (hc:n≤c):
 SeqFree Fence.wide m Tryz.prog 134 #[.pointer (some ⟨B,0,none⟩)] lnVal (FLnRd n (w.heap.size+2)) A (fun xs=>xs.map view=linesIn L) (fun pre=>pre.map view <+: linesIn L) 200001 w:=by
 intro l J Jx W hW hsz hJ hJx hfree hY h0
 have hm1:1≤m:=by omega
 have hm2:1≤m-1-1:=by omega
 have hBW:=(hW.cell (p:=⟨B,0,none⟩) hB).trans hBs
 have c24:=callsIn_wide (n:=m-1) |>.2 (bodies24 P0 n c (W.alloc (.cells #[.func (.yield l) #[] #[]] 208)))
 have bW2:Below W.heap.size W ((W.alloc (.cells #[.func (.yield l) #[] #[]] 208)).alloc (.cells #[.slice P0 n c] 22)):=((Below.refl _ _).alloc (Nat.le_refl _) _).alloc (by simp) _
 have bw2:Below w.heap.size w ((W.alloc (.cells #[.func (.yield l) #[] #[]] 208)).alloc (.cells #[.slice P0 n c] 22)):=hW.trans (bW2.mono hW.size)
 have hL':Lets (fun W k=>A W k∧k≠w.heap.size∧k≠w.heap.size+1):=hL.and _
 have hM0:1<w.heap.size:=by obtain⟨mm,hmm⟩:=hM;exact World.block_lt_of_cell? w _ hmm
 have hq:=fseq45 (m-1) (W.heap.size+1) n c P0 L (fun W k=>A W k∧k≠w.heap.size∧k≠w.heap.size+1) ((W.alloc (.cells #[.func (.yield l) #[] #[]] 208)).alloc (.cells #[.slice P0 n c] 22)) hL' (by omega) hn (by simp) (by simp) ((hO.below hW).below bW2)
  (fun a e=>⟨⟨hL.below (hP a e).1 bw2,by have:=(hP a e).2;omega,by have:=(hP a e).2;omega⟩,by have:=(hP a e).2;have:=bw2.size;omega⟩) ⟨hL.below hA0 bw2,by have:=hM.lt;omega,by have:=hM.lt;omega⟩ ((hM.below hW).below bW2) hPc hc
 have hyb:((W.alloc (.cells #[.func (.yield l) #[] #[]] 208)).alloc (.cells #[.slice P0 n c] 22)).cell? ⟨W.heap.size,0,none⟩=some (.func (.yield l) #[] #[]):=by simp
 have hsz2:((W.alloc (.cells #[.func (.yield l) #[] #[]] 208)).alloc (.cells #[.slice P0 n c] 22)).heap.size=w.heap.size+4:=by simp;omega
 have hM2:ML ((W.alloc (.cells #[.func (.yield l) #[] #[]] 208)).alloc (.cells #[.slice P0 n c] 22)):=(hM.below hW).below bW2
 have hJ2:J [] ((W.alloc (.cells #[.func (.yield l) #[] #[]] 208)).alloc (.cells #[.slice P0 n c] 22)):=hJ.below h0 bW2
 have hkeep:LKeep (fun W k=>A W k∧k≠w.heap.size∧k≠w.heap.size+1) (w.heap.size+2) l W.heap.size ((W.alloc (.cells #[.func (.yield l) #[] #[]] 208)).alloc (.cells #[.slice P0 n c] 22)):=
  ⟨⟨hyb,hL.below (hfree _ _ h0 _ (Nat.le_refl _)) bW2,by omega,by omega⟩,⟨hM2,hL.below hA0 bw2,by omega,by omega⟩,by omega⟩
 refine callsIn_of_wp_marks Tryz.func134 rfl trivial ?_ rfl
 simp only [Tryz.ntmps134,List.size_toArray,List.length_cons,List.length_nil,Nat.reduceAdd,Nat.reduceSub,Array.replicate_succ,Array.replicate_zero,List.push_toArray,List.append_toArray,List.nil_append,List.cons_append]
 have HQ:=Lib.hid hq
 have HJ:=Lib.hid hJ
 have HJx:=Lib.hid hJx
 have HYY:=Lib.hid hY
 have HFR:=Lib.hid hfree
 have HL:=Lib.hid hL
 have HL':=Lib.hid hL'
 have HKP:=Lib.hid hkeep
 have hB2:(W.alloc (.cells #[.func (.yield l) #[] #[]] 208)).cell? ⟨B,0,none⟩=some (.slice P0 n c):=(World.cell?_alloc_lt _ _ _ (by show B<W.heap.size;omega)).trans hBW
 have HSZ:=Lib.hid hsz
 clear hq hJ hJx hY hP hO hPc hM h0 hBs hBW hsz hfree hL hL' hkeep hA0 hM2 hyb
 gi_wp2_with (refine⟨trivial,?_⟩;gi_at_call 135;(with_reducible refine c24.mono ?_);rintro e w' ⟨rfl,rfl⟩)
 clear c24
 obtain⟨W2,hW2⟩:∃ W2,(W.alloc (.cells #[.func (.yield l) #[] #[]] 208)).alloc (.cells #[.slice P0 n c] 22)=W2:=⟨_,rfl⟩
 rw [hW2] at HQ hsz2 hJ2 bW2 bw2 HKP ⊢
 clear hW2
 have HSZ2:=Lib.hid hsz2
 clear hsz2
 refine range_free1 rfl (by omega) rfl trivial (enters_of Tryz.func163 (by kernel_rfl) rfl) HQ.out HL'.out (fun _=>rfl) (fun x _ W1 W2 row hs hg hr=>⟨hs.1,Nat.le_trans hs.2 hg.size⟩)
  (FBI (fun W k=>A W k∧k≠w.heap.size∧k≠w.heap.size+1) (w.heap.size+2) l W.heap.size J) (BX Jx) (fbi_abide HL'.out (by have:=HSZ2.out;have:=HSZ.out;omega) HJ.out) (bx_abide (by have:=HSZ2.out;have:=HSZ.out;omega) HJx.out)
  ?fr ⟨⟨[],rfl,Nat.le_refl _,hJ2⟩,HKP.out⟩ ?a1 ?assign ?body ?done ?stop
 case fr=>
  rintro s X ⟨⟨xs,-,-,hj⟩,hkp⟩ k hk
  exact⟨HFR.out _ _ hj k hk,by have:=hkp.2.2;omega,by have:=hkp.2.2;omega⟩
 case assign=>
  intro lq x W' K hK
  gi_wp2
  exact hK
 case body=>
  rintro lq pre ⟨num,bd⟩ Wb ⟨⟨xs,hxs,hxl,hJb⟩,hKb⟩ hbd hlen
  have hbn:bd.length≤n:=hbd.1
  have hbd:bd.length≤100000:=by omega
  have hsz:=HSZ.out
  have hsz2:=HSZ2.out
  have c25:=trim25 bd Wb (by omega)
  have hMb:=hKb.2.1.1
  have hybb:=hKb.1.1
  have hybl:W.heap.size<Wb.heap.size:=World.block_lt_of_cell? Wb _ hybb
  have hNb:=hKb.2.2
  by_cases hte:trim bd = []
  · rw [hte,bs_nil] at c25
    have hfin:=fun w0 (hb0:Below Wb.heap.size Wb w0)=>show Hold (fun W k=>A W k∧k≠w.heap.size∧k≠w.heap.size+1) Wb w0∧FBI (fun W k=>A W k∧k≠w.heap.size∧k≠w.heap.size+1) (w.heap.size+2) l W.heap.size J (pre ++ [(num,bd)]) w0 from
     ⟨Hold.of_below HL'.out hb0,⟨xs,by rw [List.filterMap_append,hxs];simp [lineOf,hte],by simp;omega,HJ.out.below hJb hb0⟩,hKb.hold (Hold.of_below HL'.out hb0)⟩
    have HF:=Lib.hid hfin
    clear hfin hte hxs hJb hKb hMb hJ2 hsz hsz2 hybb hNb
    gi_wp2_with (refine⟨trivial,?_⟩;gi_at_call 136;refine (CallsIn.inRound lq (callsIn_wide.2 c25)).mono ?_;rintro e w0 ⟨rfl,hb0⟩)
    exact HF.out w0 hb0
  · have hne:=bs_some hte
    have hle:(lineOf (num,bd))=some (num,fieldsOf bd):=by simp [lineOf,hte]
    have hall:∀ w0 w1 (Af:Option Addr),Below Wb.heap.size Wb w0→Below w0.drew.heap.size w0.drew w1→Vals w1 Af (fieldsOf bd).length (strs (fieldsOf bd)) →
     w1.cell? ⟨W.heap.size,0,none⟩=some (.func (.yield l) #[] #[])∧YieldsTo (m-1-1-1) l lq (num,Af,fieldsOf bd) (fun f W3=>
      (f=true∧Hold (fun W k=>A W k∧k≠w.heap.size∧k≠w.heap.size+1) Wb W3∧FBI (fun W k=>A W k∧k≠w.heap.size∧k≠w.heap.size+1) (w.heap.size+2) l W.heap.size J (pre ++ [(num,bd)]) W3) ∨
      (f=false∧Hold (fun W k=>A W k∧k≠w.heap.size∧k≠w.heap.size+1) Wb W3∧BX Jx .ret (pre ++ [(num,bd)]) W3)) w1:=by
     intro w0 w1 Af hb0 hb1 hV
     have hb:Below Wb.heap.size Wb w1:=hb0.trans ((below_of_drew hb1).mono hb0.size)
     refine⟨(hb.cell (p:=⟨W.heap.size,0,none⟩) hybl).trans hybb,?_⟩
     obtain⟨fn,tmps,assign,body,hy,hR⟩:=HYY.out xs (num,Af,fieldsOf bd) w1 (HJ.out.below hJb hb) ⟨⟨hV,by have h1:=cutAll_length 59 bd;show (fieldsOf bd).length≤_;unfold fieldsOf;rw [List.length_map];omega⟩,Nat.le_trans hNb hb.size,fields_len hbn⟩ (by omega)
     refine⟨fn,tmps,assign,body,hy,round_any (hR.mono ?_)⟩
     have hmap:(xs ++ [((num,Af,fieldsOf bd):LnV)]).map view=(pre ++ [(num,bd)]).filterMap lineOf:=by
      rw [List.map_append,List.filterMap_append,hxs]
      simp [hle,view]
     rintro e W3 ⟨⟨rfl,hj⟩ | ⟨rfl,hj⟩,hk⟩
     · have hh:=(Hold.of_below HL'.out hb).trans hk
       exact⟨true,rfl,.inl ⟨rfl,hh,⟨_,hmap,by simp;omega,hj⟩,hKb.hold hh⟩⟩
     · exact⟨false,rfl,.inr ⟨rfl,(Hold.of_below HL'.out hb).trans hk,rfl,_,hmap,hj⟩⟩
    have h26:∀ w0,Below Wb.heap.size Wb w0→Calls Tryz.prog 137 #[.string (bs bd)] w0.drew (FieldsPost bd w0.drew):=fun w0 hb0=>split26 bd w0.drew hbd (hMb.below (below_drew hb0))
    have hyw:∀ w0,Below Wb.heap.size Wb w0→w0.cell? ⟨W.heap.size,0,none⟩=some (.func (.yield l) #[] #[]):=fun w0 hb0=>(hb0.cell (p:=⟨W.heap.size,0,none⟩) hybl).trans hybb
    have HALL:=Lib.hid hall
    have H26:=Lib.hid h26
    have HYW:=Lib.hid hyw
    obtain⟨T2,hT2⟩:∃ T2,bs (trim bd)=T2:=⟨_,rfl⟩
    rw [hT2] at c25 hne
    have hmx:Tryz.prog.follows .mixedOrders=true:=by kernel_rfl
    clear hall h26 hyw hte hxs hJb hKb hMb hJ2 hle hT2 HYY HQ hsz hsz2 hybb hNb
    gi_wp2_with (refine⟨trivial,?_⟩;gi_at_call 136;refine (CallsIn.inRound lq (callsIn_wide.2 c25)).mono ?_;rintro e w0 ⟨rfl,hb0⟩;have hy0:=HYW.out w0 hb0;have hy0d:w0.drew.cell? ⟨W.heap.size,0,none⟩=some (.func (.yield l) #[] #[]):=hy0)
    clear c25
    gi_region_with_o (first
     | (refine⟨trivial,?_⟩;gi_at_call 137;refine (CallsIn.inRound lq (callsIn_wide.2 (H26.out w0 hb0))).mono ?_;rintro e w1 ⟨hb1,Af,rfl,hVf⟩;obtain⟨hy1,fn,tmps,assign,body,hy,hR⟩:=HALL.out w0 w1 Af hb0 hb1 hVf;dsimp only at hy)
     | (refine hR.mono ?_;rintro e W3 ⟨f,rfl,hf⟩))
    all_goals
     have HF:=Lib.hid hf
     clear hf
     cases f with
     | true=>
      gi_wp2
      rcases HF.out with ⟨_,h1,h2⟩ | ⟨h,_⟩
      · exact⟨h1,h2⟩
      · cases h
     | false=>
      gi_wp2
      rcases HF.out with ⟨h,_⟩ | ⟨_,h1,h2⟩
      · cases h
      · exact⟨h1,h2⟩
 case done=>
  rintro D ys W3 hD hys ⟨⟨xs,hxs,hxl,hJ3⟩,hK3⟩ hKD
  have hres:xs.map view=linesIn L:=by rw [hxs,hys,lines_pieces]
  have hJ4:J xs (W3.putObj D (.deferred none)):=HJ.out.put hJ3 (by have:=HSZ2.out;have:=HSZ.out;omega) hKD rfl
  have HR:=Lib.hid hres
  have HJ4:=Lib.hid hJ4
  clear hres hJ4 hxs hys hJ3 hK3
  gi_wp2
  exact leave23 hKD ⟨⟨_,rfl⟩,.inl ⟨xs,HR.out,HJ4.out⟩⟩
 case stop=>
  rintro D c' pre W3 hD hpre ⟨rfl,xs,hxs,hJ3⟩ hKD
  have hres:xs.map view <+: linesIn L:=by
   rw [hxs,←lines_pieces]
   obtain⟨r,hr⟩:=hpre
   rw [←hr,List.filterMap_append]
   exact List.prefix_append _ _
  have hJ4:Jx xs (W3.putObj D (.deferred none)):=HJx.out.put hJ3 (by have:=HSZ2.out;have:=HSZ.out;omega) hKD rfl
  have HR:=Lib.hid hres
  have HJ4:=Lib.hid hJ4
  clear hres hJ4 hxs hpre hJ3
  gi_wp2
  exact leave23 hKD ⟨⟨_,rfl⟩,.inr ⟨xs,HR.out,HJ4.out⟩⟩
end Go.Proofs.YtbkgbhlmeeodgaaGreatDoor
