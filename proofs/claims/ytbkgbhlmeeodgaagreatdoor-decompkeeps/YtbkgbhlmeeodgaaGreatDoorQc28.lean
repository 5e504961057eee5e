/- A part. -/
import Derived.Test.YtbkgbhlmeeodgaaGreatDoorQc27
import Derived.Sort.OwnSorted
namespace Go.Proofs.YtbkgbhlmeeodgaaGreatDoor.Pq
open Go.RowKit Go.Shelf Go.Sort
attribute [local go_sem] Oper.semAt_some
def strArr (x:List UInt8):Array Value:=#[.string (bs x)]
theorem strs_snocS (ls:List (List UInt8)) (x:List UInt8):strs (ls ++ [x])=strs ls ++ [.string (bs x)]:=by unfold strs;rw [List.map_append];rfl
theorem take_snocS {ls:List (List UInt8)} {k:Nat} {s:List UInt8} (hs:ls[k]? = some s):ls.take (k+1)=ls.take k ++ [s]:=by
 have hlt:=(List.getElem?_eq_some_iff.1 hs).1
 have e:ls[k]=s:=(List.getElem?_eq_some_iff.1 hs).2
 rw [List.take_succ_eq_append_getElem hlt,e]
theorem _root_.Go.Proofs.YtbkgbhlmeeodgaaGreatDoor.Vals.keptS {A':Nat→Prop} {w w':World} {A:Option Addr} {n:Nat} {vs:List Value} (h:Vals w A n vs) (hk:Kept A' w w') (hA:0<n→∀ a,A=some a→A' a.block):Vals w' A n vs:=by
 refine⟨h.1,fun hn=>?_⟩
 obtain⟨b,off,rfl,hlt,hc⟩:=h.2 hn
 exact⟨b,off,rfl,Nat.lt_of_lt_of_le hlt hk.1,fun j v hj=>hk.cell (a:=⟨b,off+j,none⟩) (hA hn ⟨b,off,none⟩ rfl) (hc j v hj)⟩
theorem _root_.Go.Proofs.YtbkgbhlmeeodgaaGreatDoor.Vals.ltS {w:World} {A:Option Addr} {n:Nat} {vs:List Value} (h:Vals w A n vs) (hn:0<n) (a:Addr) (e:A=some a):a.block<w.heap.size:=by
 obtain⟨b,off,e',hlt,-⟩:=h.2 hn
 rw [e] at e'
 cases e'
 exact hlt
def SRel (ls:List (List UInt8)) (B:Option Addr) (n N0:Nat) (J:List (List UInt8)→World→Prop) (i:Value) (wr:World):Prop:=
 ∃ k:Nat,i=.int .i64 k∧k≤n∧J (ls.take k) wr∧Vals wr B n (strs ls)∧N0≤wr.heap.size
set_option maxRecDepth 100000 in
set_option maxHeartbeats 4000000 in
theorem siter37 (m l b n c N0:Nat) (P0:Option Addr) (ls:List (List UInt8)) (A:Nat→Prop) (hm:1≤m) (hn:n≤100000) (J Jx:List (List UInt8)→World→Prop)
 (hY:∀ pre x W,J pre W→N0≤W.heap.size→pre.length<100001→YieldAt Fence.wide (m-1) Tryz.prog l (strArr x) W fun e W'=>
  ((e=.returned (.bool true)∧J (pre ++ [x]) W')∨(e=.returned (.bool false)∧Jx (pre ++ [x]) W'))∧Kept A W W')
 (W:World) (hBs:W.cell? ⟨b,0,none⟩=some (.slice P0 n c)) (hS:Vals W P0 n (strs ls)) (hP:0<n→∀ a,P0=some a→A a.block) (hN0:N0≤W.heap.size) (h0:J [] W):
 CallsIn Fence.wide m Tryz.prog 143 #[.func (.yield l) #[] #[],.pointer (some ⟨b,0,none⟩)] W fun e W'=>(∃ v,e=.returned v) ∧
  ((∃ ys,ys=ls∧J ys W')∨(∃ pre,pre <+: ls∧Jx pre W')):=by
 refine callsIn_of_wp Tryz.func143 rfl trivial ?_ rfl
 simp only [Tryz.ntmps143,List.size_toArray,List.length_cons,List.length_nil,Nat.reduceAdd,Nat.reduceSub,Array.replicate_succ,Array.replicate_zero,List.push_toArray,List.append_toArray,List.nil_append,List.cons_append]
 have HYY:=Lib.hid hY
 have HL:Hid (ls.length=n):=Lib.hid (by have:=hS.1;rwa [strs_length] at this)
 have HP:=Lib.hid hP
 have H0:Hid (SRel ls P0 n N0 J (.int .i64 (0:Nat)) W):=Lib.hid ⟨0,rfl,Nat.zero_le _,by rw [List.take_zero];exact h0,hS,hN0⟩
 clear hY hS h0 hP hN0
 gi_wp2
 gi_loopw [7] (fun i wr=>SRel ls P0 n N0 J i wr) (fun i _=>n-(intOf i).toNat)
 case atStart=>exact H0.out
 case round=>
  clear hBs H0
  obtain⟨k,rfl,hkn,hJr,hSr,hNr⟩:=hrel
  by_cases hlt:k<n
  · obtain⟨b2,off,rfl,hb2,hc⟩:=hSr.2 (by omega)
    have hkl:k<ls.length:=by rw [HL.out];exact hlt
    obtain⟨s,hs⟩:∃ s,ls[k]? = some s:=⟨_,List.getElem?_eq_getElem hkl⟩
    have h1:=hc k _ (strs_get hkl)
    have hgd:ls.getD k []=s:=by rw [List.getD_eq_getElem?_getD,hs];rfl
    rw [hgd] at h1
    have hlen:(ls.take k).length<100001:=by rw [List.length_take,HL.out];omega
    have hY2:=HYY.out (ls.take k) s wr hJr hNr hlen
    unfold strArr at hY2
    have hend:∀ W3,Kept A wr W3→J (ls.take k ++ [s]) W3→SRel ls (some ⟨b2,off,none⟩) n N0 J (.int .i64 ((k:Int)+1)) W3:=by
     intro W3 hk hj
     exact⟨k+1,by go_num,by omega,by rw [take_snocS hs];exact hj,hSr.keptS hk HP.out,Nat.le_trans hNr hk.1⟩
    have HST:Hid (ls.take k ++ [s] <+: ls):=Lib.hid (by rw [←take_snocS hs];exact List.take_prefix _ _)
    have HE:=Lib.hid hend
    obtain⟨T,hT⟩:∃ T,bs s=T:=⟨_,rfl⟩
    rw [hT] at h1 hY2
    clear hend hc hs hJr hSr hNr hT hlen hgd hkl
    obtain⟨fn,tmps,assign,body,hy,hR⟩:=hY2
    gi_wp2
    refine hR.mono ?_
    rintro e W3 ⟨⟨rfl,hJ3⟩ | ⟨rfl,hJx3⟩,hk3⟩
    · have R:=Lib.hid (HE.out W3 hk3 hJ3)
      clear HE
      gi_wp2
      go_roundw
      case rel=>exact R.out
      case measure=>simp [intOf];omega
    · gi_wp2
      refine bodyPost_ret (results_none rfl _ _ _) rfl ?_
      exact⟨⟨_,rfl⟩,.inr ⟨_,HST.out,hJx3⟩⟩
  · have hke:k=n:=by omega
    subst hke
    rw [List.take_of_length_le (by rw [HL.out];exact Nat.le_refl _)] at hJr
    have HJ3:=Lib.hid hJr
    clear hJr hSr
    gi_wp2
    go_end0
    exact⟨⟨_,rfl⟩,.inl ⟨_,rfl,HJ3.out⟩⟩
theorem sseq37 (m b n c:Nat) (P0:Option Addr) (ls:List (List UInt8)) (A:Nat→Prop) (w:World) (hm:1≤m) (hn:n≤100000) (hb:b<w.heap.size) (hBs:w.cell? ⟨b,0,none⟩=some (.slice P0 n c)) (hS:Vals w P0 n (strs ls))
 (hP:0<n→∀ a,P0=some a→A a.block∧a.block<w.heap.size):
 SeqOwn Fence.wide m Tryz.prog 143 #[.pointer (some ⟨b,0,none⟩)] strArr (fun _ W=>w.heap.size+2≤W.heap.size) A 0 0 (fun ys=>ys=ls) (fun pre=>pre <+: ls) 100001 w:=
 fun l J Jx W hW hsz hJ _ hY h0=>
  siter37 m l b n c (w.heap.size+2) P0 ls _ hm hn J Jx (fun pre x W1 hj hx hl=>hY pre x W1 hj hx hl) W ((hW.cell (p:=⟨b,0,none⟩) hb).trans hBs) (hS.below hW)
   (fun h a e=>⟨(hP h a e).1,by have:=(hP h a e).2;omega,by have:=(hP h a e).2;omega⟩) (by omega) h0
theorem values20 (A:Option Addr) (n c:Nat) (w:World):Calls Tryz.prog 113 #[.slice A n c] w fun e w'=>
 e=.returned (.func (.func 143) #[] #[.pointer (some ⟨w.heap.size,0,none⟩)])∧w'=w.alloc (.cells #[.slice A n c] 95):=by
 go_enter Tryz.func113,Tryz.ntmps113
 go_wp2
 go_ret
 exact⟨rfl,rfl⟩
def SqPost (ls:List (List UInt8)) (w:World) (e:Ending) (w':World):Prop:=
 Below w.heap.size w w'∧∃ v,e=.returned v∧w'.ownsRow w.heap.size 9 1 v ls.length (strs ls)
theorem info9s:(Tryz.prog.info? 9).map (fun i=>(i.zero,i.size,i.bytes))=some (some (.string ⟨#[]⟩),1,16):=by kernel_rfl
theorem leave59 {R:Ending→World→Prop} {Wf:World} {D m:Nat} {tmps:Array Value} {v:Value} (ht:tmps[4]?.getD undef=v) (hk:Wf.heap[D]? = some (.deferred (some []))) (h:R (.returned v) (Wf.putObj D (.deferred none))):
 LeavesInM Fence.wide m Tryz.prog Tryz.f181 tmps R [{ target:=.collected D,args:=#[] }] .returning Wf:=by
 refine⟨by simp,.inl ⟨_,_,rfl,run_takeDeferred hk,?_⟩⟩
 refine⟨v,?_,h⟩
 simp [results,Tryz.results181,go_sem,ht]
theorem mz {n:Nat} (h:n≤200000):n≤maxLen:=by simp only [maxLen];omega
theorem own_baseS {W:World} {base base':Nat} {e:TypeId} {size n:Nat} {v:Value} {xs:List Value} (h:W.ownsRow base e size v n xs) (hb:base'≤base):W.ownsRow base' e size v n xs:=by
 refine⟨h.1,?_⟩
 rcases h.2 with h0 | ⟨g,cap,cur,h1,h2,h3⟩
 · exact .inl h0
 · exact .inr ⟨g,cap,cur,h1,Nat.le_trans hb h2,h3⟩
set_option maxRecDepth 100000 in
set_option maxHeartbeats 4000000 in
theorem appendseq59 (b n c:Nat) (P0:Option Addr) (ls:List (List UInt8)) (w:World) (hn:n≤100000) (hb:b<w.heap.size) (hBs:w.cell? ⟨b,0,none⟩=some (.slice P0 n c)) (hS:Vals w P0 n (strs ls)):
 Calls Tryz.prog 181 #[.slice none 0 0,.func (.func 143) #[] #[.pointer (some ⟨b,0,none⟩)]] w (SqPost ls w):=by
 obtain⟨i0,hi,hz0,hz1,hz2⟩:=info_parts info9s
 have hb0:Below w.heap.size w (w.alloc (.cells #[.slice none 0 0] 95)):=(Below.refl _ _).alloc (Nat.le_refl _) _
 have n0:=box_new w (.slice none 0 0) 95
 have s0:(w.alloc (.cells #[.slice none 0 0] 95)).heap.size=w.heap.size+1:=by simp
 have hq:=sseq37 7 b n c P0 ls (fun k=>k≠w.heap.size∧k<w.heap.size+3) (w.alloc (.cells #[.slice none 0 0] 95)) (by omega) hn (by omega) ((hb0.cell (p:=⟨b,0,none⟩) hb).trans hBs) (hS.below hb0) (fun h a e=>by have:=hS.ltS h a e;omega)
 have h0:GotI w w.heap.size (w.heap.size+3) 9 1 0 [] (w.alloc (.cells #[.slice none 0 0] 95)):=⟨⟨_,n0,World.ownsRow_nil _ _ _ _⟩,hb0⟩
 refine (callsIn_wide (n:=8)).1 ?_
 refine callsIn_of_wp_marks Tryz.func181 rfl trivial ?_ rfl
 simp only [Tryz.ntmps181,List.size_toArray,List.length_cons,List.length_nil,Nat.reduceAdd,Nat.reduceSub,Array.replicate_succ,Array.replicate_zero,List.push_toArray,List.append_toArray,List.nil_append,List.cons_append]
 have HQ:=Lib.hid hq
 have H0:=Lib.hid h0
 have HS0:=Lib.hid s0
 clear hq h0 n0 hb0 s0 hS hBs
 gi_wp2
 refine range_own1 rfl (by omega) rfl trivial (enters_of Tryz.func143 (by kernel_rfl) rfl) HQ.out (Nat.zero_le _) ⟨by rw [HS0.out];omega,by rw [HS0.out];omega⟩ ⟨by rw [HS0.out];omega,by rw [HS0.out];omega⟩ (fun _=>rfl) (fun x _ W1 W2 row hs hg hr=>Nat.le_trans hs hg.size)
  (fun pre W=>GotI w w.heap.size (w.heap.size+3) 9 1 pre.length (strs pre) W) (fun _ _ _=>False) (got_abide _ _ _ _ _ _ _ _ (by rw [HS0.out];omega)) (fun _=>Abide.pure _ _ _ _) H0.out ?a1 ?assign ?body ?done ?stop
 case assign=>
  rintro l x W K hK
  simp only [strArr]
  gi_wp2
  exact hK
 case body=>
  rintro l pre x W ⟨⟨v,⟨hv,hf⟩,hown⟩,hbW⟩ hr hlen
  obtain⟨T,hT⟩:∃ T,bs x=T:=⟨_,rfl⟩
  have hsn:=strs_snocS pre x
  rw [hT] at hsn
  have n2:pre.length+1≤200000:=by omega
  have m3:=mz n2
  have m4:(pre.length+1)*16≤140737488355328:=by omega
  have hend:=fun (w2:World) (v':Value) (o:Obj) ho' hg=>@got_next w W w2 w.heap.size (w.heap.size+3) 9 1 pre.length (strs pre) [.string T] v v' o hv hf hown hbW ho' hg (Nat.le_refl _) (by omega)
  have hbase:w.heap.size+3≤W.heap.size:=by have:=HS0.out;omega
  have HE:=Lib.hid hend
  have HSN:=Lib.hid hsn
  have HOW:=Lib.hid hown
  obtain⟨Av,cv,rfl,-⟩:=own_shape hown
  clear hend hsn hr hbW hown
  simp only [hT]
  clear hT
  gi_wp2_with (gi_at_builtin;refine append_lit_in rfl _ _ 95 rfl (w.heap.size+3) 9 i0 (.string ⟨#[]⟩) 1 16 Tryz.underlying95 hi hz0 hz1 hz2 rfl (by decide) _ _ _ rfl HOW.out [.string T] rfl (by simp [Value.oneCell']) rfl m3 m4 hbase ?_;intro v' w2 hown' hg' hgr';obtain⟨R1,R2,kc1,kc2⟩:=HE.out w2 v' _ hown' hg';have HR:=Lib.hid (And.intro R1 R2);obtain⟨Av2,cv2,rfl,-⟩:=own_shape hown';clear hown' hg' hgr' R1 R2)
  rw [←HSN.out] at HR
  exact⟨HR.out.1,by show GotI w w.heap.size (w.heap.size+3) 9 1 (pre ++ [x]).length (strs (pre ++ [x])) _;rw [List.length_append];exact HR.out.2⟩
 case done=>
  rintro D xs W hD rfl ⟨⟨v,⟨hv,hf⟩,hown⟩,hbW⟩ hKD
  have hfin:SqPost xs w (.returned v) (W.putObj D (.deferred none)):=
   ⟨hbW.trans (belowK_b (w:=w) (Nat.le_refl _) W D _ _ (by have:=HS0.out;omega) hKD rfl rfl),v,rfl,own_abide (β:=Unit) (B:=D) () _ _ _ (own_baseS hown (by omega)) (grownBy_putObj' W D (.deferred none)) (fun r e=>by cases e;exact .inr ⟨Nat.le_refl _,_,hKD,rfl⟩)⟩
  have HFN:=Lib.hid hfin
  obtain⟨Av,cv,rfl,-⟩:=own_shape hown
  clear hfin hown hbW
  gi_wp2
  exact leave59 rfl hKD HFN.out
 case stop=>
  rintro D c pre W _ _ h _
  exact h.elim
theorem collect35 (b n c:Nat) (P0:Option Addr) (ls:List (List UInt8)) (w:World) (hn:n≤100000) (hb:b<w.heap.size) (hBs:w.cell? ⟨b,0,none⟩=some (.slice P0 n c)) (hS:Vals w P0 n (strs ls)):
 Calls Tryz.prog 141 #[.func (.func 143) #[] #[.pointer (some ⟨b,0,none⟩)]] w (SqPost ls w):=by
 have c59:=appendseq59 b n c P0 ls w hn hb hBs hS
 clear hBs hS
 go_enter Tryz.func141,Tryz.ntmps141
 go_wp2_with (go_at_call 181;(with_reducible refine c59.mono ?_);rintro e w1 ⟨hb1,v,rfl,ho⟩)
 go_ret
 exact⟨hb1,v,rfl,ho⟩
def ascOf (ls:List (List UInt8)):List (List UInt8):=ls.mergeSort fun x y=>decide (x≤y)
theorem asc_perm (ls:List (List UInt8)):(ascOf ls).Perm ls:=List.mergeSort_perm _ _
theorem asc_asc (ls:List (List UInt8)):Asc (ascOf ls):=by
 have h:=List.pairwise_mergeSort (le:=fun x y:List UInt8=>decide (x≤y)) (fun a b c h1 h2=>by
  simp only [decide_eq_true_eq] at h1 h2 ⊢
  exact List.le_trans h1 h2) (fun a b=>by
  simp only [Bool.or_eq_true,decide_eq_true_eq]
  exact List.le_total a b) ls
 exact h.imp (fun h=>by simpa using h)
def StPost (ls:List (List UInt8)) (w:World) (e:Ending) (w':World):Prop:=
 Below w.heap.size w w'∧∃ A c,e=.returned (.slice A ls.length c)∧Hid (Vals w' A ls.length (strs (ascOf ls))∧∀ a,A=some a→w.heap.size≤a.block∧a.block<w'.heap.size)
theorem sorted19 (b n c:Nat) (P0:Option Addr) (ls:List (List UInt8)) (w:World) (hn:n≤100000) (hb:b<w.heap.size) (hBs:w.cell? ⟨b,0,none⟩=some (.slice P0 n c)) (hS:Vals w P0 n (strs ls)):
 Calls Tryz.prog 112 #[.func (.func 143) #[] #[.pointer (some ⟨b,0,none⟩)]] w (StPost ls w):=by
 have hlen:ls.length=n:=by have:=hS.1;rwa [strs_length] at this
 have c35:=collect35 b n c P0 ls w hn hb hBs hS
 have hsz:ls.length<4611686018427387904:=by omega
 clear hBs hS hlen
 go_enter Tryz.func112,Tryz.ntmps112
 go_wp2_with (go_at_call 141;(with_reducible refine c35.mono ?_);rintro e W ⟨hb1,v,rfl,ho⟩)
 rcases ho.2 with ⟨rfl,hz⟩ | ⟨gb,cap,cur,rfl,hbase,hgb,r1,r2,r3,r4⟩
 · have hss:ls = []:=List.eq_nil_of_length_eq_zero hz
   subst hss
   have c36:=Tryz.slices_Sort_none none 0 W
   go_wp2_with (go_at_call 142;(with_reducible refine c36.mono ?_);rintro e w' ⟨rfl,rfl⟩)
   go_ret
   refine⟨hb1,none,0,rfl,Lib.hid ⟨?_,fun a e=>by cases e⟩⟩
   rw [show ascOf [] = [] by unfold ascOf;simp]
   exact Vals.nil _ _
 · have hH:Holds encStr W gb 0 ls.toArray:=holds_of_block hgb (by rw [Nat.mul_one] at r4;exact r4)
   have hgl:gb<W.heap.size:=(Array.getElem?_eq_some_iff.1 hgb).1
   have c36:=Tryz.slices_Sort gb 0 cap ls W hH hgl hsz
   have hrow:=fun nn os=>ownsRow_sorted (w:=W) (base:=w.heap.size) (n:=nn) (os:=os) (ss:=ls) (ts:=ascOf ls) (by unfold ascOf;simp) hbase hgb r1 r2 r3
   have hgr:=fun nn os=>hb1.grown (grownBy_sorted (w:=W) (g:=gb) (n:=nn) (os:=os) (ascOf ls).toArray) hb1.size (fun j hj=>by cases hj;exact hbase)
   have HR:=Lib.hid hrow
   have HG:=Lib.hid hgr
   clear hrow hgr hH ho r3 r4 hgb c35
   go_wp2_with (go_at_call 142;(with_reducible refine c36.mono ?_);rintro e w' ⟨rfl,nn,os,rfl⟩)
   go_ret
   obtain⟨A,c',e,h1,h2,h3⟩:=own_vals (HR.out nn os)
   injection e with e1 e2 e3
   subst e1
   refine⟨HG.out nn os,_,cap,rfl,Lib.hid ⟨h2,fun a e=>?_⟩⟩
   cases e
   exact⟨hbase,by have:=(HR.out nn os).lt gb rfl;exact this.2⟩
end Go.Proofs.YtbkgbhlmeeodgaaGreatDoor.Pq
namespace Go.Proofs.YtbkgbhlmeeodgaaGreatDoor.Pq
open Go.RowKit Go.Shelf
def PrPost (vs:List (List UInt8)) (l:List UInt8) (w:World) (e:Ending) (w':World):Prop:=
 Below w.heap.size w w'∧(((propOf vs (linesIn l)).err=0∧∃ b A c,e=.returned (.tuple #[.pointer (some ⟨b,0,none⟩),.int .i64 0,.int .i64 0])∧TIn w' (some ⟨b,0,none⟩) A c (sorted (propOf vs (linesIn l)).rows)) ∨
  (¬(propOf vs (linesIn l)).err=0∧e=.returned (.tuple #[.pointer none,.int .i64 (propOf vs (linesIn l)).err,.int .i64 (propOf vs (linesIn l)).num])))
theorem prp_rows:∀ (vs:List (List UInt8)) (L:List Ln) (out:List Sp),¬(propP vs out L).err=0→(propP vs out L).rows = []
 | vs,[],out,h=>by rw [propP] at h;exact absurd rfl h
 | vs,x::L,out,h=>by
  by_cases hx:lineErr x.2=0
  · cases ha:amongB vs (pfld x.2 1) with
    | false=>rw [prp_skip hx ha] at h ⊢;exact prp_rows vs L out h
    | true=>
     by_cases hc:check out (spOf x.2)=0
     · rw [prp_add hx ha hc] at h ⊢;exact prp_rows vs L _ h
     · rw [prp_bad hx ha hc]
  · rw [prp_err hx]
theorem prp_good (vs:List (List UInt8)) (L:List Ln):Good (sorted (propOf vs L).rows):=by
 by_cases h:(propOf vs L).err=0
 · obtain⟨-,h2,-⟩:=prp_inv vs L [] h
   have ha:addAll [] (selS vs L)=.ok (sorted (propP vs [] L).rows):=by
    have:=addAll_came (selS vs L) []
    rw [h2] at this
    exact this
   exact (addAll_good _ [] _ ⟨List.Pairwise.nil,fun s h=>by cases h⟩ ha).1
 · rw [show (propOf vs L).rows = [] from prp_rows vs L [] h]
   exact⟨List.Pairwise.nil,fun s h=>by cases h⟩
theorem lines_few {l:List UInt8}:(linesIn l).length≤l.length+1:=by
 rw [←lines_pieces]
 have h1:=List.length_filterMap_le lineOf (numbered 1 (pieces l))
 rw [numbered_length] at h1
 have h2:=pieces_length l
 omega
theorem prp_many (vs:List (List UInt8)) (l:List UInt8):(propOf vs (linesIn l)).rows.length≤l.length+1:=by
 have h1:=prp_len vs (linesIn l) []
 have h2:=lines_few (l:=l)
 have h3:(propOf vs (linesIn l)).rows.length≤([]:List Sp).length+(linesIn l).length:=h1
 simp at h3
 omega
theorem came_list:∀ (l acc r:List Sp),came acc l=.ok r→r=acc++l
 | [],acc,r,h=>by rw [came] at h;injection h with h;simp [h]
 | s::l,acc,r,h=>by
  rw [came] at h
  split at h
  · rw [came_list l _ r h];simp
  · cases h
inductive St where
 | at (out:List Sp)
 | bad (e n:Int)
def step (vs:List (List UInt8)):St→Ln→St
 | .bad e n,_=>.bad e n
 | .at out,x=>if ¬lineErr x.2=0 then .bad (lineErr x.2) x.1 else if amongB vs (pfld x.2 1)=false then .at out else if ¬check out (spOf x.2)=0 then .bad (check out (spOf x.2)) x.1 else .at (out ++ [spOf x.2])
def fin:St→PRes
 | .at out=>⟨out,0,0⟩
 | .bad e n=>⟨[],e,n⟩
theorem step_err {vs:List (List UInt8)} {out:List Sp} {x:Ln} (h:¬lineErr x.2=0):step vs (.at out) x=.bad (lineErr x.2) x.1:=by rw [step,if_pos h]
theorem step_skip {vs:List (List UInt8)} {out:List Sp} {x:Ln} (h:lineErr x.2=0) (ha:amongB vs (pfld x.2 1)=false):step vs (.at out) x=.at out:=by rw [step,if_neg (by simpa using h),if_pos ha]
theorem step_bad {vs:List (List UInt8)} {out:List Sp} {x:Ln} (h:lineErr x.2=0) (ha:amongB vs (pfld x.2 1)=true) (hc:¬check out (spOf x.2)=0):step vs (.at out) x=.bad (check out (spOf x.2)) x.1:=by rw [step,if_neg (by simpa using h),if_neg (by rw [ha];simp),if_pos hc]
theorem step_add {vs:List (List UInt8)} {out:List Sp} {x:Ln} (h:lineErr x.2=0) (ha:amongB vs (pfld x.2 1)=true) (hc:check out (spOf x.2)=0):step vs (.at out) x=.at (out ++ [spOf x.2]):=by rw [step,if_neg (by simpa using h),if_neg (by rw [ha];simp),if_neg (by simpa using hc)]
theorem fold_bad (vs:List (List UInt8)) (e n:Int):∀ L:List Ln,L.foldl (step vs) (.bad e n)=.bad e n
 | []=>rfl
 | x::L=>by rw [List.foldl_cons];exact fold_bad vs e n L
theorem fold_prop (vs:List (List UInt8)):∀ (L:List Ln) (out:List Sp),fin (L.foldl (step vs) (.at out))=propP vs out L
 | [],out=>rfl
 | x::L,out=>by
  rw [List.foldl_cons]
  by_cases hx:lineErr x.2=0
  · cases ha:amongB vs (pfld x.2 1) with
    | false=>rw [step_skip hx ha,prp_skip hx ha];exact fold_prop vs L out
    | true=>
     by_cases hc:check out (spOf x.2)=0
     · rw [step_add hx ha hc,prp_add hx ha hc];exact fold_prop vs L _
     · rw [step_bad hx ha hc,prp_bad hx ha hc,fold_bad];rfl
  · rw [step_err hx,prp_err hx,fold_bad];rfl
def stOf (vs:List (List UInt8)) (xs:List LnV):St:=(xs.map view).foldl (step vs) (.at [])
theorem st_snoc (vs:List (List UInt8)) (xs:List LnV) (x:LnV):stOf vs (xs ++ [x])=step vs (stOf vs xs) (view x):=by unfold stOf;rw [List.map_append,List.foldl_append];rfl
theorem st_bad {vs:List (List UInt8)} {xs:List LnV} {l:List Ln} {e n:Int} (h:stOf vs xs=.bad e n) (hp:xs.map view <+: l):propOf vs l=⟨[],e,n⟩:=by
 obtain⟨r,rfl⟩:=hp
 unfold propOf
 rw [←fold_prop,List.foldl_append]
 unfold stOf at h
 rw [h,fold_bad]
 rfl
theorem st_all {vs:List (List UInt8)} {xs:List LnV} {l:List Ln} {s:St} (h:stOf vs xs=s) (hp:xs.map view=l):propOf vs l=fin s:=by
 unfold propOf
 rw [←fold_prop,←h,←hp]
 rfl
theorem came_at {vs:List (List UInt8)} {xs:List LnV} {out:List Sp} (h:stOf vs xs=.at out):addAll [] out=.ok (sorted out):=by
 have h1:propOf vs (xs.map view)=⟨out,0,0⟩:=st_all h rfl
 obtain⟨-,h2,-⟩:=prp_inv vs (xs.map view) [] (by show (propOf vs (xs.map view)).err=0;rw [h1])
 have h3:(propP vs [] (xs.map view)).rows=out:=by show (propOf vs (xs.map view)).rows=out;rw [h1]
 rw [h3] at h2
 have h4:=addAll_came (selS vs (xs.map view)) []
 rw [h2] at h4
 have e:selS vs (xs.map view)=out:=by
  have:=came_list _ [] _ h2
  simpa using this.symm
 rw [e] at h4
 exact h4
theorem own_same {W W':World} {base n size:Nat} {e:TypeId} {v:Value} {xs:List Value} (h:W.ownsRow base e size v n xs) (hk:∀ k,v.ownBlock=some k→W'.heap[k]? = W.heap[k]?):W'.ownsRow base e size v n xs:=by
 refine⟨h.1,?_⟩
 rcases h.2 with hn | ⟨g,cap,cur,rfl,hbg,hgg,rest⟩
 · exact .inl hn
 · exact .inr ⟨g,cap,cur,rfl,hbg,by rw [hk g rfl];exact hgg,rest⟩
def Two (tb sb base:Nat) (ws:List Nat) (out:List Sp) (W:World):Prop:=
 ∃ vt vp,((W.cell? ⟨tb,0,none⟩=some vt∧W.frozen? ⟨tb,0,none⟩=false)∧W.ownsRow base 224 1 vt ws.length (words ws))∧((W.cell? ⟨sb,0,none⟩=some vp∧W.frozen? ⟨sb,0,none⟩=false)∧W.ownsRow base 176 3 vp out.length (spvs out))∧∀ k,vt.ownBlock=some k→vp.ownBlock≠some k
theorem Two.set {tb sb base:Nat} {ws:List Nat} {out:List Sp} {W:World} (h:Two tb sb base ws out W):RowAt tb base 224 1 ws.length (words ws) W:=by
 obtain⟨vt,vp,h1,-,-⟩:=h
 exact⟨vt,h1⟩
theorem Two.row {tb sb base:Nat} {ws:List Nat} {out:List Sp} {W:World} (h:Two tb sb base ws out W):RowAt sb base 176 3 out.length (spvs out) W:=by
 obtain⟨vt,vp,-,h1,-⟩:=h
 exact⟨vp,h1⟩
theorem two_add {tb sb base:Nat} {ws ws':List Nat} {out:List Sp} {W W':World} (h:Two tb sb base ws out W) (hts:tb≠sb) (htb:tb<base) (hsb:sb<base) (hr:RowAt tb base 224 1 ws'.length (words ws') W') (hh:Hold (GA tb) W W'):
 Two tb sb base ws' out W'∧Hold (fun W k=>GA tb W k∧GA sb W k) W W':=by
 obtain⟨vt,vp,⟨⟨c1,f1⟩,o1⟩,⟨⟨c2,f2⟩,o2⟩,hap⟩:=h
 obtain⟨vt',⟨c1',f1'⟩,o1'⟩:=hr
 have hsl:sb<W.heap.size:=World.block_lt_of_cell? W _ c2
 have hs:=hh.2 sb ⟨vt,c1,(Ne.symm hts),fun e=>by have:=(o1.lt sb e).1;omega⟩ hsl
 have c2':W'.cell? ⟨sb,0,none⟩=some vp:=(World.cell?_of_block (a:=⟨sb,0,none⟩) hs.1).trans c2
 have hrow:∀ k,vp.ownBlock=some k→W'.heap[k]? = W.heap[k]? ∧ GA tb W' k:=fun k e=>hh.2 k ⟨vt,c1,fun e'=>by have:=(o2.lt k e).1;omega,fun e'=>hap k e' e⟩ (o2.lt k e).2
 refine⟨⟨vt',vp,⟨⟨c1',f1'⟩,o1'⟩,⟨⟨c2',(World.frozen?_of_block (a:=⟨sb,0,none⟩) hs.1).trans f2⟩,own_same o2 fun k e=>(hrow k e).1⟩,fun k e e'=>?_⟩,hh.1,fun k ha hk=>?_⟩
 · obtain⟨u,hu,-,hne⟩:=(hrow k e').2
   rw [c1'] at hu
   cases hu
   exact hne e
 · obtain⟨u,hu,h2,h3⟩:=ha.2
   rw [c2] at hu
   cases hu
   have q:=hh.2 k ha.1 hk
   exact⟨q.1,q.2,vp,c2',h2,h3⟩
theorem two_app {tb sb base:Nat} {ws:List Nat} {out out':List Sp} {W W':World} (h:Two tb sb base ws out W) (hts:tb≠sb) (htb:tb<base) (hsb:sb<base) (hr:RowAt sb base 176 3 out'.length (spvs out') W') (hh:Hold (GA sb) W W'):
 Two tb sb base ws out' W'∧Hold (fun W k=>GA tb W k∧GA sb W k) W W':=by
 obtain⟨vt,vp,⟨⟨c1,f1⟩,o1⟩,⟨⟨c2,f2⟩,o2⟩,hap⟩:=h
 obtain⟨vp',⟨c2',f2'⟩,o2'⟩:=hr
 have htl:tb<W.heap.size:=World.block_lt_of_cell? W _ c1
 have hs:=hh.2 tb ⟨vp,c2,hts,fun e=>by have:=(o2.lt tb e).1;omega⟩ htl
 have c1':W'.cell? ⟨tb,0,none⟩=some vt:=(World.cell?_of_block (a:=⟨tb,0,none⟩) hs.1).trans c1
 have hrow:∀ k,vt.ownBlock=some k→W'.heap[k]? = W.heap[k]? ∧ GA sb W' k:=fun k e=>hh.2 k ⟨vp,c2,fun e'=>by have:=(o1.lt k e).1;omega,fun e'=>hap k e e'⟩ (o1.lt k e).2
 refine⟨⟨vt,vp',⟨⟨c1',(World.frozen?_of_block (a:=⟨tb,0,none⟩) hs.1).trans f1⟩,own_same o1 fun k e=>(hrow k e).1⟩,⟨⟨c2',f2'⟩,o2'⟩,fun k e e'=>?_⟩,hh.1,fun k ha hk=>?_⟩
 · obtain⟨u,hu,-,hne⟩:=(hrow k e).2
   rw [c2'] at hu
   cases hu
   exact hne e'
 · obtain⟨u,hu,h2,h3⟩:=ha.1
   rw [c1] at hu
   cases hu
   have q:=hh.2 k ha.2 hk
   exact⟨q.1,⟨vt,c1',h2,h3⟩,q.2⟩
theorem two_abide {β:Type} {B tb sb base:Nat} (ws:β → List Nat) (out:β → List Sp):Abide 0 0 B (fun s W=>Two tb sb base (ws s) (out s) W):=by
 intro s W W' row ⟨vt,vp,⟨h1,h2⟩,⟨h3,h4⟩,h5⟩ hg hr
 exact⟨vt,vp,⟨abide_cell (β:=Unit) (B:=B) (fun _=>⟨tb,0,none⟩) (fun _=>vt) (fun _=>by omega) () W W' row h1 hg hr,own_abide (β:=Unit) (B:=B) () W W' row h2 hg hr⟩,⟨abide_cell (β:=Unit) (B:=B) (fun _=>⟨sb,0,none⟩) (fun _=>vp) (fun _=>by omega) () W W' row h3 hg hr,own_abide (β:=Unit) (B:=B) () W W' row h4 hg hr⟩,h5⟩
theorem Two.below {tb sb base:Nat} {ws:List Nat} {out:List Sp} {W W':World} (h:Two tb sb base ws out W) (hb:Below W.heap.size W W'):Two tb sb base ws out W':=(two_abide (β:=Unit) (B:=W.heap.size) (fun _=>ws) (fun _=>out)).below (s:=()) h hb
def RB3 (H:Nat) (p:Option Addr) (e n:Int) (W:World):Prop:=
 (W.cell? ⟨H,0,none⟩=some (.pointer p)∧W.frozen? ⟨H,0,none⟩=false)∧((W.cell? ⟨H+1,0,none⟩=some (.int .i64 e)∧W.frozen? ⟨H+1,0,none⟩=false)∧(W.cell? ⟨H+2,0,none⟩=some (.int .i64 n)∧W.frozen? ⟨H+2,0,none⟩=false))
theorem rb3_abide {β:Type} {B:Nat} (H:Nat) (p:β → Option Addr) (e n:β → Int):Abide 0 0 B (fun s W=>RB3 H (p s) (e s) (n s) W):=
 Abide.and (abide_cell (fun _=>⟨H,0,none⟩) (fun s=>.pointer (p s)) (fun _=>by omega)) (Abide.and (abide_cell (fun _=>⟨H+1,0,none⟩) (fun s=>.int .i64 (e s)) (fun _=>by omega)) (abide_cell (fun _=>⟨H+2,0,none⟩) (fun s=>.int .i64 (n s)) (fun _=>by omega)))
theorem RB3.below {H:Nat} {p:Option Addr} {e n:Int} {W W':World} (h:RB3 H p e n W) {B:Nat} (hl:H+2<B) (hb:Below B W W'):RB3 H p e n W':=
 ⟨⟨(hb.cell (p:=⟨H,0,none⟩) (by show H<B;omega)).trans h.1.1,(hb.frozen (p:=⟨H,0,none⟩) (by show H<B;omega)).trans h.1.2⟩,⟨(hb.cell (p:=⟨H+1,0,none⟩) (by show H+1<B;omega)).trans h.2.1.1,(hb.frozen (p:=⟨H+1,0,none⟩) (by show H+1<B;omega)).trans h.2.1.2⟩,(hb.cell (p:=⟨H+2,0,none⟩) (by show H+2<B;omega)).trans h.2.2.1,(hb.frozen (p:=⟨H+2,0,none⟩) (by show H+2<B;omega)).trans h.2.2.2⟩
theorem rb3_lt {H:Nat} {p:Option Addr} {e n:Int} {W:World} (h:RB3 H p e n W):H+2<W.heap.size:=World.block_lt_of_cell? W _ h.2.2.1
def rb3_set (H:Nat) (p:Option Addr) (e n:Int) (W:World):World:=((W.setCell ⟨H,0,none⟩ (.pointer p)).setCell ⟨H+1,0,none⟩ (.int .i64 e)).setCell ⟨H+2,0,none⟩ (.int .i64 n)
theorem rb3_new {H:Nat} {p p':Option Addr} {e n e' n':Int} {W:World} (h:RB3 H p e n W):RB3 H p' e' n' (rb3_set H p' e' n' W):=by
 obtain⟨⟨h1,h2⟩,⟨h3,h4⟩,h5,h6⟩:=h
 unfold rb3_set
 refine⟨⟨by simp [go_sem,h1],?_⟩,⟨by simp [go_sem,h3],?_⟩,by simp [go_sem,h5],?_⟩ <;> simp only [World.frozen?_setCell] <;> assumption
theorem rb3_other {H k:Nat} {p:Option Addr} {e n:Int} {W:World} (h:k≠H∧k≠H+1∧k≠H+2):(rb3_set H p e n W).heap[k]? = W.heap[k]?:=by
 unfold rb3_set
 rw [heap_setCell_other _ ⟨H+2,0,none⟩ k _ (fun e=>h.2.2 (by simpa using e)),heap_setCell_other _ ⟨H+1,0,none⟩ k _ (fun e=>h.2.1 (by simpa using e)),heap_setCell_other _ ⟨H,0,none⟩ k _ (fun e=>h.1 (by simpa using e))]
theorem rb3_size {H:Nat} {p:Option Addr} {e n:Int} {W:World}:(rb3_set H p e n W).heap.size=W.heap.size:=by unfold rb3_set;simp only [World.size_setCell]
theorem rb3_below {w:World} {p:Option Addr} {e n:Int} {W:World} (h:Below w.heap.size w W):Below w.heap.size w (rb3_set w.heap.size p e n W):=by
 unfold rb3_set
 exact ((h.setCell (p:=⟨w.heap.size,0,none⟩) (Nat.le_refl _) _).setCell (p:=⟨w.heap.size+1,0,none⟩) (by show w.heap.size≤w.heap.size+1;omega) _).setCell (p:=⟨w.heap.size+2,0,none⟩) (by show w.heap.size≤w.heap.size+2;omega) _
def PA (H tb sb:Nat) (W:World) (k:Nat):Prop:=(GA tb W k∧GA sb W k)∧(k≠H∧k≠H+1∧k≠H+2)
theorem both_lets (tb sb:Nat):Lets (fun W k=>GA tb W k∧GA sb W k):=fun W W' row k ha hg hr=>⟨ga_lets tb W W' row k ha.1 hg hr,ga_lets sb W W' row k ha.2 hg hr⟩
theorem pa_lets (H tb sb:Nat):Lets (PA H tb sb):=(both_lets tb sb).and _
theorem pa_hold {H tb sb:Nat} {W W':World} (h:Hold (fun W k=>GA tb W k∧GA sb W k) W W'):Hold (PA H tb sb) W W':=⟨h.1,fun k ha hk=>have q:=h.2 k ha.1 hk;⟨q.1,q.2,ha.2⟩⟩
theorem rb3_hold {H tb sb:Nat} {p:Option Addr} {e n:Int} {W:World} (ht:tb≠H∧tb≠H+1∧tb≠H+2) (hs:sb≠H∧sb≠H+1∧sb≠H+2):Hold (PA H tb sb) W (rb3_set H p e n W):=
 ⟨by rw [rb3_size];exact Nat.le_refl _,fun k ha _=>⟨rb3_other ha.2,(by
  obtain⟨⟨⟨v,h1,h2⟩,u,h3,h4⟩,h5⟩:=ha
  exact⟨⟨⟨v,(World.cell?_of_block (a:=⟨tb,0,none⟩) (rb3_other ht)).trans h1,h2⟩,u,(World.cell?_of_block (a:=⟨sb,0,none⟩) (rb3_other hs)).trans h3,h4⟩,h5⟩)⟩⟩
def AskW (qb:Nat) (Aq:Option Addr) (nq cq:Nat) (ss:List (List UInt8)) (W:World):Prop:=W.cell? ⟨qb,0,none⟩=some (.slice Aq nq cq)∧Vals W Aq nq (strs ss)
theorem vals_abide {β:Type} {B:Nat} {A:Option Addr} {n:Nat} {vs:List Value}:Abide 0 0 B (fun (_:β) W=>Vals W A n vs):=by
 intro s W W' row h hg hr
 refine⟨h.1,fun hn=>?_⟩
 obtain⟨b,off,rfl,hlt,hc⟩:=h.2 hn
 exact⟨b,off,rfl,Nat.lt_of_lt_of_le hlt hg.size,fun j v hj=>cell_abide (β:=Unit) (B:=B) _ _ () W W' row (hc j v hj) hg hr⟩
theorem ask_abide {β:Type} {B qb nq cq:Nat} {Aq:Option Addr} {ss:List (List UInt8)}:Abide 0 0 B (fun (_:β) W=>AskW qb Aq nq cq ss W):=Abide.and (cell_abide _ _) vals_abide
theorem vals_under {W W':World} {A:Option Addr} {n B:Nat} {vs:List Value} (h:Vals W A n vs) (hA:∀ a,A=some a→a.block<B) (hb:Below B W W') (hs:W.heap.size≤W'.heap.size):Vals W' A n vs:=by
 refine⟨h.1,fun hn=>?_⟩
 obtain⟨b,off,rfl,hlt,hc⟩:=h.2 hn
 exact⟨b,off,rfl,Nat.lt_of_lt_of_le hlt hs,fun j v hj=>(hb.cell (p:=⟨b,off+j,none⟩) (hA ⟨b,off,none⟩ rfl)).trans (hc j v hj)⟩
theorem AskW.under {qb nq cq B:Nat} {Aq:Option Addr} {ss:List (List UInt8)} {W W':World} (h:AskW qb Aq nq cq ss W) (hq:qb<B) (hA:∀ a,Aq=some a→a.block<B) (hb:Below B W W') (hs:W.heap.size≤W'.heap.size):AskW qb Aq nq cq ss W':=
 ⟨(hb.cell (p:=⟨qb,0,none⟩) hq).trans h.1,vals_under h.2 hA hb hs⟩
def Pl (vs:List (List UInt8)) (pre:List LnV) (ws:List Nat) (out:List Sp):Prop:=(stOf vs pre=.at out∧out.length≤pre.length)∧(Tells ws out∧ws.length≤17408)∧∀ t∈out,Fit t
def PqI (w:World) (qb base:Nat) (Aq:Option Addr) (nq cq:Nat) (vs:List (List UInt8)) (pre:List LnV) (W:World):Prop:=
 ∃ s:List Nat×List Sp,Pl vs pre s.1 s.2∧(Two (qb+1) (qb+2) base s.1 s.2 W∧(RB3 w.heap.size none 0 0 W∧(AskW qb Aq nq cq (ascOf vs) W∧(ML W∧Below w.heap.size w W))))
def PpX (w:World) (vs:List (List UInt8)) (c:Code) (pre:List LnV) (W:World):Prop:=
 ∃ s:Int×Int,(c=.ret∧stOf vs pre=.bad s.1 s.2∧¬s.1=0)∧(RB3 w.heap.size none s.1 s.2 W∧Below w.heap.size w W)
theorem pqi_abide (w:World) (qb base:Nat) (Aq:Option Addr) (nq cq:Nat) (vs:List (List UInt8)) (B:Nat) (hB:w.heap.size≤B):Abide 0 0 B (PqI w qb base Aq nq cq vs):=by
 intro pre W W' row ⟨s,h1,h2,h3,h4,h5,h6⟩ hg hr
 exact⟨s,h1,two_abide (β:=Unit) (B:=B) (fun _=>s.1) (fun _=>s.2) () W W' row h2 hg hr,rb3_abide (β:=Unit) (B:=B) _ (fun _=>none) (fun _=>0) (fun _=>0) () W W' row h3 hg hr,ask_abide (β:=Unit) (B:=B) () W W' row h4 hg hr,ml_abide (β:=Unit) (B:=B) () W W' row h5 hg hr,abide_below (β:=Unit) w (.inr (by omega)) hB (Nat.le_refl _) () W W' row h6 hg hr⟩
theorem ppx_abide (w:World) (vs:List (List UInt8)) (B:Nat) (hB:w.heap.size≤B) (c:Code):Abide 0 0 B (PpX w vs c):=by
 intro pre W W' row ⟨s,h1,h3,h5⟩ hg hr
 exact⟨s,h1,rb3_abide (β:=Unit) (B:=B) _ (fun _=>none) (fun _=>s.1) (fun _=>s.2) () W W' row h3 hg hr,abide_below (β:=Unit) w (.inr (by omega)) hB (Nat.le_refl _) () W W' row h5 hg hr⟩
theorem two_free {tb sb base:Nat} {ws:List Nat} {out:List Sp} {W:World} (h:Two tb sb base ws out W):∀ k,W.heap.size≤k→GA tb W k∧GA sb W k:=fun k hk=>⟨row_free h.set k hk,row_free h.row k hk⟩
theorem point_le {l:List UInt8} {c:Nat} (h:point l=some c):c≤1114111:=by
 unfold point at h
 cases hx:hexv 0 l with
 | none=>rw [hx] at h;cases h
 | some d=>
  rw [hx] at h
  simp only [Option.bind_some] at h
  split at h
  · injection h with h
    rename_i h2
    omega
  · cases h
theorem range_ok {l:List UInt8} (h:(rangeOf l).2.2=0):∃ a b:Nat,((rangeOf l).1=a∧(rangeOf l).2.1=b)∧a≤b∧b≤1114111:=by
 unfold rangeOf at h ⊢
 split at h
 · rename_i hd
   rw [if_pos hd]
   cases hx:point (l.take (Lib.index l [46,46]).toNat) with
   | none=>rw [hx] at h;cases h
   | some a=>
    cases hy:point (l.drop ((Lib.index l [46,46]).toNat+2)) with
    | none=>rw [hx,hy] at h;cases h
    | some b=>
     rw [hx,hy] at h
     simp only at h ⊢
     split at h
     · cases h
     · rename_i hab
       rw [if_neg hab]
       exact⟨a,b,⟨rfl,rfl⟩,by omega,point_le hy⟩
 · rename_i hd
   rw [if_neg hd]
   cases hx:point l with
   | none=>rw [hx] at h;cases h
   | some a=>exact⟨a,a,⟨rfl,rfl⟩,Nat.le_refl _,point_le hx⟩
theorem range_fit {f:List (List UInt8)} (h:lineErr f=0):Fit (spOf f)∧∃ a b:Nat,(spOf f).a=a∧(spOf f).b=b∧a≤b∧b≤1114111:=by
 unfold lineErr at h
 split at h
 · cases h
 split at h
 · rename_i h2
   exact absurd h h2
 rename_i h2
 split at h
 · cases h
 rename_i h3
 have hr:(rangeOf (pfld f 0)).2.2=0:=by simpa using h2
 obtain⟨a,b,h4,h5,h6⟩:=range_ok hr
 have e1:(spOf f).a=a:=h4.1
 have e2:(spOf f).b=b:=h4.2
 exact⟨⟨by omega,by omega,by omega,h3⟩,a,b,e1,e2,h5,h6⟩
end Go.Proofs.YtbkgbhlmeeodgaaGreatDoor.Pq
