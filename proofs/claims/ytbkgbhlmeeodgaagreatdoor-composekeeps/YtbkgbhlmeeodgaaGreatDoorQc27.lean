/- A part. -/
import Derived.Test.YtbkgbhlmeeodgaaGreatDoorQc21
import Derived.Shelf.Spec.SearchS
import Derived.Sort.Walk0
import Derived.Shelf.SlGeneric
import Derived.Shelf.SortM.Plain
import Derived.Shelf.SortM.SortNone
import Derived.Ground.SlgmProg
namespace Go.Proofs.YtbkgbhlmeeodgaaGreatDoor.Pq
open Go.RowKit Go.Shelf
attribute [local go_sem] Oper.semAt_some
def AdPost (t base a b:Nat) (ws:List Nat) (W:World) (e:Ending) (W':World):Prop:=
 ∃ f ws',e=.returned (.bool f)∧Hid (AddsTo ws a b f ws'∧ws'.length≤17408∧RowAt t base 224 1 ws'.length (words ws') W'∧Hold (GA t) W W'∧Below t W W')
def AdRel (t base a b g n cp:Nat) (ws:List Nat) (W:World) (i:Value) (wr:World):Prop:=
 ∃ (c:Nat) (ws1:List Nat),i=.int .i64 (c:Int)∧(a≤c∧c≤b+1)∧Partly ws ws1 a c∧(wr.cell? ⟨t,0,none⟩=some (.slice (some ⟨g,0,none⟩) n cp)∧wr.frozen? ⟨t,0,none⟩=false)∧wr.ownsRow base 224 1 (.slice (some ⟨g,0,none⟩) n cp) n (words ws1)∧Hold (GA t) W wr∧Below t W wr
theorem ad_set {t base g n cp c:Nat} {ws1:List Nat} {W:World} (hv:W.cell? ⟨t,0,none⟩=some (.slice (some ⟨g,0,none⟩) n cp)) (hf:W.frozen? ⟨t,0,none⟩=false) (ho:W.ownsRow base 224 1 (.slice (some ⟨g,0,none⟩) n cp) n (words ws1)) (htb:t<base) (x:Int) (hx:x=((word ws1 (c/64) ||| 2 ^ (c%64):Nat):Int)):
 let X:=W.setCell ⟨g,c/64,none⟩ (.int .u64 x)
 (X.cell? ⟨t,0,none⟩=some (.slice (some ⟨g,0,none⟩) n cp)∧X.frozen? ⟨t,0,none⟩=false)∧X.ownsRow base 224 1 (.slice (some ⟨g,0,none⟩) n cp) n (words (putC ws1 c))∧Hold (GA t) W X∧Below t W X:=by
 intro X
 subst hx
 have hbg:=(ho.lt g rfl).1
 obtain⟨h1,h2⟩:=ho.stored (c/64) (.int .u64 ((word ws1 (c/64) ||| 2 ^ (c%64):Nat):Int))
 rw [←words_set] at h1
 have e0:X.heap[t]? = W.heap[t]?:=heap_setCell_other _ ⟨g,c/64,none⟩ t _ (by show t≠g;omega)
 have c0:X.cell? ⟨t,0,none⟩=some (.slice (some ⟨g,0,none⟩) n cp):=(World.cell?_of_block e0).trans hv
 refine⟨⟨c0,(World.frozen?_of_block (a:=⟨t,0,none⟩) e0).trans hf⟩,h1,hold_two hv h2.size (fun k hk hkt hkv=>h2.block k hk (fun e=>hkv e.symm)) c0 (fun k _ e=>e),?_⟩
 exact (Below.refl t W).setCell (p:=⟨g,c/64,none⟩) (by show t≤g;omega) _
theorem wrap_pow {r:Nat} (h:r<64):IntKind.u64.wrap ((2:Int) ^ r)=((2 ^ r:Nat):Int):=by
 rw [show ((2:Int) ^ r)=((2 ^ r:Nat):Int) by push_cast;rfl]
 exact wrapU _ (pow_lt64 h)
theorem and_test (x:Nat) {r:Nat} (hx:x<18446744073709551616) (h:r<64):(bits .and .u64 (x:Int) (IntKind.u64.wrap ((2:Int) ^ r)) != 0)=x.testBit r:=by
 rw [wrap_pow h,andU x _ hx (pow_lt64 h)]
 have:=and_pow x r
 cases ht:x.testBit r with
 | false=>
  rw [this.2 ht]
  rfl
 | true=>
  rw [bne_iff_ne]
  intro e
  have e':x &&& 2 ^ r=0:=by exact_mod_cast e
  rw [this.1 e'] at ht
  cases ht
set_option maxRecDepth 100000 in
set_option maxHeartbeats 2000000 in
theorem add24 (t base a b:Nat) (ws:List Nat) (W:World) (hR:RowAt t base 224 1 ws.length (words ws) W) (hw:ws.length≤17408) (hs:Small ws) (hab:a≤b) (hb:b≤1114111) (htb:t<base) (hbase:base≤W.heap.size):
 Calls Tryz.prog 116 #[.pointer (some ⟨t,0,none⟩),.int .i64 (a:Int),.int .i64 (b:Int)] W (AdPost t base a b ws W):=by
 have c46:=grow46 t base b ws W hR hw hb htb hbase
 have HS:=Lib.hid hs
 clear hR
 go_enter Tryz.func116,Tryz.ntmps116
 go_wp2_with (go_at_call 147;(with_reducible refine c46.mono ?_);rintro e W1 ⟨rfl,ws1,hh⟩)
 clear c46
 obtain⟨⟨m,hm⟩,⟨hl1,hl2⟩,⟨v,⟨hv,hf⟩,ho⟩,hH,hB⟩:=hh.out
 obtain⟨g,cp,rfl,hbg,hgl⟩:=row_some ho (by omega)
 have H0:Hid (AdRel t base a b g ws1.length cp ws1 W1 (.int .i64 (a:Int)) W1):=Lib.hid ⟨a,ws1,rfl,⟨Nat.le_refl _,by omega⟩,partly_nil (by rw [hm];exact more_small HS.out m) a,⟨hv,hf⟩,ho,Hold.refl _ _,Below.refl _ _⟩
 have HAS:Hid (∀ c,hasC ws1 c=hasC ws c):=Lib.hid (fun c=>by rw [hm];exact more_has ws m c)
 have HH:=Lib.hid (And.intro hH hB)
 obtain⟨n,hn⟩:∃ n,ws1.length=n:=⟨_,rfl⟩
 rw [hn] at H0 hl1 hl2
 clear hv hf ho hm hH hB hh
 go_loopw [7] (fun i wr=>AdRel t base a b g n cp ws1 W1 i wr) (fun i _=>b+1-(intOf i).toNat)
 case atStart=>exact H0.out
 case round=>
  clear H0
  obtain⟨c,ws2,rfl,⟨hac,hcb⟩,hp,⟨hv,hf⟩,ho,hH,hB⟩:=hrel
  by_cases hlt:c≤b
  · obtain⟨q,hq⟩:∃ q:Nat,c/64=q:=⟨_,rfl⟩
    obtain⟨r,hr⟩:∃ r:Nat,c%64=r:=⟨_,rfl⟩
    have hq2:(c:Int)/64=(q:Int):=by omega
    have hr2:(c:Int)%64=(r:Int):=by omega
    have hr3:r<64:=by omega
    have hl:ws2.length=n:=by rw [hp.1,hn]
    have hqn:q<n:=by omega
    have hc1:wr.cell? ⟨g,q,none⟩=some (.int .u64 (word ws2 q:Int)):=by
     rw [ho.cellAt q (by omega),words_get (by omega)]
    have hf1:=ho.frozenAt q
    obtain⟨x,hx⟩:∃ x,word ws2 q=x:=⟨_,rfl⟩
    rw [hx] at hc1
    have hxs:x<18446744073709551616:=by rw [←hx];exact word_lt hp.2.1 q
    have hwr:=wrap_pow hr3
    have hand:=and_test x hxs hr3
    have hor:bits .or .u64 (x:Int) (IntKind.u64.wrap (2 ^ r))=((x ||| 2 ^ r:Nat):Int):=by rw [hwr];exact orU x _ hxs (pow_lt64 hr3)
    have hhas:hasC ws2 c=x.testBit r:=by unfold hasC;rw [hq,hr,hx]
    have hset:=fun nq=>ad_set (c:=c) (ws1:=ws2) (W:=wr.drewN nq) hv hf ho htb _ (show bits .or .u64 (x:Int) (IntKind.u64.wrap (2 ^ r))=((word ws2 (c/64) ||| 2 ^ (c%64):Nat):Int) by rw [hq,hr,hx];exact hor)
    rw [hq] at hset
    have HSET:=Lib.hid hset
    have HP:=Lib.hid hp
    have HO:=Lib.hid ho
    have HHB:=Lib.hid (And.intro hH hB)
    have HHAS:=Lib.hid hhas
    clear hp ho hH hB hx hset hor hwr hhas
    cases hbit:x.testBit r with
    | true=>
     rw [hbit] at hand
     go_wp2
     go_quiet (fail)
     go_wp2
     go_ret
     refine⟨false,ws2,rfl,Lib.hid ⟨⟨c,hac,hlt,?_⟩,by omega,⟨_,⟨hv,hf⟩,by rw [hl];exact HO.out⟩,HH.out.1.trans (HHB.out.1.trans (Hold.of_below (ga_lets t) (below_drewN (Below.refl _ _) _))),HH.out.2.trans (below_drewN HHB.out.2 _)⟩⟩
     rw [←HAS.out c,←partly_old HP.out,HHAS.out,hbit]
    | false=>
     rw [hbit] at hand
     go_wp2
     go_quiet (fail)
     go_wp2
     go_roundw
     case rel=>
      obtain⟨k1,k2,k3,k4⟩:=HSET.out nq
      refine⟨c+1,putC ws2 c,by go_num,⟨by omega,by omega⟩,partly_next HP.out hac (by omega) (by rw [HHAS.out,hbit]),k1,k2,HHB.out.1.trans ((Hold.of_below (ga_lets t) (below_drewN (Below.refl _ _) _)).trans k3),(below_drewN HHB.out.2 _).trans k4⟩
     case measure=>simp [intOf];omega
  · obtain rfl:c=b+1:=by omega
    have HALL:=Lib.hid (And.intro hp (And.intro ho (And.intro hH hB)))
    clear hp ho hH hB
    go_wp2
    go_ret
    obtain⟨hp,ho,hH,hB⟩:=HALL.out
    refine⟨true,ws2,rfl,Lib.hid ⟨⟨hp.2.1,fun d=>?_,fun d h1 h2=>?_⟩,by rw [hp.1,hn];omega,⟨_,⟨hv,hf⟩,by rw [hp.1,hn];exact ho⟩,HH.out.1.trans hH,HH.out.2.trans hB⟩⟩
    · rw [hp.2.2.1,HAS.out,decide_eq_decide.2 (show (a≤d∧d<b+1)↔(a≤d∧d≤b) by omega)]
    · rw [←HAS.out]
      exact hp.2.2.2 d h1 (by omega)
end Go.Proofs.YtbkgbhlmeeodgaaGreatDoor.Pq
namespace Go.Proofs.YtbkgbhlmeeodgaaGreatDoor.Pq
open Go.RowKit Go.Sort
def Asc (ss:List (List UInt8)):Prop:=ss.Pairwise fun a b=>a≤b
def lessK (ss:List (List UInt8)) (x:List UInt8):Nat:=(ss.takeWhile fun y=>decide (y<x)).length
theorem le_lt {a b c:List UInt8} (h:a≤b) (k:b<c):a<c:=List.lt_of_le_of_lt h k
theorem less_le (ss:List (List UInt8)) (x:List UInt8):lessK ss x≤ss.length:=(List.takeWhile_sublist _).length_le
theorem less_yes:∀ {ss:List (List UInt8)} {x:List UInt8} {t:Nat},t<lessK ss x→ss.getD t x<x
 | [],x,t,h=>by simp [lessK] at h
 | y::ss,x,t,h=>by
  by_cases hy:y<x
  · cases t with
    | zero=>exact hy
    | succ t=>
     have h':t<lessK ss x:=by
      unfold lessK at h ⊢
      rw [List.takeWhile_cons_of_pos (by simpa using hy)] at h
      simpa using h
     simpa using less_yes h'
  · unfold lessK at h
    rw [List.takeWhile_cons_of_neg (by simpa using hy)] at h
    simp at h
theorem less_no:∀ {ss:List (List UInt8)} {x:List UInt8} (_:Asc ss) {t:Nat},lessK ss x≤t→¬ss.getD t x<x
 | [],x,_,t,_=>by simp [List.lt_irrefl]
 | y::ss,x,ha,t,h=>by
  by_cases hy:y<x
  · cases t with
    | zero=>
     unfold lessK at h
     rw [List.takeWhile_cons_of_pos (by simpa using hy)] at h
     simp at h
    | succ t=>
     have h':lessK ss x≤t:=by
      unfold lessK at h ⊢
      rw [List.takeWhile_cons_of_pos (by simpa using hy)] at h
      simpa using h
     simpa using less_no (List.Pairwise.of_cons ha) h'
  · cases t with
    | zero=>simpa using hy
    | succ t=>
     intro hlt
     have e:(y::ss).getD (t+1) x=ss.getD t x:=by simp
     rw [e] at hlt
     rcases Nat.lt_or_ge t ss.length with hl | hl
     · have hm:ss.getD t x∈ss:=by
        rw [List.getD_eq_getElem?_getD,List.getElem?_eq_getElem hl]
        simp
       exact hy (le_lt (List.rel_of_pairwise_cons ha hm) hlt)
     · rw [List.getD_eq_getElem?_getD,List.getElem?_eq_none hl] at hlt
       exact List.lt_irrefl x hlt
theorem bs_go {ss:List (List UInt8)} {x:List UInt8} (ha:Asc ss):Lib.bsGo (fun t=>Op.bytesLess (bs (ss.getD t x)).toList (bs x).toList) ss.length 0 ss.length=lessK ss x:=by
 refine Lib.bsGo_spec _ (lessK ss x) (fun t ht=>?_) (fun t ht=>?_) _ _ _ (by omega) (Nat.zero_le _) (less_le ss x)
 · rw [bs_toList,bs_toList,bytesLess_eq]
   exact decide_eq_true (less_yes ht)
 · rw [bs_toList,bs_toList,bytesLess_eq]
   exact decide_eq_false (less_no ha ht)
theorem bs_found {ss:List (List UInt8)} {x:List UInt8} (ha:Asc ss):decide (lessK ss x<ss.length∧bs (ss.getD (lessK ss x) x)=bs x)=decide (x∈ss):=by
 rw [decide_eq_decide]
 constructor
 · rintro⟨h1,h2⟩
   have h3:=bs_inj h2
   rw [List.getD_eq_getElem?_getD,List.getElem?_eq_getElem h1] at h3
   simp at h3
   rw [←h3]
   exact List.getElem_mem h1
 · intro hm
   obtain⟨j,hj,e⟩:=List.mem_iff_getElem.1 hm
   have hkj:lessK ss x≤j:=by
    rcases Nat.lt_or_ge j (lessK ss x) with h | h
    · have:=less_yes h
      rw [List.getD_eq_getElem?_getD,List.getElem?_eq_getElem hj] at this
      simp [e] at this
      exact absurd this (List.lt_irrefl x)
    · exact h
   have hk:lessK ss x<ss.length:=by omega
   refine⟨hk,?_⟩
   congr 1
   have hn:=less_no ha (Nat.le_refl (lessK ss x)) (x:=x)
   rw [List.getD_eq_getElem?_getD,List.getElem?_eq_getElem hk] at hn ⊢
   simp only [Option.getD_some] at hn ⊢
   have hle:ss[lessK ss x]≤x:=by
    rcases Nat.lt_or_ge (lessK ss x) j with h | h
    · have:=List.pairwise_iff_getElem.1 ha _ _ hk hj h
      rwa [e] at this
    · obtain rfl:lessK ss x=j:=by omega
      rw [e]
      exact List.le_refl x
   exact List.le_antisymm hle hn
theorem among_perm {ss vs:List (List UInt8)} (h:ss.Perm vs) (v:List UInt8):amongB ss v=amongB vs v:=by
 unfold amongB
 rw [h.length_eq,decide_eq_decide.2 h.mem_iff]
end Go.Proofs.YtbkgbhlmeeodgaaGreatDoor.Pq
namespace Go.Proofs
open Go.Shelf
def Tryz.searchStr_ren:Go.Shelf.Ren:=⟨fun | 26=>146 | 33=>186 | 34=>187 | 38=>218 | n=>n,fun | 24=>95 | 9=>9 | 3=>3 | 4=>4 | 40=>199 | 0=>0 | n=>n,fun | n=>n⟩
theorem Tryz.searchStr:Go.Proofs.Lays2.n26 Tryz.prog Tryz.searchStr_ren:={
 mixed:=by kernel_rfl
 f26:=Tryz.func146.trans (congrArg some (by kernel_rfl))
 f33:=Tryz.func186.trans (congrArg some (by kernel_rfl))
 f34:=Tryz.func187.trans (congrArg some (by kernel_rfl))
 f38:=Tryz.func218.trans (congrArg some (by kernel_rfl))
 t0:=Tryz.underlying0
 a0:=Tryz.isAgg0
 z0:=Tryz.sizeOf0
 v0:=Tryz.zeroValue0
 t3:=Tryz.underlying3
 a3:=Tryz.isAgg3
 z3:=Tryz.sizeOf3
 v3:=Tryz.zeroValue3
 t4:=Tryz.underlying4
 a4:=Tryz.isAgg4
 z4:=Tryz.sizeOf4
 v4:=Tryz.zeroValue4
 t9:=Tryz.underlying9
 a9:=Tryz.isAgg9
 z9:=Tryz.sizeOf9
 v9:=Tryz.zeroValue9
 t24:=Tryz.underlying95
 a24:=Tryz.isAgg95
 z24:=Tryz.sizeOf95
 v24:=Tryz.zeroValue95
 t40:=Tryz.underlying199
 a40:=Tryz.isAgg199
 z40:=Tryz.sizeOf199
 v40:=Tryz.zeroValue199 }
theorem Tryz.slices_BinarySearch (b off n c:Nat) (Sx:Nat→ByteArray) (x:ByteArray) (w:World) (hbig:n<4611686018427387904) (hc:∀ j,j<n→w.cell? ⟨b,off+j,none⟩=some (.string (Sx j))):
 Calls Tryz.prog 146 #[.slice (some ⟨b,off,none⟩) n c,.string x] w fun e w'=>
  e=.returned (.tuple #[.int .i64 (Lib.bsGo (fun t=>Op.bytesLess (Sx t).toList x.toList) n 0 n:Nat),.bool (decide (Lib.bsGo (fun t=>Op.bytesLess (Sx t).toList x.toList) n 0 n<n∧Sx (Lib.bsGo (fun t=>Op.bytesLess (Sx t).toList x.toList) n 0 n)=x))])∧∃ q,w'=w.drewN q:=Any2.slices_BinarySearch_string Tryz.searchStr b off n c Sx x w hbig hc
theorem Tryz.slices_BinarySearch_empty (a:Option Addr) (c:Nat) (x:ByteArray) (w:World):
 Calls Tryz.prog 146 #[.slice a 0 c,.string x] w fun e w'=>e=.returned (.tuple #[.int .i64 0,.bool false])∧w'=w:=Any2.slices_BinarySearch_string_empty Tryz.searchStr a c x w
end Go.Proofs
namespace Go.Proofs.YtbkgbhlmeeodgaaGreatDoor.Pq
open Go.RowKit Go.Shelf
attribute [local go_sem] Oper.semAt_some
theorem clone44 (l:List UInt8) (w:World) (hl:l.length≤1000000):Calls Tryz.prog 145 #[.string (bs l)] w fun e w'=>e=.returned (.string (bs l))∧Below w.heap.size w w':=by
 have c75:=Tryz.stringslite_Clone (bs l) w (by rw [bs_size];omega)
 go_enter Tryz.func145,Tryz.ntmps145
 go_wp2_with (go_at_call 185;(with_reducible refine c75.mono ?_);rintro e w' ⟨rfl,hb⟩)
 go_ret
 exact⟨rfl,hb⟩
def RsPost (f:List (List UInt8)) (w:World) (e:Ending) (w':World):Prop:=
 Below w.heap.size w w'∧∃ s:Sp,e=.returned (.tuple #[spV s,.int .i64 (lineErr f)])∧Hid (lineErr f=0→s=spOf f)
theorem rs_three {w0 W:World} {B:Nat} {a b:Int} {v:ByteArray} (h:Below B w0 W) {b0:Nat} (hb:B≤b0):Below B w0 (((W.setCell ⟨b0,0,none⟩ (.int .i64 a)).setCell ⟨b0,1,none⟩ (.int .i64 b)).setCell ⟨b0,2,none⟩ (.string v)):=
 ((h.setCell (p:=⟨b0,0,none⟩) hb _).setCell (p:=⟨b0,1,none⟩) hb _).setCell (p:=⟨b0,2,none⟩) hb _
theorem rs_new (w:World) (q:Nat):(((w.alloc (.cells #[.int .i64 0,.int .i64 0,.string ⟨#[]⟩] 176)).drewN q).cell? ⟨w.heap.size,0,none⟩=some (.int .i64 0)∧((w.alloc (.cells #[.int .i64 0,.int .i64 0,.string ⟨#[]⟩] 176)).drewN q).cell? ⟨w.heap.size,1,none⟩=some (.int .i64 0)∧((w.alloc (.cells #[.int .i64 0,.int .i64 0,.string ⟨#[]⟩] 176)).drewN q).cell? ⟨w.heap.size,2,none⟩=some (.string ⟨#[]⟩))∧w.heap.size<((w.alloc (.cells #[.int .i64 0,.int .i64 0,.string ⟨#[]⟩] 176)).drewN q).heap.size:=by
 refine⟨⟨?_,?_,?_⟩,?_⟩
 · show (w.alloc (.cells #[.int .i64 0,.int .i64 0,.string ⟨#[]⟩] 176)).cell? ⟨w.heap.size,0,none⟩=_;simp
 · show (w.alloc (.cells #[.int .i64 0,.int .i64 0,.string ⟨#[]⟩] 176)).cell? ⟨w.heap.size,1,none⟩=_;simp
 · show (w.alloc (.cells #[.int .i64 0,.int .i64 0,.string ⟨#[]⟩] 176)).cell? ⟨w.heap.size,2,none⟩=_;simp
 · show w.heap.size<(w.alloc (.cells #[.int .i64 0,.int .i64 0,.string ⟨#[]⟩] 176)).heap.size;simp
set_option maxRecDepth 100000 in
set_option maxHeartbeats 2000000 in
theorem readspan22 (F:Option Addr) (n c:Nat) (f:List (List UInt8)) (w:World) (hF:Vals w F n (strs f)) (hl:∀ x∈f,x.length≤1000000) (hn:n≤1000000)
 (c43:∀ W,Below w.heap.size w W→Calls Tryz.prog 144 #[.string (bs (pfld f 0))] W fun e w'=>e=.returned (.tuple #[.int .i64 (rangeOf (pfld f 0)).1,.int .i64 (rangeOf (pfld f 0)).2.1,.int .i64 (rangeOf (pfld f 0)).2.2])∧∃ q,w'=W.drewN q):
 Calls Tryz.prog 114 #[.slice F n c] w (RsPost f w):=by
 have hlen:f.length=n:=by have:=hF.1;rwa [strs_length] at this
 have hb0:Below w.heap.size w (w.alloc (.cells #[.int .i64 0,.int .i64 0,.string ⟨#[]⟩] 176)):=(Below.refl _ _).alloc (Nat.le_refl _) _
 have k43:=c43 _ hb0
 by_cases h2:f.length<2
 · have he:=line_few h2
   have h2':(n:Int)<2:=by omega
   have HE:=Lib.hid he
   clear hF hl c43 k43 he
   go_enter Tryz.func114,Tryz.ntmps114
   go_wp2
   exact bodyPost_ret (v:=.tuple #[spV ⟨0,0,[]⟩,.int .i64 12]) (by simp [results,Tryz.results114,go_sem,spV,bs_nil]) rfl ⟨hb0,⟨0,0,[]⟩,by rw [HE.out],Lib.hid (fun h=>absurd h (by rw [HE.out];decide))⟩
 · obtain⟨b,off,rfl,hbl,hc0,hc1⟩:=flds2 hF h2
   have h2':¬(n:Int)<2:=by omega
   have hn0:0<n:=by omega
   have hn1:1<n:=by omega
   have hl1:(pfld f 1).length≤1000000:=by
    unfold pfld
    rw [List.getD_eq_getElem?_getD]
    cases hq:f[1]? with
    | none=>simp
    | some y=>exact hl y (List.mem_of_getElem? hq)
   by_cases hr:(rangeOf (pfld f 0)).2.2=0
   · by_cases hv:pfld f 1 = []
     · have HE:=Lib.hid (line_emp h2 hr hv)
       rw [hr] at k43
       rw [hv,bs_nil] at hc1
       obtain⟨X,hX⟩:∃ X,bs (pfld f 0)=X:=⟨_,rfl⟩
       rw [hX] at hc0 k43
       clear hF hl c43 hX hv hr hl1
       go_enter Tryz.func114,Tryz.ntmps114
       go_wp2_with (go_at_call 144;(with_reducible refine k43.mono ?_);rintro e w1 ⟨rfl,q,rfl⟩)
       exact bodyPost_ret (v:=.tuple #[spV ⟨0,0,[]⟩,.int .i64 16]) (by simp [results,Tryz.results114,go_sem,spV,bs_nil]) rfl ⟨rs_three (below_drewN hb0 q) (Nat.le_refl _),⟨0,0,[]⟩,by rw [HE.out],Lib.hid (fun h=>absurd h (by rw [HE.out];decide))⟩
     · have HE:=Lib.hid (line_ok h2 hr hv)
       rw [hr] at k43
       have hne:=bs_some hv
       have c44:=fun q=>clone44 (pfld f 1) ((w.alloc (.cells #[.int .i64 0,.int .i64 0,.string ⟨#[]⟩] 176)).drewN q) hl1
       have hfr:∀ i,(w.alloc (.cells #[.int .i64 0,.int .i64 0,.string ⟨#[]⟩] 176)).frozen? ⟨w.heap.size,i,none⟩=false:=fun i=>frozen_new w _ _ i
       obtain⟨X,hX⟩:∃ X,bs (pfld f 0)=X:=⟨_,rfl⟩
       obtain⟨Y,hY⟩:∃ Y,bs (pfld f 1)=Y:=⟨_,rfl⟩
       obtain⟨ra,hra⟩:∃ r,(rangeOf (pfld f 0)).1=r:=⟨_,rfl⟩
       obtain⟨rb,hrb⟩:∃ r,(rangeOf (pfld f 0)).2.1=r:=⟨_,rfl⟩
       rw [hX] at hc0 k43
       rw [hra,hrb] at k43
       rw [hY] at hc1 hne
       simp only [hY] at c44
       have HX:=Lib.hid (And.intro hY (And.intro hra hrb))
       have C44:=Lib.hid c44
       have HFR:=Lib.hid hfr
       clear hF hl c43 hX hv hr hl1 hY hra hrb c44 hfr
       go_enter Tryz.func114,Tryz.ntmps114
       go_wp2_with (first
        | (go_at_call 144;(with_reducible refine k43.mono ?_);rintro e w1 ⟨rfl,q,rfl⟩;have k44:=C44.out q)
        | (go_at_call 145;(with_reducible refine k44.mono ?_);rintro e w2 ⟨rfl,hb2⟩;have hlt:=(rs_new w q).2;have hyy:=(rs_new w q).1;have y0:w2.cell? ⟨w.heap.size,0,none⟩=some (.int .i64 0):=(hb2.cell (p:=⟨w.heap.size,0,none⟩) hlt).trans hyy.1;have y1:w2.cell? ⟨w.heap.size,1,none⟩=some (.int .i64 0):=(hb2.cell (p:=⟨w.heap.size,1,none⟩) hlt).trans hyy.2.1;have y2:w2.cell? ⟨w.heap.size,2,none⟩=some (.string ⟨#[]⟩):=(hb2.cell (p:=⟨w.heap.size,2,none⟩) hlt).trans hyy.2.2;have f0:w2.frozen? ⟨w.heap.size,0,none⟩=false:=(hb2.frozen (p:=⟨w.heap.size,0,none⟩) hlt).trans (HFR.out 0);have f1:w2.frozen? ⟨w.heap.size,1,none⟩=false:=(hb2.frozen (p:=⟨w.heap.size,1,none⟩) hlt).trans (HFR.out 1);have f2:w2.frozen? ⟨w.heap.size,2,none⟩=false:=(hb2.frozen (p:=⟨w.heap.size,2,none⟩) hlt).trans (HFR.out 2)))
       have hB2:Below w.heap.size w w2:=(below_drewN hb0 q).trans (hb2.mono (below_drewN hb0 q).size)
       exact bodyPost_ret (v:=.tuple #[spV (spOf f),.int .i64 0]) (by simp [results,Tryz.results114,go_sem,spV,spOf,y0,y1,y2,HX.out.1,HX.out.2.1,HX.out.2.2]) rfl ⟨rs_three hB2 (Nat.le_refl _),spOf f,by rw [HE.out],Lib.hid (fun _=>rfl)⟩
   · have HE:=Lib.hid (line_rng h2 hr)
     obtain⟨X,hX⟩:∃ X,bs (pfld f 0)=X:=⟨_,rfl⟩
     obtain⟨E,hE⟩:∃ E,(rangeOf (pfld f 0)).2.2=E:=⟨_,rfl⟩
     rw [hX] at hc0 k43
     rw [hE] at k43 hr HE
     have hx1:(E==0)=false:=beq_false_of_ne hr
     have hx2:(E != 0)=true:=bne_iff_ne.2 hr
     have HR:=Lib.hid hr
     clear hF hl c43 hX hE hr hl1
     go_enter Tryz.func114,Tryz.ntmps114
     go_wp2_with (go_at_call 144;(with_reducible refine k43.mono ?_);rintro e w1 ⟨rfl,q,rfl⟩)
     exact bodyPost_ret (v:=.tuple #[spV ⟨0,0,[]⟩,.int .i64 E]) (by simp [results,Tryz.results114,go_sem,spV,bs_nil]) rfl ⟨rs_three (below_drewN hb0 q) (Nat.le_refl _),⟨0,0,[]⟩,by rw [HE.out],Lib.hid (fun h=>absurd (HE.out.symm.trans h) HR.out)⟩
theorem isasked23 (A:Option Addr) (n c:Nat) (ss:List (List UInt8)) (v:List UInt8) (w:World) (hV:Vals w A n (strs ss)) (hs:Asc ss) (hn:n≤1000000):
 Calls Tryz.prog 115 #[.string (bs v),.slice A n c] w fun e w'=>e=.returned (.bool (amongB ss v))∧∃ q,w'=w.drewN q:=by
 have hlen:ss.length=n:=by have:=hV.1;rwa [strs_length] at this
 by_cases h0:n=0
 · subst h0
   have c45:=Tryz.slices_BinarySearch_empty A c (bs v) w
   have e:amongB ss v=true:=by unfold amongB;rw [hlen];rfl
   rw [e]
   clear hV hs hlen e
   go_enter Tryz.func115,Tryz.ntmps115
   go_wp2_with (go_at_call 146;(with_reducible refine c45.mono ?_);rintro e w' ⟨rfl,rfl⟩)
   go_ret
   exact⟨rfl,0,rfl⟩
 · obtain⟨b,off,rfl,hlt,hc⟩:=hV.2 (by omega)
   have c45:=Tryz.slices_BinarySearch b off n c (fun j=>bs (ss.getD j v)) (bs v) w (by omega) (fun j hj=>by
    have h1:=hc j _ (strs_get (by omega))
    rw [h1]
    have hj':j<ss.length:=by omega
    rw [List.getD_eq_getElem?_getD,List.getD_eq_getElem?_getD,List.getElem?_eq_getElem hj']
    rfl)
   rw [←hlen] at c45
   rw [bs_go hs,bs_found hs,hlen] at c45
   have e:amongB ss v=decide (v∈ss):=by unfold amongB;rw [decide_eq_false (by omega),Bool.false_or]
   rw [e]
   obtain⟨f,hf⟩:∃ f,decide (v∈ss)=f:=⟨_,rfl⟩
   rw [hf] at c45 ⊢
   have hn0:((n:Int)==0)=false:=beq_false_of_ne (by omega)
   clear hV hs hlen e hf hc
   cases f with
   | true=>
    go_enter Tryz.func115,Tryz.ntmps115
    go_wp2_with (go_at_call 146;(with_reducible refine c45.mono ?_);rintro e w' ⟨rfl,q,rfl⟩)
    go_ret
    exact⟨rfl,q,rfl⟩
   | false=>
    go_enter Tryz.func115,Tryz.ntmps115
    go_wp2_with (go_at_call 146;(with_reducible refine c45.mono ?_);rintro e w' ⟨rfl,q,rfl⟩)
    go_ret
    exact⟨rfl,q,rfl⟩
end Go.Proofs.YtbkgbhlmeeodgaaGreatDoor.Pq
namespace Go.Proofs
open Go.Shelf
def Tryz.sortStr_ren:Go.Shelf.Ren:=⟨fun | 6=>142 | 8=>183 | 9=>182 | 19=>215 | 20=>216 | 21=>207 | 22=>208 | 23=>209 | 24=>210 | 25=>211 | 26=>212 | 27=>186 | 28=>213 | 29=>214 | 36=>251 | 31=>252 | 32=>253 | 37=>254 | 38=>255 | 39=>218 | 41=>272 | n=>n,fun | 27=>95 | 29=>9 | 3=>3 | 32=>199 | 26=>95 | 0=>0 | 44=>280 | 46=>224 | 4=>4 | 36=>274 | 35=>273 | 41=>51 | 5=>5 | 9=>9 | 53=>299 | 57=>204 | 63=>315 | 64=>316 | n=>n,fun | n=>n⟩
theorem Tryz.sortStr:Go.Proofs.SlLaysM.n6 Tryz.prog Tryz.sortStr_ren:={
 mixed:=by kernel_rfl
 f6:=⟨Tryz.f142.name,by decide,Tryz.func142.trans (congrArg some (by kernel_rfl))⟩
 f8:=Tryz.func183.trans (congrArg some (by kernel_rfl))
 f9:=⟨Tryz.f182.name,by decide,Tryz.func182.trans (congrArg some (by kernel_rfl))⟩
 f19:=Tryz.func215.trans (congrArg some (by kernel_rfl))
 f20:=Tryz.func216.trans (congrArg some (by kernel_rfl))
 f21:=⟨Tryz.f207.name,by decide,Tryz.func207.trans (congrArg some (by kernel_rfl))⟩
 f22:=⟨Tryz.f208.name,by decide,Tryz.func208.trans (congrArg some (by kernel_rfl))⟩
 f23:=⟨Tryz.f209.name,by decide,Tryz.func209.trans (congrArg some (by kernel_rfl))⟩
 f24:=⟨Tryz.f210.name,by decide,Tryz.func210.trans (congrArg some (by kernel_rfl))⟩
 f25:=⟨Tryz.f211.name,by decide,Tryz.func211.trans (congrArg some (by kernel_rfl))⟩
 f26:=⟨Tryz.f212.name,by decide,Tryz.func212.trans (congrArg some (by kernel_rfl))⟩
 f27:=⟨Tryz.f186.name,by decide,Tryz.func186.trans (congrArg some (by kernel_rfl))⟩
 f28:=⟨Tryz.f213.name,by decide,Tryz.func213.trans (congrArg some (by kernel_rfl))⟩
 f29:=⟨Tryz.f214.name,by decide,Tryz.func214.trans (congrArg some (by kernel_rfl))⟩
 f31:=Tryz.func252.trans (congrArg some (by kernel_rfl))
 f32:=Tryz.func253.trans (congrArg some (by kernel_rfl))
 f36:=⟨Tryz.f251.name,by decide,Tryz.func251.trans (congrArg some (by kernel_rfl))⟩
 f37:=⟨Tryz.f254.name,by decide,Tryz.func254.trans (congrArg some (by kernel_rfl))⟩
 f38:=⟨Tryz.f255.name,by decide,Tryz.func255.trans (congrArg some (by kernel_rfl))⟩
 f39:=⟨Tryz.f218.name,by decide,Tryz.func218.trans (congrArg some (by kernel_rfl))⟩
 f41:=⟨Tryz.f272.name,by decide,Tryz.func272.trans (congrArg some (by kernel_rfl))⟩
 t0:=Tryz.underlying0
 a0:=Tryz.isAgg0
 z0:=Tryz.sizeOf0
 v0:=Tryz.zeroValue0
 t3:=Tryz.underlying3
 a3:=Tryz.isAgg3
 z3:=Tryz.sizeOf3
 v3:=Tryz.zeroValue3
 t4:=Tryz.underlying4
 a4:=Tryz.isAgg4
 z4:=Tryz.sizeOf4
 v4:=Tryz.zeroValue4
 t5:=Tryz.underlying5
 a5:=Tryz.isAgg5
 z5:=Tryz.sizeOf5
 v5:=Tryz.zeroValue5
 t9:=Tryz.underlying9
 a9:=Tryz.isAgg9
 z9:=Tryz.sizeOf9
 v9:=Tryz.zeroValue9
 t26:=Tryz.underlying95
 a26:=Tryz.isAgg95
 z26:=Tryz.sizeOf95
 v26:=Tryz.zeroValue95
 t27:=Tryz.underlying95
 a27:=Tryz.isAgg95
 z27:=Tryz.sizeOf95
 v27:=Tryz.zeroValue95
 t29:=Tryz.underlying9
 a29:=Tryz.isAgg9
 z29:=Tryz.sizeOf9
 v29:=Tryz.zeroValue9
 t32:=Tryz.underlying199
 a32:=Tryz.isAgg199
 z32:=Tryz.sizeOf199
 v32:=Tryz.zeroValue199
 t35:=Tryz.underlying273
 a35:=Tryz.isAgg273
 z35:=Tryz.sizeOf273
 v35:=Tryz.zeroValue273
 t36:=Tryz.underlying274
 a36:=Tryz.isAgg274
 z36:=Tryz.sizeOf274
 v36:=Tryz.zeroValue274
 t41:=Tryz.underlying51
 a41:=Tryz.isAgg51
 z41:=Tryz.sizeOf51
 v41:=Tryz.zeroValue51
 t44:=Tryz.underlying280
 a44:=Tryz.isAgg280
 z44:=Tryz.sizeOf280
 v44:=Tryz.zeroValue280
 t46:=Tryz.underlying224
 a46:=Tryz.isAgg224
 z46:=Tryz.sizeOf224
 v46:=Tryz.zeroValue224
 t53:=Tryz.underlying299
 a53:=Tryz.isAgg299
 z53:=Tryz.sizeOf299
 v53:=Tryz.zeroValue299
 t57:=Tryz.underlying204
 a57:=Tryz.isAgg204
 z57:=Tryz.sizeOf204
 v57:=Tryz.zeroValue204
 t63:=Tryz.underlying315
 a63:=Tryz.isAgg315
 z63:=Tryz.sizeOf315
 v63:=Tryz.zeroValue315
 t64:=Tryz.underlying316
 a64:=Tryz.isAgg316
 z64:=Tryz.sizeOf316
 v64:=Tryz.zeroValue316 }
open Go.RowKit Go.Sort in
theorem Tryz.slices_Sort (blk off cap:Nat) (ss:List (List UInt8)) (w:World) (hH:Holds encStr w blk off ss.toArray) (hblk:blk<w.heap.size) (hsz:ss.length<4611686018427387904):
 Calls Tryz.prog 142 #[.slice (some ⟨blk,off,none⟩) ss.length cap] w fun e w'=>e=.returned (.tuple #[])∧∃ k os,w'=grow (putRow encStr (Sort.ahead w k) blk off (ss.mergeSort fun x y=>decide (x≤y)).toArray) os:=AnyM.slices_Sort_string Tryz.sortStr blk off cap ss w hH hblk hsz
theorem Tryz.slices_Sort_none (p:Option Addr) (cap:Nat) (w:World):
 Calls Tryz.prog 142 #[.slice p 0 cap] w fun e w'=>e=.returned (.tuple #[])∧w'=w:=AnyM.slices_Sort_string_none Tryz.sortStr p cap w
end Go.Proofs
