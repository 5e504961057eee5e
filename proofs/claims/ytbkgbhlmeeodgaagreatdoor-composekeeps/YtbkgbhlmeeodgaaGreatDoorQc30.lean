/- A part. -/
import Derived.Shelf.SlSortCmp.WholeK
import Derived.Shelf.SlSortCmp.NoneTotal
import Derived.Shelf.SlicesG.Cmp
import Derived.Shelf.SlicesE.Clone
import Derived.Ground.SlsfProg
import Derived.Ground.SlgcProg
import Derived.Ground.SlgnProg
import Derived.Test.YtbkgbhlmeeodgaaGreatDoorQc29
namespace Go.Proofs
open Go.Shelf
def Tryz.sortSp_ren:Go.Shelf.Ren:=⟨fun | 6=>150 | 15=>183 | 14=>189 | 28=>215 | 29=>216 | 20=>219 | 21=>220 | 22=>221 | 23=>222 | 24=>223 | 25=>224 | 26=>225 | 27=>226 | 46=>257 | 47=>252 | 48=>253 | 49=>258 | 50=>259 | 57=>274 | n=>n,fun | 22=>175 | 24=>176 | 25=>229 | 3=>3 | 39=>199 | 0=>0 | 53=>280 | 55=>224 | 4=>4 | 46=>274 | 45=>273 | 50=>51 | 5=>5 | 9=>9 | 66=>299 | 70=>204 | 76=>315 | 77=>316 | n=>n,fun | n=>n⟩
theorem Tryz.sortSp:Go.Proofs.SlLaysF0.n6 Tryz.prog Tryz.sortSp_ren:={
 mixed:=by kernel_rfl
 f6:=⟨Tryz.f150.name,by decide,Tryz.func150.trans (congrArg some (by kernel_rfl))⟩
 f14:=⟨Tryz.f189.name,by decide,Tryz.func189.trans (congrArg some (by kernel_rfl))⟩
 f15:=Tryz.func183.trans (congrArg some (by kernel_rfl))
 f20:=⟨Tryz.f219.name,by decide,Tryz.func219.trans (congrArg some (by kernel_rfl))⟩
 f21:=⟨Tryz.f220.name,by decide,Tryz.func220.trans (congrArg some (by kernel_rfl))⟩
 f22:=⟨Tryz.f221.name,by decide,Tryz.func221.trans (congrArg some (by kernel_rfl))⟩
 f23:=⟨Tryz.f222.name,by decide,Tryz.func222.trans (congrArg some (by kernel_rfl))⟩
 f24:=⟨Tryz.f223.name,by decide,Tryz.func223.trans (congrArg some (by kernel_rfl))⟩
 f25:=⟨Tryz.f224.name,by decide,Tryz.func224.trans (congrArg some (by kernel_rfl))⟩
 f26:=⟨Tryz.f225.name,by decide,Tryz.func225.trans (congrArg some (by kernel_rfl))⟩
 f27:=⟨Tryz.f226.name,by decide,Tryz.func226.trans (congrArg some (by kernel_rfl))⟩
 f28:=Tryz.func215.trans (congrArg some (by kernel_rfl))
 f29:=Tryz.func216.trans (congrArg some (by kernel_rfl))
 f46:=⟨Tryz.f257.name,by decide,Tryz.func257.trans (congrArg some (by kernel_rfl))⟩
 f47:=Tryz.func252.trans (congrArg some (by kernel_rfl))
 f48:=Tryz.func253.trans (congrArg some (by kernel_rfl))
 f49:=⟨Tryz.f258.name,by decide,Tryz.func258.trans (congrArg some (by kernel_rfl))⟩
 f50:=⟨Tryz.f259.name,by decide,Tryz.func259.trans (congrArg some (by kernel_rfl))⟩
 f57:=⟨Tryz.f274.name,by decide,Tryz.func274.trans (congrArg some (by kernel_rfl))⟩
 t0:=Tryz.underlying0
 a0:=Tryz.isAgg0
 z0:=Tryz.sizeOf0
 v0:=Tryz.zeroValue0
 t3:=Tryz.underlying3
 a3:=Tryz.isAgg3
 z3:=Tryz.sizeOf3
 v3:=Tryz.zeroValue3
 t4:=Tryz.underlying4
 a4:=Tryz.isAgg4
 z4:=Tryz.sizeOf4
 v4:=Tryz.zeroValue4
 t5:=Tryz.underlying5
 a5:=Tryz.isAgg5
 z5:=Tryz.sizeOf5
 v5:=Tryz.zeroValue5
 t9:=Tryz.underlying9
 a9:=Tryz.isAgg9
 z9:=Tryz.sizeOf9
 v9:=Tryz.zeroValue9
 t22:=Tryz.underlying175
 a22:=Tryz.isAgg175
 z22:=Tryz.sizeOf175
 v22:=Tryz.zeroValue175
 t25:=Tryz.underlying229
 a25:=Tryz.isAgg229
 z25:=Tryz.sizeOf229
 v25:=Tryz.zeroValue229
 t39:=Tryz.underlying199
 a39:=Tryz.isAgg199
 z39:=Tryz.sizeOf199
 v39:=Tryz.zeroValue199
 t45:=Tryz.underlying273
 a45:=Tryz.isAgg273
 z45:=Tryz.sizeOf273
 v45:=Tryz.zeroValue273
 t46:=Tryz.underlying274
 a46:=Tryz.isAgg274
 z46:=Tryz.sizeOf274
 v46:=Tryz.zeroValue274
 t50:=Tryz.underlying51
 a50:=Tryz.isAgg51
 z50:=Tryz.sizeOf51
 v50:=Tryz.zeroValue51
 t53:=Tryz.underlying280
 a53:=Tryz.isAgg280
 z53:=Tryz.sizeOf280
 v53:=Tryz.zeroValue280
 t55:=Tryz.underlying224
 a55:=Tryz.isAgg224
 z55:=Tryz.sizeOf224
 v55:=Tryz.zeroValue224
 t66:=Tryz.underlying299
 a66:=Tryz.isAgg299
 z66:=Tryz.sizeOf299
 v66:=Tryz.zeroValue299
 t70:=Tryz.underlying204
 a70:=Tryz.isAgg204
 z70:=Tryz.sizeOf204
 v70:=Tryz.zeroValue204
 t76:=Tryz.underlying315
 a76:=Tryz.isAgg315
 z76:=Tryz.sizeOf315
 v76:=Tryz.zeroValue315
 t77:=Tryz.underlying316
 a77:=Tryz.isAgg316
 z77:=Tryz.sizeOf316
 v77:=Tryz.zeroValue316 }
open Go.RowKit Go.Sort in
theorem Tryz.slices_SortFunc {α:Type} [Inhabited α] (enc:α → List Value) (hk:∀ x,(enc x).length=3) (h1:∀ x,∀ v∈enc x,v.oneCell'=true) (cf:α → α → Int) (hO:SWO (ltOf cf)) (g:Nat) (cb:Array Value) (blk off cap:Nat) (d:Array α) (w:World)
 (eg:∀ args w,(callFunc g args).run Tryz.prog w=.ok (.enter g args) w) (hcmp:CmpLays Tryz.prog g cb enc 3 cf blk off d.size w) (hH:HoldsK enc 3 w blk off d) (hblk:blk<w.heap.size) (hsz:d.size<4611686018427387904):
 Calls Tryz.prog 150 #[.slice (some ⟨blk,off,none⟩) d.size cap,.func (.func g) #[] cb] w fun e w'=>
  e=.returned (.tuple #[])∧∃ d' n os,PermIn 0 d.size d d'∧SortedIn (ltOf cf) 0 d.size d'∧w'=sortWorldK enc 3 w blk off n d' os:=AnyQ.slices_SortFunc Tryz.sortSp 3 Tryz.isAgg176 Tryz.sizeOf176 enc hk h1 cf hO g cb blk off cap d w eg hcmp hH hblk hsz
theorem Tryz.slices_SortFunc_none (p:Option Addr) (cap:Nat) (fv:Value) (w:World):Calls Tryz.prog 150 #[.slice p 0 cap,fv] w fun e w'=>e=.returned (.tuple #[])∧w'=w:=AnyF.slices_SortFunc_none { Tryz.sortSp with } p cap fv w
def Tryz.cmpInt_ren:Go.Shelf.Ren:=⟨fun | 5=>75 | 7=>109 | n=>n,fun | 22=>3 | 3=>3 | 4=>4 | n=>n,fun | n=>n⟩
theorem Tryz.cmpInt:Go.Proofs.SlLaysC2.n5 Tryz.prog Tryz.cmpInt_ren:={
 mixed:=by kernel_rfl
 f5:=⟨Tryz.f75.name,by decide,Tryz.func75.trans (congrArg some (by kernel_rfl))⟩
 f7:=⟨Tryz.f109.name,by decide,Tryz.func109.trans (congrArg some (by kernel_rfl))⟩
 t3:=Tryz.underlying3
 a3:=Tryz.isAgg3
 z3:=Tryz.sizeOf3
 v3:=Tryz.zeroValue3
 t4:=Tryz.underlying4
 a4:=Tryz.isAgg4
 z4:=Tryz.sizeOf4
 v4:=Tryz.zeroValue4
 t22:=Tryz.underlying3
 a22:=Tryz.isAgg3
 z22:=Tryz.sizeOf3
 v22:=Tryz.zeroValue3 }
theorem Tryz.cmp_Compare (x y:Int) (w:World):Calls Tryz.prog 75 #[.int .i64 x,.int .i64 y] w fun e w'=>e=.returned (.int .i64 (Lib.compareInt x y))∧w'=w:=AnyG.cmp_Compare_int Tryz.cmpInt x y w
def Tryz.cloneSp_ren:Go.Shelf.Ren:=⟨fun | 41=>149 | n=>n,fun | 22=>175 | 23=>176 | 4=>4 | n=>n,fun | n=>n⟩
theorem Tryz.cloneSp:Go.Proofs.SlLaysE0.n41 Tryz.prog Tryz.cloneSp_ren:={
 mixed:=by kernel_rfl
 f41:=⟨Tryz.f149.name,by decide,Tryz.func149.trans (congrArg some (by kernel_rfl))⟩
 t4:=Tryz.underlying4
 a4:=Tryz.isAgg4
 z4:=Tryz.sizeOf4
 v4:=Tryz.zeroValue4
 t22:=Tryz.underlying175
 a22:=Tryz.isAgg175
 z22:=Tryz.sizeOf175
 v22:=Tryz.zeroValue175 }
open Go.RowKit in
theorem Tryz.slices_Clone (i0:TypeInfo) (z:Value) (size bytes:Nat) (hi:Tryz.prog.info? 176=some i0) (hz0:i0.zero=some z) (hz1:i0.size=size) (hz2:i0.bytes=bytes) (hzs:z.cells.size=size) (hsz:0<size)
 (z23:∀ w,(Go.sizeOf 176).run Tryz.prog w=.ok size w) (b off n c:Nat) (news:List Value) (w:World) (hl:news.length=n*size) (hn:n≤maxLen) (hbig:n*bytes≤140737488355328)
 (hc:∀ j u,news[j]? = some u→w.cell? ⟨b,off+j,none⟩=some u) (h1:∀ u∈news,u.oneCell'=true):
 Calls Tryz.prog 149 #[.slice (some ⟨b,off,none⟩) n c] w fun e w'=>∃ v',e=.returned v'∧w'.ownsRow w.heap.size 176 size v' n news∧v' ≠ .slice none 0 0∧Below w.heap.size w w':=AnyE.slices_Clone Tryz.cloneSp i0 z size bytes hi hz0 hz1 hz2 hzs hsz z23 b off n c news w hl hn hbig hc h1
theorem Tryz.slices_Clone_nil (n c:Nat) (w:World):Calls Tryz.prog 149 #[.slice none n c] w fun e w'=>e=.returned (.slice none 0 0)∧w'=w:=AnyE.slices_Clone_nil Tryz.cloneSp n c w
end Go.Proofs
namespace Go.Proofs.YtbkgbhlmeeodgaaGreatDoor.Pq
open Go.RowKit Go.Sort Go.Shelf
instance:Inhabited Sp:=⟨⟨0,0,[]⟩⟩
def cfA (x y:Sp):Int:=Lib.compareInt x.a y.a
theorem ltA (x y:Sp):ltOf cfA x y=decide (x.a<y.a):=by
 unfold ltOf cfA Lib.compareInt
 by_cases h1:x.a<y.a
 · simp [h1]
 · by_cases h2:y.a<x.a <;> simp [h1,h2]
theorem swoA:SWO (ltOf cfA) where
 irrefl x:=by rw [ltA];simp
 trans x y z h1 h2:=by rw [ltA] at *;simp at *;omega
 ntrans x y z h1 h2:=by rw [ltA] at *;simp at *;omega
set_option maxHeartbeats 1000000 in
theorem closure27 (x y:Sp) (W:World):Calls Tryz.prog 151 #[spV x,spV y] W fun e w'=>e=.returned (.int .i64 (cfA x y))∧∃ q os',w'=grow (W.drewN q) os':=by
 obtain⟨xa,xb,xv⟩:=x
 obtain⟨ya,yb,yv⟩:=y
 have hcon:=fun W'=>Tryz.cmp_Compare xa ya W'
 have e0:cfA ⟨xa,xb,xv⟩ ⟨ya,yb,yv⟩=Lib.compareInt xa ya:=rfl
 rw [e0]
 clear e0
 generalize Lib.compareInt xa ya=r at hcon ⊢
 unfold spV
 obtain⟨T,hT⟩:∃ T,bs xv=T:=⟨_,rfl⟩
 obtain⟨U,hU⟩:∃ U,bs yv=U:=⟨_,rfl⟩
 rw [hT,hU]
 clear hT hU
 go_enter Tryz.func151,Tryz.ntmps151
 go_wp2_with (go_at_call 75;(with_reducible refine (hcon _).mono ?_);rintro e w' ⟨rfl,rfl⟩)
 go_ret
 exact⟨rfl,0,_,by rw [alloc_eq_grow,alloc_eq_grow,grow_grow];rfl⟩
theorem cmpLays27 (blk off size:Nat) (w:World):CmpLays Tryz.prog 151 #[] spv 3 cfA blk off size w:=fun _ _ _ _ x y=>closure27 x y _
theorem getA {ls:List Sp} {q:Nat} {s:Sp} (h:ls[q]? = some s):ls.toArray[q]! = s:=by
 have:=List.getElem?_eq_some_iff.1 h
 rw [getElem!_pos _ q (by simpa using this.1)]
 simpa using this.2
theorem holds_of_own {w:World} {base g c n:Nat} {e:TypeId} {ls:List Sp} (ho:w.ownsRow base e 3 (.slice (some ⟨g,0,none⟩) n c) n (spvs ls)):HoldsK spv 3 w g 0 ls.toArray:=by
 have hfz:∀ j,w.frozen? ⟨g,j,none⟩=false:=by
  intro j
  rcases ho.2 with ⟨h,_⟩ | ⟨g',cap,cur,h,_,hg,_⟩
  · cases h
  · cases h
    simp only [World.frozen?]
    rw [hg]
    simp
 intro j hj
 refine⟨?_,hfz _⟩
 rw [size_flatK,List.size_toArray] at hj
 obtain⟨u,hu⟩:∃ u,(spvs ls)[j]? = some u:=⟨_,List.getElem?_eq_getElem (by rw [spvs_length];exact hj)⟩
 have hc:=ho.cells (g:=g) rfl j u hu
 rw [add_at] at hc
 rw [hc,get_flatK _ _ _ _ (by simpa using hj)]
 obtain⟨q,s,hs,h⟩:=spvs_at hu
 rcases h with ⟨rfl,rfl⟩ | ⟨rfl,rfl⟩ | ⟨rfl,rfl⟩
 · rw [show q*3/3=q by omega,show q*3%3=0 by omega,getA hs];rfl
 · rw [show (q*3+1)/3=q by omega,show (q*3+1)%3=1 by omega,getA hs];rfl
 · rw [show (q*3+2)/3=q by omega,show (q*3+2)%3=2 by omega,getA hs];rfl
theorem sat_of_holds {w:World} {g:Nat} {d:Array Sp} (h:HoldsK spv 3 w g 0 d) (hg:g<w.heap.size):SAt w (some ⟨g,0,none⟩) d.size d.toList:=by
 refine⟨by simp,fun _=>⟨g,0,rfl,hg,fun j s hj=>?_⟩⟩
 have hs:=List.getElem?_eq_some_iff.1 hj
 have hlt:j<d.size:=by simpa using hs.1
 have e:d[j]! = s:=by rw [getElem!_pos d j hlt];simpa using hs.2
 have k0:=(h.cell hlt (c:=0) (by omega)).1
 have k1:=(h.cell hlt (c:=1) (by omega)).1
 have k2:=(h.cell hlt (c:=2) (by omega)).1
 rw [e] at k0 k1 k2
 exact⟨k0,k1,k2⟩
theorem below_sort {w:World} {B g off n:Nat} {d:Array Sp} {os:Array Obj} (hg:g<w.heap.size) (hB:B≤g):Below B w (sortWorldK spv 3 w g off n d os):=by
 refine⟨rfl,rfl,rfl,size_sortWorldK_c spv 3 w g off n d os,fun k hk=>?_⟩
 unfold sortWorldK putRowK putRow
 rw [heap_grow_old _ _ (by simp [mapBlock];omega)]
 simp [mapBlock,Array.getElem?_modify,show ¬g=k by omega]
def SortPost (ls:List Sp) (g:Nat) (w:World) (e:Ending) (w':World):Prop:=
 e=.returned (.tuple #[])∧∃ ms:List Sp,ms.Perm ls∧Low ms∧SAt w' (some ⟨g,0,none⟩) ls.length ms∧g<w'.heap.size∧∀ B,B≤g→Below B w w'
theorem sort26 {w:World} {base g c:Nat} {e:TypeId} {ls:List Sp} (ho:w.ownsRow base e 3 (.slice (some ⟨g,0,none⟩) ls.length c) ls.length (spvs ls)) (hn:ls.length≤100000):
 Calls Tryz.prog 150 #[.slice (some ⟨g,0,none⟩) ls.length c,.func (.func 151) #[] #[]] w (SortPost ls g w):=by
 have hg:g<w.heap.size:=(ho.lt g rfl).2
 have hH:=holds_of_own ho
 have hc:=Tryz.slices_SortFunc spv (fun _=>rfl) (fun x v hv=>by simp [spv] at hv;rcases hv with rfl | rfl | rfl <;> rfl) cfA swoA 151 #[] g 0 c ls.toArray w (enters_of Tryz.func151 (by kernel_rfl) rfl) (cmpLays27 _ _ _ _) hH hg (by simp;omega)
 rw [List.size_toArray] at hc
 refine hc.mono ?_
 rintro e w' ⟨rfl,d',n,os,hp,hs,rfl⟩
 have hsz:d'.size=ls.length:=by rw [hp.1,List.size_toArray]
 have hK:=holdsK_sortWorldK_c spv 3 w g 0 ls.toArray d' n os hH hg hp.1
 have hg':g<(sortWorldK spv 3 w g 0 n d' os).heap.size:=Nat.lt_of_lt_of_le hg (size_sortWorldK_c spv 3 w g 0 n d' os)
 have hS:=sat_of_holds hK hg'
 rw [hsz] at hS
 refine⟨rfl,d'.toList,?_,?_,hS,hg',fun B hB=>below_sort hg hB⟩
 · have h3:=hp.2.2
   rw [show d'.extract 0 ls.length=d' by rw [←hsz];exact Array.extract_size,show ls.toArray.extract 0 ls.length=ls.toArray by simp] at h3
   exact h3
 · refine List.pairwise_iff_getElem.2 fun i j hi hj hij=>?_
   have h:=hs i j (Nat.zero_le _) hij (by simpa [hsz] using hj)
   rw [ltA] at h
   have h:=of_decide_eq_false h
   rw [getElem!_pos d' j (by simpa using hj),getElem!_pos d' i (by simpa using hi)] at h
   simp only [Array.getElem_toList]
   omega
end Go.Proofs.YtbkgbhlmeeodgaaGreatDoor.Pq
namespace Go.Proofs.YtbkgbhlmeeodgaaGreatDoor.Pq
open Go.RowKit
def Apart (ms:List Sp):Prop:=∀ (j:Nat) (s t:Sp),ms[j]? = some s→ms[j+1]? = some t→s.b<t.a
theorem fit_of {s:Sp} (h:check [] s=0):Fit s:=(check_ok.1 h).1
theorem rises_of {ms:List Sp} (hl:Low ms) (ha:Apart ms):Rises ms:=by
 refine List.pairwise_iff_getElem.2 fun i j hi hj hij=>?_
 have h1:=ha i ms[i] ms[i+1] (List.getElem?_eq_getElem hi) (List.getElem?_eq_getElem (by omega))
 rcases Nat.lt_or_eq_of_le (show i+1≤j from hij) with h | h
 · have:=List.pairwise_iff_getElem.1 hl (i+1) j (by omega) hj h
   omega
 · subst h;exact h1
theorem apart_of_rises {ms:List Sp} (hr:Rises ms):ms.Pairwise (fun s t=>meets s t=false):=by
 refine hr.imp fun {s t} h=>?_
 unfold meets
 rw [decide_eq_false (show ¬t.a≤s.b by omega),Bool.and_false]
theorem new_ok {ls ms:List Sp} (hf:∀ s∈ls,check [] s=0) (hp:ms.Perm ls) (hl:Low ms) (ha:Apart ms):addAll [] ls=.ok ms∧Good ms:=by
 have hr:=rises_of hl ha
 have hfm:∀ s∈ms,Fit s:=fun s hs=>fit_of (hf s (hp.mem_iff.1 hs))
 have hg:Good ms:=⟨hr,hfm⟩
 obtain⟨r,hr2⟩:=(addAll_ok ms []).2 ⟨hfm,fun s _ t ht=>(by cases ht),apart_of_rises hr⟩
 obtain⟨k1,k2,_⟩:=addAll_good ms [] r good_nil hr2
 have e:r=ms:=good_eq r ms k1 hg (fun t=>by rw [k2 t];simp)
 subst e
 exact⟨addAll_perm hp hr2,hg⟩
theorem addAll_append:∀ (l m acc r:List Sp),addAll acc l=.ok r→addAll acc (l++m)=addAll r m
 | [],m,acc,r,h=>by rw [addAll] at h;cases h;rfl
 | s::l,m,acc,r,h=>by
  rw [addAll] at h
  rw [List.cons_append,addAll]
  split at h
  · rename_i hc
    rw [if_pos hc]
    exact addAll_append l m _ r h
  · cases h
theorem addAll_fails:∀ (l m acc:List Sp) (x:Int),addAll acc l=.error x→addAll acc (l++m)=.error x
 | [],m,acc,x,h=>by rw [addAll] at h;cases h
 | s::l,m,acc,x,h=>by
  rw [addAll] at h
  rw [List.cons_append,addAll]
  split at h
  · rename_i hc
    rw [if_pos hc]
    exact addAll_fails l m _ x h
  · rename_i hc
    rw [if_neg hc]
    exact h
theorem check_fit {l:List Sp} {s:Sp} (h:check [] s=0):check l s=0∨check l s=15:=by
 obtain⟨⟨h1,h2,h3,h4⟩,-⟩:=check_ok.1 h
 unfold check
 rw [if_neg (by omega),if_neg h4]
 split
 · exact .inr rfl
 · exact .inl rfl
theorem check_unfit {l:List Sp} {s:Sp} (h:check [] s≠0):check l s=check [] s:=by
 unfold check at h ⊢
 split
 · rfl
 · rename_i h1
   rw [if_neg h1] at h
   split
   · rfl
   · rename_i h2
     rw [if_neg h2] at h
     exact absurd rfl h
theorem addAll_15:∀ (l acc:List Sp) (x:Int),(∀ s∈l,check [] s=0)→addAll acc l=.error x→x=15
 | [],acc,x,_,h=>by rw [addAll] at h;cases h
 | s::l,acc,x,hf,h=>by
  rw [addAll] at h
  split at h
  · exact addAll_15 l _ x (fun t ht=>hf t (List.mem_cons_of_mem _ ht)) h
  · rename_i hc
    cases h
    rcases check_fit (l:=acc) (hf s (List.mem_cons_self ..)) with e | e
    · exact absurd e hc
    · exact e
theorem new_twice {ls ms m:List Sp} {j:Nat} {s t:Sp} (hf:∀ s∈ls,check [] s=0) (hp:ms.Perm ls) (hl:Low ms) (hs:ms[j]? = some s) (ht:ms[j+1]? = some t) (h:t.a≤s.b):addAll [] (ls++m)=.error 15:=by
 cases hr:addAll [] ls with
 | error x=>
  have:=addAll_15 ls [] x hf hr
  subst this
  exact addAll_fails ls m [] 15 hr
 | ok r=>
  exfalso
  obtain⟨-,-,h3⟩:=(addAll_ok ls []).1 ⟨r,hr⟩
  have h4:ms.Pairwise (fun s t=>meets s t=false):=hp.symm.pairwise h3 (fun {a b} hab=>by rw [meets_comm];exact hab)
  have ei:=List.getElem?_eq_some_iff.1 hs
  have ej:=List.getElem?_eq_some_iff.1 ht
  have h5:=List.pairwise_iff_getElem.1 h4 j (j+1) ei.1 ej.1 (by omega)
  have h6:=List.pairwise_iff_getElem.1 hl j (j+1) ei.1 ej.1 (by omega)
  rw [ei.2,ej.2] at h5 h6
  have h7:=(fit_of (hf t (hp.mem_iff.1 (List.mem_of_getElem? ht)))).2.2.1
  unfold meets at h5
  rw [decide_eq_true (show s.a≤t.b by omega),decide_eq_true h] at h5
  cases h5
theorem new_err {ls ms:List Sp} {k:Nat} {s:Sp} (hf:∀ t∈ls.take k,check [] t=0) (hp:ms.Perm (ls.take k)) (hl:Low ms) (ha:Apart ms) (hs:ls[k]? = some s) (hx:check [] s≠0):addAll [] ls=.error (check [] s):=by
 have h1:=(new_ok hf hp hl ha).1
 have hlt:=(List.getElem?_eq_some_iff.1 hs).1
 have e:ls[k]=s:=(List.getElem?_eq_some_iff.1 hs).2
 have h2:=addAll_append (ls.take k) (ls.drop k) [] ms h1
 rw [List.take_append_drop,List.drop_eq_getElem_cons hlt,e,addAll,check_unfit hx,if_neg hx] at h2
 exact h2
end Go.Proofs.YtbkgbhlmeeodgaaGreatDoor.Pq
namespace Go.Proofs.YtbkgbhlmeeodgaaGreatDoor.Pq
open Go.RowKit Go.Sort Go.Shelf
def OvlPost (ms:List Sp) (w:World) (e:Ending) (w':World):Prop:=
 Below w.heap.size w w'∧((e=.returned (.bool false)∧Apart ms)∨(e=.returned (.bool true)∧∃ (j:Nat) (s t:Sp),ms[j]? = some s∧ms[j+1]? = some t∧t.a≤s.b))
def OvlRel (ms:List Sp) (w:World) (i:Value) (wr:World):Prop:=
 Below w.heap.size w wr∧∃ k:Nat,i=.int .i64 k∧k≤ms.length∧∀ (j:Nat) (s t:Sp),j+1<k→ms[j]? = some s→ms[j+1]? = some t→s.b<t.a
theorem apart_more {ms:List Sp} {k:Nat} {s t:Sp} (h:∀ (j:Nat) (s t:Sp),j+1<k+1→ms[j]? = some s→ms[j+1]? = some t→s.b<t.a) (hs:ms[k]? = some s) (ht:ms[k+1]? = some t) (hlt:s.b<t.a):
 ∀ (j:Nat) (s t:Sp),j+1<k+1+1→ms[j]? = some s→ms[j+1]? = some t→s.b<t.a:=by
 intro j s' t' hj hs' ht'
 by_cases e:j=k
 · subst e
   rw [hs] at hs';rw [ht] at ht'
   cases hs';cases ht'
   exact hlt
 · exact h j s' t' (by omega) hs' ht'
set_option maxRecDepth 100000 in
set_option maxHeartbeats 2000000 in
theorem overlap29 (A:Option Addr) (n ca:Nat) (ms:List Sp) (w:World) (hV:SAt w A n ms) (hn:n≤100000):
 Calls Tryz.prog 152 #[.slice A n ca] w (OvlPost ms w):=by
 have HV:=Lib.hid hV
 have HL:=Lib.hid hV.1
 clear hV
 go_enter Tryz.func152,Tryz.ntmps152
 go_wp2
 go_loopw [7] (fun i wr=>OvlRel ms w i wr) (fun i _=>n-(intOf i).toNat)
 case atStart=>exact⟨Below.refl _ _,0,rfl,Nat.zero_le _,fun j s t hj=>absurd hj (by omega)⟩
 case round=>
  obtain⟨hbel,k,rfl,hkn,hap⟩:=hrel
  rw [HL.out] at hkn
  by_cases hlt:k<n
  · obtain⟨b,off,rfl,hblt,hc⟩:=(HV.out.below hbel).2 (by omega)
    obtain⟨t,ht⟩:=getSp (ls:=ms) (k:=k) (by rw [HL.out];exact hlt)
    obtain⟨h1,h2,h3⟩:=hc k t ht
    have HB:=Lib.hid (fun o=>hbel.alloc hbel.size o)
    obtain⟨T,hT⟩:∃ T,bs t.v=T:=⟨_,rfl⟩
    rw [hT] at h3
    cases k with
    | zero=>
     clear hc hap hT ht
     simp only [Nat.zero_mul,Nat.add_zero] at h1 h2 h3
     have g0:decide ((0:Int)<((0:Nat):Int))=false:=by simp
     go_wp2
     go_quiet (fail)
     go_wp2
     go_roundw
     case rel=>exact⟨below_drewN (HB.out _) _,1,by go_num,by rw [HL.out];omega,fun j s t hj=>absurd hj (by omega)⟩
     case measure=>simp [intOf];omega
    | succ k=>
     obtain⟨s,hs⟩:=getSp (ls:=ms) (k:=k) (by rw [HL.out];omega)
     obtain⟨k1,k2,k3⟩:=hc k s hs
     have HM:=Lib.hid (apart_more hap hs ht)
     have HS:=Lib.hid hs
     have HT:=Lib.hid ht
     have k2':=fun o=>box_cell o k2
     clear hc hap hT ht hs
     by_cases g:t.a≤s.b
     · go_wp2
       have e1:=k2' (.cells #[.int .i64 t.a,.int .i64 t.b,.string T] 176)
       have e2:(wr.alloc (.cells #[.int .i64 t.a,.int .i64 t.b,.string T] 176)).cell? ⟨wr.heap.size,0,none⟩=some (.int .i64 t.a):=by simp
       have e3:=HB.out (.cells #[.int .i64 t.a,.int .i64 t.b,.string T] 176)
       obtain⟨W,hW⟩:∃ W,wr.alloc (.cells #[.int .i64 t.a,.int .i64 t.b,.string T] 176)=W:=⟨_,rfl⟩
       obtain⟨l,hl⟩:∃ l,wr.heap.size=l:=⟨_,rfl⟩
       rw [hW] at e1 e2 e3 ⊢
       rw [hl] at e2 ⊢
       clear hW hl h1 h2 h3 k1 k2 k3 k2'
       have g0:(0:Int)<((k:Int)+1):=by omega
       go_quiet (fail)
       go_wp2
       go_ret
       exact⟨below_drewN e3 _,.inr ⟨rfl,k,s,t,HS.out,HT.out,g⟩⟩
     · have g':s.b<t.a:=by omega
       go_wp2
       have e1:=k2' (.cells #[.int .i64 t.a,.int .i64 t.b,.string T] 176)
       have e2:(wr.alloc (.cells #[.int .i64 t.a,.int .i64 t.b,.string T] 176)).cell? ⟨wr.heap.size,0,none⟩=some (.int .i64 t.a):=by simp
       have e3:=HB.out (.cells #[.int .i64 t.a,.int .i64 t.b,.string T] 176)
       obtain⟨W,hW⟩:∃ W,wr.alloc (.cells #[.int .i64 t.a,.int .i64 t.b,.string T] 176)=W:=⟨_,rfl⟩
       obtain⟨l,hl⟩:∃ l,wr.heap.size=l:=⟨_,rfl⟩
       rw [hW] at e1 e2 e3 ⊢
       rw [hl] at e2 ⊢
       clear hW hl h1 h2 h3 k1 k2 k3 k2'
       have g0:(0:Int)<((k:Int)+1):=by omega
       go_quiet (fail)
       go_wp2
       go_roundw
       case rel=>exact⟨below_drewN e3 _,k+1+1,by go_num,by rw [HL.out];omega,HM.out g'⟩
       case measure=>simp [intOf];omega
  · have hke:k=n:=by omega
    subst hke
    have HA:Hid (Apart ms):=Lib.hid fun j s t hs ht=>hap j s t (by have:=(List.getElem?_eq_some_iff.1 ht).1;rw [HL.out] at this;exact this) hs ht
    clear hap
    go_wp2
    go_ret
    exact⟨hbel,.inl ⟨rfl,HA.out⟩⟩
theorem spvs_one {ls:List Sp}:∀ u∈spvs ls,u.oneCell'=true:=by
 intro u hu
 unfold spvs at hu
 rw [List.mem_flatMap] at hu
 obtain⟨s,_,hs⟩:=hu
 simp [spv] at hs
 rcases hs with rfl | rfl | rfl <;> rfl
def ClPost (ls:List Sp) (w:World) (e:Ending) (w':World):Prop:=
 Below w.heap.size w w'∧((e=.returned (.slice none 0 0)∧ls = [])∨∃ g c,e=.returned (.slice (some ⟨g,0,none⟩) ls.length c)∧w.heap.size≤g∧w'.ownsRow w.heap.size 176 3 (.slice (some ⟨g,0,none⟩) ls.length c) ls.length (spvs ls))
theorem clone25 (A:Option Addr) (n c:Nat) (ls:List Sp) (w:World) (hS:SAt w A n ls) (hA:Flat A) (hn:n≤100000):Calls Tryz.prog 149 #[.slice A n c] w (ClPost ls w):=by
 have hl:=hS.1
 rcases hA with rfl | ⟨b,off,rfl⟩
 · have h0:n=0:=by
    rcases Nat.eq_zero_or_pos n with h | h
    · exact h
    · obtain⟨b,off,e,-⟩:=hS.2 h
      cases e
   subst h0
   refine (Tryz.slices_Clone_nil 0 c w).mono ?_
   rintro e w' ⟨rfl,rfl⟩
   exact⟨Below.refl _ _,.inl ⟨rfl,List.eq_nil_of_length_eq_zero hl⟩⟩
 · obtain⟨i0,hi,hz0,hz1,hz2⟩:=info_parts info41
   have hlen:n≤200000:=by omega
   refine (Tryz.slices_Clone i0 _ 3 32 hi hz0 hz1 hz2 rfl (by decide) Tryz.sizeOf176 b off n c (spvs ls) w (by rw [spvs_length,hl]) (mx hlen) (my hlen) (fun j u hj=>?_) spvs_one).mono ?_
   · have:=sat_cells hS j u hj
     rw [add_off] at this
     exact this
   · rintro e w' ⟨v,rfl,hown,hv,hb⟩
     rcases hown.2 with ⟨rfl,_⟩ | ⟨g,cap,cur,rfl,hg,_⟩
     · exact absurd rfl hv
     · subst hl
       exact⟨hb,.inr ⟨g,cap,rfl,hg,hown⟩⟩
def CsPost (ls:List Sp) (B:Nat) (v:Value) (w:World) (e:Ending) (w':World):Prop:=
 e=.returned (.tuple #[])∧Below B w w'∧∃ (ms:List Sp) (A:Option Addr) (c:Nat),ms.Perm ls∧Low ms∧v=.slice A ls.length c∧ls.length≤c∧(A=none→c=0)∧SAt w' A ls.length ms
theorem sort_any {ls:List Sp} {B:Nat} {v:Value} {w w0:World} (h:ClPost ls w0 (.returned v) w) (hB:B≤w0.heap.size) (hn:ls.length≤100000):Calls Tryz.prog 150 #[v,.func (.func 151) #[] #[]] w (CsPost ls B v w):=by
 rcases h.2 with ⟨e,rfl⟩ | ⟨g,c,e,hg,hown⟩
 · cases e
   refine (Tryz.slices_SortFunc_none none 0 _ w).mono ?_
   rintro e w' ⟨rfl,rfl⟩
   exact⟨rfl,Below.refl _ _,[],none,0,List.Perm.refl _,List.Pairwise.nil,rfl,Nat.le_refl _,fun _=>rfl,SAt.nil _ _⟩
 · cases e
   refine (sort26 hown hn).mono ?_
   rintro e w' ⟨rfl,ms,hp,hl,hS,hg',hb⟩
   have hc:ls.length≤c:=by
    rcases hown.2 with ⟨h,_⟩ | ⟨g',cap,cur,h,_,_,hc,_⟩
    · cases h
    · cases h;exact hc
   exact⟨rfl,hb B (Nat.le_trans hB hg),ms,_,c,hp,hl,rfl,hc,(fun h=>by cases h),hS⟩
theorem clone_any (A:Option Addr) (n c:Nat) (ls:List Sp) (w:World) (hS:SAt w A n ls) (hA:Flat A) (hn:n≤100000):Calls Tryz.prog 149 #[.slice A n c] w fun e w'=>∃ A2 c2,e=.returned (.slice A2 n c2)∧Hid (ClPost ls w (.returned (.slice A2 n c2)) w'):=by
 refine (clone25 A n c ls w hS hA hn).mono ?_
 intro e w' h
 have hl:=hS.1
 subst hl
 have h':=h
 rcases h.2 with ⟨rfl,rfl⟩ | ⟨g,c,rfl,-⟩
 · exact⟨none,0,rfl,Lib.hid h'⟩
 · exact⟨_,c,rfl,Lib.hid h'⟩
theorem sort_some {ls:List Sp} {n B:Nat} {A:Option Addr} {c:Nat} {w w0:World} (h:ClPost ls w0 (.returned (.slice A n c)) w) (hl:ls.length=n) (hB:B≤w0.heap.size) (hn:n≤100000):
 Calls Tryz.prog 150 #[.slice A n c,.func (.func 151) #[] #[]] w fun e w'=>e=.returned (.tuple #[])∧Below B w w'∧∃ ms:List Sp,Hid (ms.Perm ls∧Low ms∧n≤c∧(A=none→c=0)∧SAt w' A n ms):=by
 refine (sort_any h hB (by omega)).mono ?_
 rintro e w' ⟨rfl,hb,ms,A',c',hp,hlw,hv,hc,hA,hS⟩
 injection hv with h1 h2 h3
 subst h1 h3
 exact⟨rfl,hb,ms,Lib.hid ⟨hp,hlw,by omega,hA,by rw [h2];exact hS⟩⟩
theorem flat_of_cl {ls:List Sp} {n c:Nat} {A:Option Addr} {w w':World} (h:ClPost ls w (.returned (.slice A n c)) w'):Flat A:=by
 rcases h.2 with ⟨e,-⟩ | ⟨g,c',e,-⟩
 · cases e;exact .inl rfl
 · cases e;exact .inr ⟨g,0,rfl⟩
theorem fresh_of_cl {ls:List Sp} {n c:Nat} {A:Option Addr} {w w':World} (h:ClPost ls w (.returned (.slice A n c)) w'):∀ a,A=some a→w.heap.size≤a.block:=by
 intro a ha
 rcases h.2 with ⟨e,-⟩ | ⟨g,c',e,hg,-⟩
 · cases e;cases ha
 · cases e;cases ha;exact hg
def Ahd2 (ls:List Sp) (w:World) (e:Ending) (w':World):Prop:=
 ∃ (k:Nat) (x:Int),e=.returned (.tuple #[.int .i64 k,.int .i64 x])∧Below w.heap.size w w'∧k≤ls.length∧Hid ((∀ t∈ls.take k,check [] t=0)∧((x=0∧k=ls.length)∨∃ s,ls[k]? = some s∧x=check [] s∧x≠0))
theorem ahead_any (A:Option Addr) (n ca:Nat) (ls:List Sp) (w:World) (hV:SAt w A n ls) (hn:n≤100000):Calls Tryz.prog 148 #[.slice A n ca] w (Ahd2 ls w):=by
 refine (ahead24 A n ca ls w hV hn).mono ?_
 rintro e w' ⟨hb,⟨rfl,hf⟩ | ⟨k,s,hs,rfl,hx,hf⟩⟩
 · exact⟨ls.length,0,rfl,hb,Nat.le_refl _,Lib.hid ⟨fun t ht=>hf t (List.mem_of_mem_take ht),.inl ⟨rfl,rfl⟩⟩⟩
 · exact⟨k,_,rfl,hb,Nat.le_of_lt (List.getElem?_eq_some_iff.1 hs).1,Lib.hid ⟨hf,.inr ⟨s,hs,rfl,hx⟩⟩⟩
def NwPost (ls:List Sp) (w:World) (e:Ending) (w':World):Prop:=
 Below w.heap.size w w'∧((∃ r b A c,addAll [] ls=.ok r∧e=.returned (.tuple #[.pointer (some ⟨b,0,none⟩),.int .i64 0])∧TIn w' (some ⟨b,0,none⟩) A c r∧Flat A∧(w.heap.size≤b∧∀ a,A=some a→w.heap.size≤a.block)) ∨
  (∃ x,addAll [] ls=.error x∧x≠0∧e=.returned (.tuple #[.pointer none,.int .i64 x])))
theorem ovl_yes {A:Option Addr} {n ca:Nat} {ms:List Sp} {w:World} (hV:SAt w A n ms) (hn:n≤100000) (h:Apart ms):Calls Tryz.prog 152 #[.slice A n ca] w fun e w'=>e=.returned (.bool false)∧Below w.heap.size w w':=by
 refine (overlap29 A n ca ms w hV hn).mono ?_
 rintro e w' ⟨hb,⟨rfl,-⟩ | ⟨rfl,j,s,t,hs,ht,hle⟩⟩
 · exact⟨rfl,hb⟩
 · exact absurd (h j s t hs ht) (by omega)
theorem ovl_no {A:Option Addr} {n ca:Nat} {ms:List Sp} {w:World} (hV:SAt w A n ms) (hn:n≤100000) (h:¬Apart ms):Calls Tryz.prog 152 #[.slice A n ca] w fun e w'=>e=.returned (.bool true)∧Below w.heap.size w w':=by
 refine (overlap29 A n ca ms w hV hn).mono ?_
 rintro e w' ⟨hb,⟨rfl,ha⟩ | ⟨rfl,-⟩⟩
 · exact absurd ha h
 · exact⟨rfl,hb⟩
theorem not_apart {ms:List Sp} (h:¬Apart ms):∃ (j:Nat) (s t:Sp),ms[j]? = some s∧ms[j+1]? = some t∧t.a≤s.b:=by
 refine Classical.byContradiction fun hn=>h fun j s t hs ht=>?_
 by_cases h1:s.b<t.a
 · exact h1
 · exact absurd ⟨j,s,t,hs,ht,by omega⟩ hn
theorem take_all {ls:List Sp} {k:Nat} (h:k=ls.length):ls.take k=ls:=by subst h;exact List.take_length
set_option maxRecDepth 100000 in
set_option maxHeartbeats 2000000 in
theorem new9 (A:Option Addr) (n c:Nat) (ls:List Sp) (w:World) (hS:SAt w A n ls) (hA:Flat A) (hA0:A=none→c=0) (hc:n≤c) (hn:n≤100000):Calls Tryz.prog 117 #[.slice A n c] w (NwPost ls w):=by
 have c24:=ahead_any A n c ls w hS hn
 have c25:=fun (w1:World) (k:Nat) (hb1:Below w.heap.size w w1) (hk:k≤n)=>clone_any A k c (ls.take k) w1 ((hS.below hb1).take hk) hA (by omega)
 have HL:=Lib.hid hS.1
 have C25:=Lib.hid c25
 clear hS c25
 have HA:=Lib.hid hA
 rcases hA with rfl | ⟨b,off,rfl⟩
 · obtain rfl:c=0:=hA0 rfl
   obtain rfl:n=0:=by omega
   clear hA0
   go_enter Tryz.func117,Tryz.ntmps117
   go_wp2_with (first
    | (go_at_call 148;(with_reducible refine c24.mono ?_);rintro e w1 ⟨k,x,rfl,hb1,hk,hh⟩;rw [HL.out] at hk;obtain rfl:k=0:=Nat.le_zero.1 hk;have HH:=Lib.hid hh;clear hh;have k25:=C25.out w1 0 hb1 hk)
    | (go_at_call 149;(with_reducible refine k25.mono ?_);rintro e w2 ⟨A2,c2,rfl,hcl⟩;have HCL:=Lib.hid hcl;clear hcl;have k26:=sort_some (B:=w.heap.size) HCL.out.out rfl hb1.size (Nat.le_trans hk hn))
    | (go_at_call 150;(with_reducible refine k26.mono ?_);rintro e w3 ⟨rfl,hb3,ms,hms⟩;have HMS:=Lib.hid hms;clear hms))
   have hB3:Below w.heap.size w w3:=hb1.trans ((HCL.out.out.1.mono hb1.size).trans hb3)
   by_cases hap:Apart ms
   · have k29:=ovl_yes (ca:=c2) HMS.out.out.2.2.2.2 (Nat.le_trans hk hn) hap
     by_cases hx:x=0
     · subst hx
       have HN:Hid (addAll [] ls=.ok ms∧ms.length=0):=Lib.hid (by
        rcases HH.out.out.2 with ⟨-,hkl⟩ | ⟨s,-,-,h⟩
        · have e:=take_all hkl
          have hf:=HH.out.out.1
          have hp:=HMS.out.out.1
          rw [e] at hf hp
          exact⟨(new_ok hf hp HMS.out.out.2.1 hap).1,by rw [hp.length_eq,hkl]⟩
        · exact absurd rfl h)
       clear k26 k25 c24
       refine k29.mono ?_
       rintro e w4 ⟨rfl,hb4⟩
       go_wp2
       go_ret2
       have b5:Below w4.heap.size w4 (w4.alloc (.cells #[.slice A2 0 c2] 232)):=(Below.refl _ _).alloc (Nat.le_refl _) _
       have hs5:=(HMS.out.out.2.2.2.2.below hb4).below b5
       refine⟨hB3.trans ((hb4.trans (b5.mono hb4.size)).mono hB3.size),.inl ⟨ms,w4.heap.size,A2,c2,HN.out.1,rfl,.inr ⟨w4.heap.size,rfl,by simp,?_,by rw [HN.out.2];exact hs5,by rw [HN.out.2];exact HMS.out.out.2.2.1,HMS.out.out.2.2.2.1⟩,flat_of_cl HCL.out.out,Nat.le_trans hB3.size hb4.size,fun a e=>Nat.le_trans hb1.size (fresh_of_cl HCL.out.out a e)⟩⟩
       rw [HN.out.2]
       simp
     · have HN:Hid (addAll [] ls=.error x∧x≠0):=Lib.hid (by
        rcases HH.out.out.2 with ⟨h,-⟩ | ⟨s,hs,rfl,h⟩
        · exact absurd h hx
        · exact⟨new_err HH.out.out.1 HMS.out.out.1 HMS.out.out.2.1 hap hs h,h⟩)
       have hb0:(x==0)=false:=beq_false_of_ne hx
       clear k26 k25 c24 hx
       refine k29.mono ?_
       rintro e w4 ⟨rfl,hb4⟩
       go_wp2
       go_ret2
       exact⟨hB3.trans (hb4.mono hB3.size),.inr ⟨x,HN.out.1,HN.out.2,rfl⟩⟩
   · have k29:=ovl_no (ca:=c2) HMS.out.out.2.2.2.2 (Nat.le_trans hk hn) hap
     have HN:Hid (addAll [] ls=.error 15):=Lib.hid (by
      obtain⟨j,s,t,hs,ht,hle⟩:=not_apart hap
      have:=new_twice (m:=ls.drop 0) HH.out.out.1 HMS.out.out.1 HMS.out.out.2.1 hs ht hle
      rw [List.take_append_drop] at this
      exact this)
     clear k26 k25 c24
     refine k29.mono ?_
     rintro e w4 ⟨rfl,hb4⟩
     go_wp2
     go_ret2
     exact⟨hB3.trans (hb4.mono hB3.size),.inr ⟨15,HN.out,by decide,rfl⟩⟩
 · clear hA0
   go_enter Tryz.func117,Tryz.ntmps117
   go_wp2_with (first
    | (go_at_call 148;(with_reducible refine c24.mono ?_);rintro e w1 ⟨k,x,rfl,hb1,hk,hh⟩;rw [HL.out] at hk;have HH:=Lib.hid hh;clear hh;have hkc:k≤c:=Nat.le_trans hk hc;have k25:=C25.out w1 k hb1 hk)
    | (go_at_call 149;(with_reducible refine k25.mono ?_);rintro e w2 ⟨A2,c2,rfl,hcl⟩;have HCL:=Lib.hid hcl;clear hcl;have k26:=sort_some (B:=w.heap.size) HCL.out.out (by rw [List.length_take,HL.out];omega) hb1.size (Nat.le_trans hk hn))
    | (go_at_call 150;(with_reducible refine k26.mono ?_);rintro e w3 ⟨rfl,hb3,ms,hms⟩;have HMS:=Lib.hid hms;clear hms))
   have hB3:Below w.heap.size w w3:=hb1.trans ((HCL.out.out.1.mono hb1.size).trans hb3)
   by_cases hap:Apart ms
   · have k29:=ovl_yes (ca:=c2) HMS.out.out.2.2.2.2 (Nat.le_trans hk hn) hap
     by_cases hx:x=0
     · subst hx
       have HN:Hid (addAll [] ls=.ok ms∧ms.length=k):=Lib.hid (by
        rcases HH.out.out.2 with ⟨-,hkl⟩ | ⟨s,-,-,h⟩
        · have e:=take_all hkl
          have hf:=HH.out.out.1
          have hp:=HMS.out.out.1
          rw [e] at hf hp
          exact⟨(new_ok hf hp HMS.out.out.2.1 hap).1,by rw [hp.length_eq,hkl]⟩
        · exact absurd rfl h)
       clear k26 k25 c24
       refine k29.mono ?_
       rintro e w4 ⟨rfl,hb4⟩
       go_wp2
       go_ret2
       have b5:Below w4.heap.size w4 (w4.alloc (.cells #[.slice A2 k c2] 232)):=(Below.refl _ _).alloc (Nat.le_refl _) _
       have hs5:=(HMS.out.out.2.2.2.2.below hb4).below b5
       refine⟨hB3.trans ((hb4.trans (b5.mono hb4.size)).mono hB3.size),.inl ⟨ms,w4.heap.size,A2,c2,HN.out.1,rfl,.inr ⟨w4.heap.size,rfl,by simp,?_,by rw [HN.out.2];exact hs5,by rw [HN.out.2];exact HMS.out.out.2.2.1,HMS.out.out.2.2.2.1⟩,flat_of_cl HCL.out.out,Nat.le_trans hB3.size hb4.size,fun a e=>Nat.le_trans hb1.size (fresh_of_cl HCL.out.out a e)⟩⟩
       rw [HN.out.2]
       simp
     · have HN:Hid (addAll [] ls=.error x∧x≠0):=Lib.hid (by
        rcases HH.out.out.2 with ⟨h,-⟩ | ⟨s,hs,rfl,h⟩
        · exact absurd h hx
        · exact⟨new_err HH.out.out.1 HMS.out.out.1 HMS.out.out.2.1 hap hs h,h⟩)
       have hb0:(x==0)=false:=beq_false_of_ne hx
       clear k26 k25 c24 hx
       refine k29.mono ?_
       rintro e w4 ⟨rfl,hb4⟩
       go_wp2
       go_ret2
       exact⟨hB3.trans (hb4.mono hB3.size),.inr ⟨x,HN.out.1,HN.out.2,rfl⟩⟩
   · have k29:=ovl_no (ca:=c2) HMS.out.out.2.2.2.2 (Nat.le_trans hk hn) hap
     have HN:Hid (addAll [] ls=.error 15):=Lib.hid (by
      obtain⟨j,s,t,hs,ht,hle⟩:=not_apart hap
      have:=new_twice (m:=ls.drop k) HH.out.out.1 HMS.out.out.1 HMS.out.out.2.1 hs ht hle
      rw [List.take_append_drop] at this
      exact this)
     clear k26 k25 c24
     refine k29.mono ?_
     rintro e w4 ⟨rfl,hb4⟩
     go_wp2
     go_ret2
     exact⟨hB3.trans (hb4.mono hB3.size),.inr ⟨15,HN.out,by decide,rfl⟩⟩
end Go.Proofs.YtbkgbhlmeeodgaaGreatDoor.Pq
namespace Go.Proofs.YtbkgbhlmeeodgaaGreatDoor.Pq
open Go.RowKit Go.Shelf
theorem new_fine:NewOk:=fun A n c ls W hS hF h0 hc hn r hr=>(new9 A n c ls W hS hF h0 hc hn).mono (by
 rintro e w' ⟨hb,⟨r',b,A',c',h1,rfl,hT,-,hfr⟩ | ⟨x,h1,-,-⟩⟩
 · rw [hr] at h1
   injection h1 with h1
   subst h1
   exact⟨b,rfl,Lib.hid ⟨hb,A',c',hT,hfr⟩⟩
 · rw [hr] at h1
   cases h1)
theorem pparse9 (A:Option Addr) (n c:Nat) (l:List UInt8) (V:Option Addr) (nv cv:Nat) (vs:List (List UInt8)) (w:World) (hO:Octs w A n l) (hn:n≤4000) (hV:Vals w V nv (strs vs)) (hnv:nv≤1000) (hM:ML w):Calls Tryz.prog 78 #[.slice A n c,.slice V nv cv] w (PrPost vs l w):=
 pparse_of new_fine A n c l V nv cv vs w hO hn hV hnv hM
end Go.Proofs.YtbkgbhlmeeodgaaGreatDoor.Pq
