/- A part. -/
import Derived.Shelf.SlGeneric
import Derived.Shelf.SlIterI.Nil
import Derived.Shelf.SortM.Plain
import Derived.Shelf.SortM.SortNone
import Derived.Ground.GgzProg
import Derived.Ground.SlgmProg
import Derived.Test.YtbkgbhlmeeodgaaGreatDoorQc16
namespace Go.Proofs
open Go.Shelf
def Tryz.keysA_ren:Go.Shelf.Ren:=⟨fun | 7=>120 | 10=>157 | n=>n,fun | 23=>183 | 26=>3 | 3=>25 | 28=>189 | 0=>0 | 27=>188 | 33=>105 | 4=>4 | n=>n,fun | n=>n⟩
theorem Tryz.keysA:Go.Proofs.SlLaysZI.n7 Tryz.prog Tryz.keysA_ren:={
 mixed:=by kernel_rfl
 f7:=⟨Tryz.f120.name,by decide,Tryz.func120.trans (congrArg some (by kernel_rfl))⟩
 f10:=⟨Tryz.f157.name,by decide,Tryz.func157.trans (congrArg some (by kernel_rfl))⟩
 t0:=Tryz.underlying0
 a0:=Tryz.isAgg0
 z0:=Tryz.sizeOf0
 v0:=Tryz.zeroValue0
 t4:=Tryz.underlying4
 a4:=Tryz.isAgg4
 z4:=Tryz.sizeOf4
 v4:=Tryz.zeroValue4
 t23:=Tryz.underlying183
 a23:=Tryz.isAgg183
 z23:=Tryz.sizeOf183
 v23:=Tryz.zeroValue183
 t26:=Tryz.underlying3
 a26:=Tryz.isAgg3
 z26:=Tryz.sizeOf3
 v26:=Tryz.zeroValue3
 t27:=Tryz.underlying188
 a27:=Tryz.isAgg188
 z27:=Tryz.sizeOf188
 v27:=Tryz.zeroValue188
 t28:=Tryz.underlying189
 a28:=Tryz.isAgg189
 z28:=Tryz.sizeOf189
 v28:=Tryz.zeroValue189
 t33:=Tryz.underlying105
 a33:=Tryz.isAgg105
 z33:=Tryz.sizeOf105
 v33:=Tryz.zeroValue105 }
def Tryz.sortedA_ren:Go.Shelf.Ren:=⟨fun | 6=>119 | 8=>155 | 9=>156 | 11=>193 | 13=>183 | 12=>194 | 23=>215 | 24=>216 | 14=>229 | 15=>230 | 16=>231 | 17=>232 | 18=>233 | 19=>234 | 20=>235 | 21=>236 | 22=>237 | 25=>262 | 26=>252 | 27=>253 | 28=>263 | 29=>264 | 30=>109 | 31=>275 | n=>n,fun | 26=>3 | 28=>189 | 24=>25 | 0=>0 | 3=>3 | 37=>199 | 48=>280 | 50=>224 | 4=>4 | 40=>274 | 39=>273 | 45=>51 | 5=>5 | 9=>9 | 51=>299 | 55=>204 | 57=>315 | 58=>316 | 33=>105 | n=>n,fun | n=>n⟩
theorem Tryz.sortedA:Go.Proofs.SlLaysZI.n6 Tryz.prog Tryz.sortedA_ren:={
 mixed:=by kernel_rfl
 f6:=⟨Tryz.f119.name,by decide,Tryz.func119.trans (congrArg some (by kernel_rfl))⟩
 f8:=⟨Tryz.f155.name,by decide,Tryz.func155.trans (congrArg some (by kernel_rfl))⟩
 f11:=⟨Tryz.f193.name,by decide,Tryz.func193.trans (congrArg some (by kernel_rfl))⟩
 t0:=Tryz.underlying0
 a0:=Tryz.isAgg0
 z0:=Tryz.sizeOf0
 v0:=Tryz.zeroValue0
 t24:=Tryz.underlying25
 a24:=Tryz.isAgg25
 z24:=Tryz.sizeOf25
 v24:=Tryz.zeroValue25
 t26:=Tryz.underlying3
 a26:=Tryz.isAgg3
 z26:=Tryz.sizeOf3
 v26:=Tryz.zeroValue3
 t28:=Tryz.underlying189
 a28:=Tryz.isAgg189
 z28:=Tryz.sizeOf189
 v28:=Tryz.zeroValue189
 i26:=by kernel_rfl }
def Tryz.sortA_ren:Go.Shelf.Ren:=⟨fun | 5=>156 | 8=>183 | 7=>194 | 19=>215 | 20=>216 | 10=>229 | 11=>230 | 12=>231 | 13=>232 | 14=>233 | 15=>234 | 16=>235 | 17=>236 | 18=>237 | 30=>262 | 31=>252 | 32=>253 | 33=>263 | 34=>264 | 35=>109 | 40=>275 | n=>n,fun | 23=>25 | 25=>3 | 3=>3 | 32=>199 | 22=>25 | 0=>0 | 44=>280 | 46=>224 | 4=>4 | 36=>274 | 35=>273 | 41=>51 | 5=>5 | 9=>9 | 53=>299 | 57=>204 | 63=>315 | 64=>316 | n=>n,fun | n=>n⟩
theorem Tryz.sortA:Go.Proofs.SlLaysM.n5 Tryz.prog Tryz.sortA_ren:={
 mixed:=by kernel_rfl
 f5:=⟨Tryz.f156.name,by decide,Tryz.func156.trans (congrArg some (by kernel_rfl))⟩
 f7:=⟨Tryz.f194.name,by decide,Tryz.func194.trans (congrArg some (by kernel_rfl))⟩
 f8:=Tryz.func183.trans (congrArg some (by kernel_rfl))
 f10:=⟨Tryz.f229.name,by decide,Tryz.func229.trans (congrArg some (by kernel_rfl))⟩
 f11:=⟨Tryz.f230.name,by decide,Tryz.func230.trans (congrArg some (by kernel_rfl))⟩
 f12:=⟨Tryz.f231.name,by decide,Tryz.func231.trans (congrArg some (by kernel_rfl))⟩
 f13:=⟨Tryz.f232.name,by decide,Tryz.func232.trans (congrArg some (by kernel_rfl))⟩
 f14:=⟨Tryz.f233.name,by decide,Tryz.func233.trans (congrArg some (by kernel_rfl))⟩
 f15:=⟨Tryz.f234.name,by decide,Tryz.func234.trans (congrArg some (by kernel_rfl))⟩
 f16:=⟨Tryz.f235.name,by decide,Tryz.func235.trans (congrArg some (by kernel_rfl))⟩
 f17:=⟨Tryz.f236.name,by decide,Tryz.func236.trans (congrArg some (by kernel_rfl))⟩
 f18:=⟨Tryz.f237.name,by decide,Tryz.func237.trans (congrArg some (by kernel_rfl))⟩
 f19:=Tryz.func215.trans (congrArg some (by kernel_rfl))
 f20:=Tryz.func216.trans (congrArg some (by kernel_rfl))
 f30:=⟨Tryz.f262.name,by decide,Tryz.func262.trans (congrArg some (by kernel_rfl))⟩
 f31:=Tryz.func252.trans (congrArg some (by kernel_rfl))
 f32:=Tryz.func253.trans (congrArg some (by kernel_rfl))
 f33:=⟨Tryz.f263.name,by decide,Tryz.func263.trans (congrArg some (by kernel_rfl))⟩
 f34:=⟨Tryz.f264.name,by decide,Tryz.func264.trans (congrArg some (by kernel_rfl))⟩
 f35:=⟨Tryz.f109.name,by decide,Tryz.func109.trans (congrArg some (by kernel_rfl))⟩
 f40:=⟨Tryz.f275.name,by decide,Tryz.func275.trans (congrArg some (by kernel_rfl))⟩
 t0:=Tryz.underlying0
 a0:=Tryz.isAgg0
 z0:=Tryz.sizeOf0
 v0:=Tryz.zeroValue0
 t3:=Tryz.underlying3
 a3:=Tryz.isAgg3
 z3:=Tryz.sizeOf3
 v3:=Tryz.zeroValue3
 t4:=Tryz.underlying4
 a4:=Tryz.isAgg4
 z4:=Tryz.sizeOf4
 v4:=Tryz.zeroValue4
 t5:=Tryz.underlying5
 a5:=Tryz.isAgg5
 z5:=Tryz.sizeOf5
 v5:=Tryz.zeroValue5
 t9:=Tryz.underlying9
 a9:=Tryz.isAgg9
 z9:=Tryz.sizeOf9
 v9:=Tryz.zeroValue9
 t22:=Tryz.underlying25
 a22:=Tryz.isAgg25
 z22:=Tryz.sizeOf25
 v22:=Tryz.zeroValue25
 t23:=Tryz.underlying25
 a23:=Tryz.isAgg25
 z23:=Tryz.sizeOf25
 v23:=Tryz.zeroValue25
 t25:=Tryz.underlying3
 a25:=Tryz.isAgg3
 z25:=Tryz.sizeOf3
 v25:=Tryz.zeroValue3
 t32:=Tryz.underlying199
 a32:=Tryz.isAgg199
 z32:=Tryz.sizeOf199
 v32:=Tryz.zeroValue199
 t35:=Tryz.underlying273
 a35:=Tryz.isAgg273
 z35:=Tryz.sizeOf273
 v35:=Tryz.zeroValue273
 t36:=Tryz.underlying274
 a36:=Tryz.isAgg274
 z36:=Tryz.sizeOf274
 v36:=Tryz.zeroValue274
 t41:=Tryz.underlying51
 a41:=Tryz.isAgg51
 z41:=Tryz.sizeOf51
 v41:=Tryz.zeroValue51
 t44:=Tryz.underlying280
 a44:=Tryz.isAgg280
 z44:=Tryz.sizeOf280
 v44:=Tryz.zeroValue280
 t46:=Tryz.underlying224
 a46:=Tryz.isAgg224
 z46:=Tryz.sizeOf224
 v46:=Tryz.zeroValue224
 t53:=Tryz.underlying299
 a53:=Tryz.isAgg299
 z53:=Tryz.sizeOf299
 v53:=Tryz.zeroValue299
 t57:=Tryz.underlying204
 a57:=Tryz.isAgg204
 z57:=Tryz.sizeOf204
 v57:=Tryz.zeroValue204
 t63:=Tryz.underlying315
 a63:=Tryz.isAgg315
 z63:=Tryz.sizeOf315
 v63:=Tryz.zeroValue315
 t64:=Tryz.underlying316
 a64:=Tryz.isAgg316
 z64:=Tryz.sizeOf316
 v64:=Tryz.zeroValue316 }
end Go.Proofs
namespace Go.Proofs.YtbkgbhlmeeodgaaGreatDoor.Cf
open Go.RowKit Go.Shelf
theorem sorts35 (m:Nat):AnyZI.SortsIn Tryz.prog Tryz.sortedA_ren Fence.wide m:=
 ⟨fun blk off cap ss W hH hblk hsz=>callsIn_wide.2 (AnyM.slices_Sort_int Tryz.sortA blk off cap ss W hH hblk hsz),
  fun p cap W=>callsIn_wide.2 (AnyM.slices_Sort_int_none Tryz.sortA p cap W)⟩
theorem keys19 (mb:Option Nat) (W:World):Calls Tryz.prog 120 #[.map mb] W fun e w'=>e=.returned (.func (.func 157) #[] #[.pointer (some ⟨W.heap.size,0,none⟩)])∧w'=W.alloc (.cells #[.map mb] 183):=
 (callsIn_wide (n:=5)).1 (AnyZI.keys_in Tryz.keysA Fence.wide 5 trivial rfl mb W)
theorem keys_are {w:World} {mb n:Nat} {D:DataW Value} {ps:List Pp} (ho:w.ownsMap Tryz.prog 3 tokE mb n D) (hh:∀ c:Int,Maps.has D (.int .i64 c)=hasS ps c) (hr:Rise ps):(ps.map Pp.c).Perm (intKeys D):=by
 obtain⟨es,hD,hpw,-⟩:=ho.entries k3
 obtain⟨es',hD',hko⟩:=ho.keysOf
 obtain rfl:es=es':=by rw [hD] at hD';simpa using hD'
 subst hD
 refine perm_intKeys hpw (fun p hp=>by obtain⟨v,hv⟩:=hko p hp;obtain⟨x,-,hx,-⟩:=Maps.keyOf_i64 Tryz.underlying3 hv;exact⟨x,hx⟩) (rise_nodup hr) (fun x=>?_)
 rw [hh x,has_iff,List.mem_map]
theorem sort_rise {ps:List Pp} {ss:List Int} (hr:Rise ps) (hp:ss.Perm (ps.map Pp.c)):ss.mergeSort (fun x y=>decide (x≤y))=ps.map Pp.c:=by
 have h1:=mergeSort_of_perm_i hp
 have tr:∀ a b c:Int,leI a b=true→leI b c=true→leI a c=true:=fun a b c h1 h2=>by simp only [leI,decide_eq_true_eq] at *;exact Int.le_trans h1 h2
 have tot:∀ a b:Int,(leI a b||leI b a)=true:=fun a b=>by simp only [leI,Bool.or_eq_true,decide_eq_true_eq];exact Int.le_total a b
 refine h1.trans (List.Perm.eq_of_pairwise (le:=fun a b=>leI a b=true) (fun a b _ _ h1 h2=>?_) (List.pairwise_mergeSort tr tot _) ?_ (List.mergeSort_perm _ _))
 · simp only [leI,decide_eq_true_eq] at h1 h2
   exact Int.le_antisymm h1 h2
 · rw [List.pairwise_map]
   exact hr.imp (fun h=>by simp only [leI,decide_eq_true_eq];omega)
def SkPost (ps:List Pp) (W:World) (e:Ending) (w':World):Prop:=
 ∃ A k,e=.returned (.slice A ps.length k)∧Hid (Below W.heap.size W w'∧Vals w' A ps.length (nums .i64 (ps.map Pp.c))∧∀ a,A=some a→W.heap.size≤a.block)
theorem sorted18 (Bm mb n:Nat) (D:DataW Value) (ps:List Pp) (W:World) (hB:W.cell? ⟨Bm,0,none⟩=some (.map (some mb))) (ho:W.ownsMap Tryz.prog 3 tokE mb n D) (hh:∀ c:Int,Maps.has D (.int .i64 c)=hasS ps c) (hr:Rise ps) (hn:n≤1000000):
 Calls Tryz.prog 119 #[.func (.func 157) #[] #[.pointer (some ⟨Bm,0,none⟩)]] W (SkPost ps W):=by
 have hsz:=ho.size_le
 have hseq:SeqGives Fence.wide 3 Tryz.prog 157 #[.pointer (some ⟨Bm,0,none⟩)] encZ (fun ss=>ss.Perm (intKeys D)) (Maps.size D) W:=
  AnyZI.keys_gives (ρ:=Tryz.keysA_ren) { Tryz.keysA with } Fence.wide 3 trivial rfl (by omega) Bm mb n D W (World.block_lt_of_cell? W _ hB) hB ho
 have cS:=AnyZI.sorted_in Tryz.sortedA Fence.wide 6 trivial trivial trivial trivial rfl (by omega) (sorts35 _) (enters_of Tryz.func156 (by kernel_rfl) rfl) 157 #[.pointer (some ⟨Bm,0,none⟩)] trivial (enters_of Tryz.func157 (by kernel_rfl) rfl) _ _ (by unfold maxLen;omega) (by omega) W hseq
 refine ((callsIn_wide (n:=6)).1 cS).mono ?_
 rintro e w' ⟨v,ss,rfl,hS,hrow,-,hb⟩
 have hp:=hS.trans (keys_are ho hh hr).symm
 have hl:ss.length=ps.length:=by have:=hp.length_eq;rwa [List.length_map] at this
 rw [sort_rise hr hp,hl] at hrow
 obtain⟨A,k,rfl,-,hv,-⟩:=own_vals hrow
 exact⟨A,k,rfl,Lib.hid ⟨hb,hv,fun a e=>(hrow.lt a.block (by rw [e];rfl)).1⟩⟩
inductive Cst where
 | at (out:List Pp)
 | bad (e n:Int)
def cstep:Cst→Ln→Cst
 | .bad e n,_=>.bad e n
 | .at out,x=>if ¬cErr x.2=0 then .bad (cErr x.2) x.1 else if hasS out (cPair x.2).c=true then .bad 15 x.1 else .at (insC (cPair x.2) out)
def cfin:Cst→CRes
 | .at out=>⟨out,0,0⟩
 | .bad e n=>⟨[],e,n⟩
theorem cstep_err {out:List Pp} {x:Ln} (h:¬cErr x.2=0):cstep (.at out) x=.bad (cErr x.2) x.1:=by rw [cstep,if_pos h]
theorem cstep_twice {out:List Pp} {x:Ln} (h:cErr x.2=0) (hc:hasS out (cPair x.2).c=true):cstep (.at out) x=.bad 15 x.1:=by rw [cstep,if_neg (by simpa using h),if_pos hc]
theorem cstep_add {out:List Pp} {x:Ln} (h:cErr x.2=0) (hc:hasS out (cPair x.2).c=false):cstep (.at out) x=.at (insC (cPair x.2) out):=by rw [cstep,if_neg (by simpa using h),if_neg (by rw [hc];simp)]
theorem cfold_bad (e n:Int):∀ L:List Ln,L.foldl cstep (.bad e n)=.bad e n
 | []=>rfl
 | x::L=>by rw [List.foldl_cons];exact cfold_bad e n L
theorem cfold_cf:∀ (L:List Ln) (out:List Pp),cfin (L.foldl cstep (.at out))=cfP out L
 | [],out=>rfl
 | x::L,out=>by
  rw [List.foldl_cons]
  by_cases hx:cErr x.2=0
  · cases hc:hasS out (cPair x.2).c with
    | true=>rw [cstep_twice hx hc,cf_bad hx hc,cfold_bad];rfl
    | false=>rw [cstep_add hx hc,cf_add hx hc];exact cfold_cf L _
  · rw [cstep_err hx,cf_err hx,cfold_bad];rfl
def cstOf (xs:List LnV):Cst:=(xs.map view).foldl cstep (.at [])
theorem cst_snoc (xs:List LnV) (x:LnV):cstOf (xs ++ [x])=cstep (cstOf xs) (view x):=by unfold cstOf;rw [List.map_append,List.foldl_append];rfl
theorem cst_bad {xs:List LnV} {l:List Ln} {e n:Int} (h:cstOf xs=.bad e n) (hp:xs.map view <+: l):cfOf l=⟨[],e,n⟩:=by
 obtain⟨r,rfl⟩:=hp
 unfold cfOf
 rw [←cfold_cf,List.foldl_append]
 unfold cstOf at h
 rw [h,cfold_bad]
 rfl
theorem cst_all {xs:List LnV} {l:List Ln} {s:Cst} (h:cstOf xs=s) (hp:xs.map view=l):cfOf l=cfin s:=by
 unfold cfOf
 rw [←cfold_cf,←h,←hp]
 rfl
def RB3 (H:Nat) (p:Option Addr) (e n:Int) (W:World):Prop:=
 (W.cell? ⟨H,0,none⟩=some (.pointer p)∧W.frozen? ⟨H,0,none⟩=false)∧((W.cell? ⟨H+1,0,none⟩=some (.int .i64 e)∧W.frozen? ⟨H+1,0,none⟩=false)∧(W.cell? ⟨H+2,0,none⟩=some (.int .i64 n)∧W.frozen? ⟨H+2,0,none⟩=false))
theorem rb3_abide {β:Type} {B:Nat} (H:Nat) (p:β → Option Addr) (e n:β → Int):Abide 0 0 B (fun s W=>RB3 H (p s) (e s) (n s) W):=
 Abide.and (abide_cell (fun _=>⟨H,0,none⟩) (fun s=>.pointer (p s)) (fun _=>by omega)) (Abide.and (abide_cell (fun _=>⟨H+1,0,none⟩) (fun s=>.int .i64 (e s)) (fun _=>by omega)) (abide_cell (fun _=>⟨H+2,0,none⟩) (fun s=>.int .i64 (n s)) (fun _=>by omega)))
theorem RB3.below {H:Nat} {p:Option Addr} {e n:Int} {W W':World} (h:RB3 H p e n W) {B:Nat} (hl:H+2<B) (hb:Below B W W'):RB3 H p e n W':=
 ⟨⟨(hb.cell (p:=⟨H,0,none⟩) (by show H<B;omega)).trans h.1.1,(hb.frozen (p:=⟨H,0,none⟩) (by show H<B;omega)).trans h.1.2⟩,⟨(hb.cell (p:=⟨H+1,0,none⟩) (by show H+1<B;omega)).trans h.2.1.1,(hb.frozen (p:=⟨H+1,0,none⟩) (by show H+1<B;omega)).trans h.2.1.2⟩,(hb.cell (p:=⟨H+2,0,none⟩) (by show H+2<B;omega)).trans h.2.2.1,(hb.frozen (p:=⟨H+2,0,none⟩) (by show H+2<B;omega)).trans h.2.2.2⟩
theorem rb3_lt {H:Nat} {p:Option Addr} {e n:Int} {W:World} (h:RB3 H p e n W):H+2<W.heap.size:=World.block_lt_of_cell? W _ h.2.2.1
def rb3_set (H:Nat) (p:Option Addr) (e n:Int) (W:World):World:=((W.setCell ⟨H,0,none⟩ (.pointer p)).setCell ⟨H+1,0,none⟩ (.int .i64 e)).setCell ⟨H+2,0,none⟩ (.int .i64 n)
theorem rb3_new {H:Nat} {p p':Option Addr} {e n e' n':Int} {W:World} (h:RB3 H p e n W):RB3 H p' e' n' (rb3_set H p' e' n' W):=by
 obtain⟨⟨h1,h2⟩,⟨h3,h4⟩,h5,h6⟩:=h
 unfold rb3_set
 refine⟨⟨by simp [go_sem,h1],?_⟩,⟨by simp [go_sem,h3],?_⟩,by simp [go_sem,h5],?_⟩ <;> simp only [World.frozen?_setCell] <;> assumption
theorem rb3_other {H k:Nat} {p:Option Addr} {e n:Int} {W:World} (h:k≠H∧k≠H+1∧k≠H+2):(rb3_set H p e n W).heap[k]? = W.heap[k]?:=by
 unfold rb3_set
 rw [heap_setCell_other _ ⟨H+2,0,none⟩ k _ (fun e=>h.2.2 (by simpa using e)),heap_setCell_other _ ⟨H+1,0,none⟩ k _ (fun e=>h.2.1 (by simpa using e)),heap_setCell_other _ ⟨H,0,none⟩ k _ (fun e=>h.1 (by simpa using e))]
theorem rb3_size {H:Nat} {p:Option Addr} {e n:Int} {W:World}:(rb3_set H p e n W).heap.size=W.heap.size:=by unfold rb3_set;simp only [World.size_setCell]
theorem rb3_below {w:World} {p:Option Addr} {e n:Int} {W:World} (h:Below w.heap.size w W):Below w.heap.size w (rb3_set w.heap.size p e n W):=by
 unfold rb3_set
 exact ((h.setCell (p:=⟨w.heap.size,0,none⟩) (Nat.le_refl _) _).setCell (p:=⟨w.heap.size+1,0,none⟩) (by show w.heap.size≤w.heap.size+1;omega) _).setCell (p:=⟨w.heap.size+2,0,none⟩) (by show w.heap.size≤w.heap.size+2;omega) _
theorem vals_abide {β:Type} {B:Nat} {A:Option Addr} {n:Nat} {vs:List Value}:Abide 0 0 B (fun (_:β) W=>Vals W A n vs):=by
 intro s W W' row h hg hr
 refine⟨h.1,fun hn=>?_⟩
 obtain⟨b,off,rfl,hlt,hc⟩:=h.2 hn
 exact⟨b,off,rfl,Nat.lt_of_lt_of_le hlt hg.size,fun j v hj=>cell_abide (β:=Unit) (B:=B) _ _ () W W' row (hc j v hj) hg hr⟩
def MapW (lo M n:Nat) (D:DataW Value) (out:List Pp) (W:World):Prop:=(W.ownsMap Tryz.prog (3) tokE M n D∧MapIs lo D out W)∧(Rise out∧∀ r∈out,Small r)
theorem mapw_abide {β:Type} {B lo M n:Nat} {D:DataW Value} {out:List Pp} (hM:M<B):Abide 0 0 B (fun (_:β) W=>MapW lo M n D out W):=by
 intro s W W' row ⟨⟨h1,h2⟩,h3⟩ hg hr
 refine⟨⟨h1.kept hg (fun e=>?_),h2.1,fun r hr'=>?_⟩,h3⟩
 · rcases hr M e.symm with h | ⟨h,-⟩ <;> omega
 · obtain⟨A,k,q1,q2,q3⟩:=h2.2 r hr'
   exact⟨A,k,q1,vals_abide (β:=Unit) (B:=B) () W W' row q2 hg hr,q3⟩
theorem MapW.below {lo M n:Nat} {D:DataW Value} {out:List Pp} {W W':World} (h:MapW lo M n D out W) (hb:Below W.heap.size W W'):MapW lo M n D out W':=(mapw_abide (β:=Unit) (B:=W.heap.size) h.1.1.lt).below (s:=()) h hb
theorem MapW.obj {lo M n:Nat} {D:DataW Value} {out:List Pp} {W:World} (h:MapW lo M n D out W):∃ o:Obj,W.heap[M]? = some o∧o.isCells=false:=by
 obtain⟨⟨⟨es,clock,hb,-⟩,-⟩,-⟩:=h
 exact⟨_,hb,rfl⟩
theorem has_ins (q:Pp) (out:List Pp) (c:Int):hasS (insC q out) c=(decide (q.c=c)||hasS out c):=by
 have h:hasS (insC q out) c=true↔(decide (q.c=c)||hasS out c)=true:=by
  rw [has_iff,Bool.or_eq_true,decide_eq_true_iff,has_iff]
  constructor
  · rintro⟨t,ht,e⟩
    rcases List.mem_cons.1 ((ins_perm q out).mem_iff.1 ht) with rfl | h
    · exact .inl e
    · exact .inr ⟨t,h,e⟩
  · rintro (e | ⟨t,ht,e⟩)
    · exact⟨q,(ins_perm q out).mem_iff.2 (List.mem_cons_self ..),e⟩
    · exact⟨t,(ins_perm q out).mem_iff.2 (List.mem_cons_of_mem _ ht),e⟩
 exact Bool.eq_iff_iff.2 h
theorem key_ne {a b:Int} (h:a≠b):Lit.int .i64 a≠Lit.int .i64 b:=fun e=>h (by injection e)
theorem mapw_put {lo M n k:Nat} {D:DataW Value} {out:List Pp} {W W2:World} {q:Pp} {A:Option Addr} (h:MapW lo M n D out W) (hn:hasS out q.c=false) (hs:Small q) (hv:Vals W A q.p.length (nums .i64 q.p)) (hA:∀ a,A=some a→lo≤a.block)
 (ho:W2.ownsMap Tryz.prog (3) tokE M (n+1) (D.put (.int .i64 q.c) (.held (.slice A q.p.length k)))) (hg:W.grownBy W2 (some M)):MapW lo M (n+1) (D.put (.int .i64 q.c) (.held (.slice A q.p.length k))) (insC q out) W2:=by
 have vt:∀ {A:Option Addr} {n:Nat} {vs:List Value},Vals W A n vs→Vals W2 A n vs:=fun {A n vs} hv=>vals_abide (β:=Unit) (B:=0) () W W2 (some M) hv hg (fun r e=>by cases e;exact .inr ⟨Nat.zero_le _,h.obj⟩)
 have hmap:=h.1.1.isMap
 refine⟨⟨ho,fun c=>?_,fun r hr=>?_⟩,ins_rise h.2.1 hn,fun r hr=>?_⟩
 · rw [has_ins]
   by_cases e:q.c=c
   · subst e
     rw [Maps.has_put_same hmap (k:=.int .i64 q.c) trivial,decide_eq_true rfl,Bool.true_or]
   · rw [Maps.has_put_other (key_ne (Ne.symm e)),h.1.2.1,decide_eq_false e,Bool.false_or]
 · rcases List.mem_cons.1 ((ins_perm q out).mem_iff.1 hr) with rfl | hr
   · exact⟨A,k,Maps.atKey_put_same hmap (k:=.int .i64 _) trivial _ _,vt hv,hA⟩
   · have hne:r.c≠q.c:=has_no.1 hn r hr
     obtain⟨A',k',h1,h2,h3⟩:=h.1.2.2 r hr
     exact⟨A',k',by rw [Maps.atKey_put_other (key_ne hne)];exact h1,vt h2,h3⟩
 · rcases List.mem_cons.1 ((ins_perm q out).mem_iff.1 hr) with rfl | hr
   · exact hs
   · exact h.2.2 r hr
theorem mapw_new {lo M:Nat} {W:World} (ho:W.ownsMap Tryz.prog (3) tokE M 0 (.map [])):MapW lo M 0 (.map []) [] W:=⟨⟨ho,fun c=>rfl,fun r h=>by cases h⟩,List.Pairwise.nil,fun r h=>by cases h⟩
theorem cpair_small {f:List (List UInt8)} (h:cErr f=0):Small (cPair f):=by
 refine⟨?_,?_⟩
 · have h2:=h
   unfold cErr at h2
   unfold cPair ints'
   split at h2
   · cases h2
   cases h0:point (cfld f 0) with
   | none=>rw [h0] at h2;cases h2
   | some v=>
    rw [h0] at h2
    cases h1:seqOf (cfld f 1) with
    | none=>rw [h1] at h2;cases h2
    | some p=>
     rw [h1] at h2
     simp only at h2
     simp only [Option.getD_some,List.length_map]
     split at h2
     · cases h2
     · split at h2
       · cases h2
       · omega
 · have hp:(cPair f).c=((point (cfld f 0)).getD 0:Nat):=rfl
   rw [hp]
   have:(point (cfld f 0)).getD 0≤1114111:=by
    cases h0:point (cfld f 0) with
    | none=>simp
    | some v=>
     simp only [Option.getD_some]
     unfold point at h0
     cases hx:hexv 0 (cfld f 0) with
     | none=>rw [hx] at h0;cases h0
     | some d=>
      rw [hx] at h0
      simp only [Option.bind_some] at h0
      split at h0
      · injection h0 with h0
        rename_i h2
        omega
      · cases h0
   exact WalkArith.wf_i64 (by omega)
def CqI (w:World) (pre:List LnV) (W:World):Prop:=
 ∃ s:(Nat×DataW Value)×List Pp,(cstOf pre=.at s.2∧s.1.1≤pre.length)∧(MapW (w.heap.size+5) (w.heap.size+3) s.1.1 s.1.2 s.2 W∧(RB3 w.heap.size none 0 0 W∧(W.cell? ⟨w.heap.size+4,0,none⟩=some (.map (some (w.heap.size+3)))∧(ML W∧Below w.heap.size w W))))
def CpX (w:World) (c:Code) (pre:List LnV) (W:World):Prop:=
 ∃ s:Int×Int,(c=.ret∧cstOf pre=.bad s.1 s.2∧¬s.1=0)∧(RB3 w.heap.size none s.1 s.2 W∧Below w.heap.size w W)
theorem cqi_abide (w:World) (B:Nat) (hB:w.heap.size+4≤B):Abide 0 0 B (CqI w):=by
 intro pre W W' row ⟨s,h1,h2,h3,h4,h5,h6⟩ hg hr
 exact⟨s,h1,mapw_abide (β:=Unit) (B:=B) (by omega) () W W' row h2 hg hr,rb3_abide (β:=Unit) (B:=B) _ (fun _=>none) (fun _=>0) (fun _=>0) () W W' row h3 hg hr,cell_abide (β:=Unit) (B:=B) _ _ () W W' row h4 hg hr,ml_abide (β:=Unit) (B:=B) () W W' row h5 hg hr,abide_below (β:=Unit) w (.inr (by omega)) (by omega) (Nat.le_refl _) () W W' row h6 hg hr⟩
theorem cpx_abide (w:World) (B:Nat) (hB:w.heap.size+4≤B) (c:Code):Abide 0 0 B (CpX w c):=by
 intro pre W W' row ⟨s,h1,h3,h5⟩ hg hr
 exact⟨s,h1,rb3_abide (β:=Unit) (B:=B) _ (fun _=>none) (fun _=>s.1) (fun _=>s.2) () W W' row h3 hg hr,abide_below (β:=Unit) w (.inr (by omega)) (by omega) (Nat.le_refl _) () W W' row h5 hg hr⟩
def PAc (H:Nat) (_:World) (k:Nat):Prop:=k≠H∧k≠H+1∧k≠H+2∧k≠H+3
theorem pac_lets (H:Nat):Lets (PAc H):=fun _ _ _ _ ha _ _=>ha
theorem pac_rb3 {H:Nat} {p:Option Addr} {e n:Int} {W:World}:Hold (PAc H) W (rb3_set H p e n W):=
 ⟨by rw [rb3_size];exact Nat.le_refl _,fun k ha _=>⟨rb3_other ⟨ha.1,ha.2.1,ha.2.2.1⟩,ha⟩⟩
theorem wrong_end {w Wb X:World} {pre:List LnV} {E num:Int} (hX:Below Wb.heap.size Wb X) (hrX:RB3 w.heap.size none 0 0 X) (hbX:Below w.heap.size w X) (hst:cstOf pre=.bad E num) (hne:¬E=0):
 Hold (PAc w.heap.size) Wb (rb3_set w.heap.size none E num X.drew)∧CpX w .ret pre (rb3_set w.heap.size none E num X.drew):=by
 have hd:Below X.heap.size X X.drew:=below_drew (Below.refl _ _)
 have hrd:RB3 w.heap.size none 0 0 X.drew:=hrX
 exact⟨((Hold.of_below (pac_lets _) hX).trans (Hold.of_below (pac_lets _) hd)).trans pac_rb3,(E,num),⟨rfl,hst,hne⟩,rb3_new hrd,rb3_below (below_drew hbX)⟩
theorem put_end {w Wb X W2:World} {pre:List LnV} {x:LnV} {n k:Nat} {D:DataW Value} {out:List Pp} {A:Option Addr} (hst:cstOf pre=.at out) (hnp:n≤pre.length) (hm:MapW (w.heap.size+5) (w.heap.size+3) n D out Wb) (hrb:RB3 w.heap.size none 0 0 Wb) (hmc:Wb.cell? ⟨w.heap.size+4,0,none⟩=some (.map (some (w.heap.size+3)))) (hM:ML Wb) (hbb:Below w.heap.size w Wb)
 (hX:Below Wb.heap.size Wb X) (he:cErr x.2.2=0) (hc:hasS out (cPair x.2.2).c=false) (hv:Vals X A (cPair x.2.2).p.length (nums .i64 (cPair x.2.2).p)) (hA:∀ a,A=some a→Wb.heap.size≤a.block)
 (ho:W2.ownsMap Tryz.prog (3) tokE (w.heap.size+3) (n+1) (D.put (.int .i64 (cPair x.2.2).c) (.held (.slice A (cPair x.2.2).p.length k)))) (hg:X.grownBy W2 (some (w.heap.size+3))):
 Hold (PAc w.heap.size) Wb W2∧CqI w (pre ++ [x]) W2:=by
 have hlt:w.heap.size+4<Wb.heap.size:=World.block_lt_of_cell? Wb _ hmc
 have hmX:=hm.below hX
 have hr:∀ r,some (w.heap.size+3)=some r→(0≤r∧r<0)∨(0≤r∧∃ o:Obj,X.heap[r]? = some o∧o.isCells=false):=fun r e=>by cases e;exact .inr ⟨Nat.zero_le _,hmX.obj⟩
 refine⟨⟨Nat.le_trans hX.size hg.size,fun k ha hk=>⟨(hg.block k (Nat.lt_of_lt_of_le hk hX.size) (fun e=>ha.2.2.2 (by injection e))).trans (hX.block k hk),ha⟩⟩,((n+1,D.put (.int .i64 (cPair x.2.2).c) (.held (.slice A (cPair x.2.2).p.length k))),insC (cPair x.2.2) out),⟨?_,?_⟩,?_,?_,?_,?_,?_⟩
 · rw [cst_snoc,hst]
   exact cstep_add (x:=view x) he hc
 · simp
   omega
 · exact mapw_put hmX hc (cpair_small he) hv (fun a e=>by have:=hA a e;omega) ho hg
 · exact rb3_abide (β:=Unit) (B:=0) _ (fun _=>none) (fun _=>0) (fun _=>0) () X W2 _ (hrb.below (rb3_lt hrb) hX) hg hr
 · exact cell_abide (β:=Unit) (B:=0) _ _ () X W2 _ ((hX.cell (p:=⟨w.heap.size+4,0,none⟩) hlt).trans hmc) hg hr
 · exact ml_abide (β:=Unit) (B:=0) () X W2 _ (hM.below hX) hg hr
 · have hbX:=hbb.trans (hX.mono hbb.size)
   exact hbX.grown hg hbX.size (fun j hj=>by cases hj;omega)
def CpPost (l:List UInt8) (w:World) (e:Ending) (w':World):Prop:=
 Below w.heap.size w w'∧(((cfOf (linesIn l)).err=0∧∃ b,e=.returned (.tuple #[.pointer (some ⟨b,0,none⟩),.int .i64 0,.int .i64 0])∧CT w' (some ⟨b,0,none⟩) (cfOf (linesIn l)).rows) ∨
  (¬(cfOf (linesIn l)).err=0∧e=.returned (.tuple #[.pointer none,.int .i64 (cfOf (linesIn l)).err,.int .i64 (cfOf (linesIn l)).num])))
theorem vals_blocks {W W':World} {A:Option Addr} {n:Nat} {vs:List Value} (h:Vals W A n vs) (hs:W.heap.size≤W'.heap.size) (hA:∀ a,A=some a→a.block<W.heap.size→W'.heap[a.block]? = W.heap[a.block]?):Vals W' A n vs:=by
 refine⟨h.1,fun hn=>?_⟩
 obtain⟨b,off,rfl,hlt,hc⟩:=h.2 hn
 exact⟨b,off,rfl,Nat.lt_of_lt_of_le hlt hs,fun j v hj=>(World.cell?_of_block (a:=⟨b,off+j,none⟩) (hA ⟨b,off,none⟩ rfl hlt)).trans (hc j v hj)⟩
theorem table_end {w W6:World} {p:Option Addr} {e nn:Int} {b n k:Nat} {D:DataW Value} {out:List Pp} {A:Option Addr} (hm:MapW (w.heap.size+5) (w.heap.size+3) n D out W6) (hb:w.heap.size+2<b) (h0:W6.cell? ⟨b,0,none⟩=some (.map (some (w.heap.size+3)))) (h1:W6.cell? ⟨b,1,none⟩=some (.slice A out.length k))
 (hv:Vals W6 A out.length (nums .i64 (out.map Pp.c))) (hA:∀ a,A=some a→w.heap.size+2<a.block):CT (rb3_set w.heap.size p e nn W6) (some ⟨b,0,none⟩) out:=by
 have hk:∀ k,w.heap.size+2<k→(rb3_set w.heap.size p e nn W6).heap[k]? = W6.heap[k]?:=fun k h=>rb3_other ⟨by omega,by omega,by omega⟩
 have hs:W6.heap.size≤(rb3_set w.heap.size p e nn W6).heap.size:=by rw [rb3_size];exact Nat.le_refl _
 refine⟨A,k,.inr ⟨b,w.heap.size+3,n,D,rfl,⟨(World.cell?_of_block (a:=⟨b,0,none⟩) (hk b hb)).trans h0,(World.cell?_of_block (a:=⟨b,1,none⟩) (hk b hb)).trans h1⟩,⟨vals_blocks hv hs (fun a e _=>hk _ (hA a e)),?_,hm.1.2.1,fun r hr=>?_⟩,hm.2⟩⟩
 · obtain⟨⟨⟨es,clock,hb',F,hs',hD⟩,-⟩,-⟩:=hm
   exact⟨es,clock,(hk _ (by omega)).trans hb',F,hs',hD⟩
 · obtain⟨A',k',q1,q2,q3⟩:=hm.1.2.2 r hr
   exact⟨A',k',q1,vals_blocks q2 hs (fun a e _=>hk _ (by have:=q3 a e;omega)),fun _ _=>Nat.zero_le _⟩
theorem CT.put {W:World} {p:Option Addr} {ps:List Pp} {D:Nat} (h:CT W p ps) (hD:W.heap[D]? = some (.deferred (some []))):CT (W.putObj D (.deferred none)) p ps:=by
 obtain⟨A,k,h⟩:=h
 refine⟨A,k,?_⟩
 rcases h with h | ⟨b,mb,n,Dm,rfl,⟨h1,h2⟩,⟨h3,h4,h5⟩,h6⟩
 · exact .inl h
 · have hr:∀ r,some D=some r→(0≤r∧r<0)∨(0≤r∧∃ o:Obj,W.heap[r]? = some o∧o.isCells=false):=fun r e=>by cases e;exact .inr ⟨Nat.zero_le _,_,hD,rfl⟩
   have hg:=grownBy_putObj' W D (.deferred none)
   have hne:some mb≠some D:=fun e=>by
    obtain⟨es,clock,hb,-⟩:=h4
    injection e with e
    rw [e,hD] at hb
    cases hb
   exact .inr ⟨b,mb,n,Dm,rfl,⟨cell_abide (β:=Unit) (B:=0) _ _ () W _ _ h1 hg hr,cell_abide (β:=Unit) (B:=0) _ _ () W _ _ h2 hg hr⟩,⟨vals_abide (β:=Unit) (B:=0) () W _ _ h3 hg hr,h4.kept hg hne,h5.1,fun r hr'=>by
    obtain⟨A',k',q1,q2,q3⟩:=h5.2 r hr'
    exact⟨A',k',q1,vals_abide (β:=Unit) (B:=0) () W _ _ q2 hg hr,q3⟩⟩,h6⟩
theorem done_end {w W3 W5:World} {D n k:Nat} {Dm:DataW Value} {out:List Pp} {A:Option Addr} {l:List UInt8} (hfin:cfOf (linesIn l)=⟨out,0,0⟩) (hm:MapW (w.heap.size+5) (w.heap.size+3) n Dm out W3) (hrb:RB3 w.heap.size none 0 0 W3) (hbb:Below w.heap.size w W3) (hKD:W3.heap[D]? = some (.deferred (some []))) (hD:w.heap.size+2<D)
 (h5:Below W3.heap.size W3 W5) (hv:Vals W5 A out.length (nums .i64 (out.map Pp.c))) (hA:∀ a,A=some a→W3.heap.size≤a.block):
 (RB3 w.heap.size none 0 0 (W5.alloc (.cells #[.map (some (w.heap.size+3)),.slice A out.length k] 192))∧(rb3_set w.heap.size (some ⟨W5.heap.size,0,none⟩) 0 0 (W5.alloc (.cells #[.map (some (w.heap.size+3)),.slice A out.length k] 192))).heap[D]? = some (.deferred (some []))) ∧
 RB3 w.heap.size (some ⟨W5.heap.size,0,none⟩) 0 0 (rb3_set w.heap.size (some ⟨W5.heap.size,0,none⟩) 0 0 (W5.alloc (.cells #[.map (some (w.heap.size+3)),.slice A out.length k] 192))) ∧
 CpPost l w (.returned (.tuple #[.pointer (some ⟨W5.heap.size,0,none⟩),.int .i64 0,.int .i64 0])) ((rb3_set w.heap.size (some ⟨W5.heap.size,0,none⟩) 0 0 (W5.alloc (.cells #[.map (some (w.heap.size+3)),.slice A out.length k] 192))).putObj D (.deferred none)):=by
 have hDl:D<W3.heap.size:=(Array.getElem?_eq_some_iff.1 hKD).1
 have hl:=rb3_lt hrb
 have ha:Below W5.heap.size W5 (W5.alloc (.cells #[.map (some (w.heap.size+3)),.slice A out.length k] 192)):=(Below.refl _ _).alloc (Nat.le_refl _) _
 have h6:Below W3.heap.size W3 (W5.alloc (.cells #[.map (some (w.heap.size+3)),.slice A out.length k] 192)):=h5.trans (ha.mono h5.size)
 have c0:(W5.alloc (.cells #[.map (some (w.heap.size+3)),.slice A out.length k] 192)).cell? ⟨W5.heap.size,0,none⟩=some (.map (some (w.heap.size+3))):=by simp
 have c1:(W5.alloc (.cells #[.map (some (w.heap.size+3)),.slice A out.length k] 192)).cell? ⟨W5.heap.size,1,none⟩=some (.slice A out.length k):=by simp
 have hs5:=h5.size
 have hv6:=hv.below ha
 generalize (W5.alloc (.cells #[.map (some (w.heap.size+3)),.slice A out.length k] 192))=W6 at ha h6 c0 c1 hv6 ⊢
 have hr6:=hrb.below hl h6
 have hk:(rb3_set w.heap.size (some ⟨W5.heap.size,0,none⟩) 0 0 W6).heap[D]? = some (.deferred (some [])):=by
  rw [rb3_other ⟨by omega,by omega,by omega⟩]
  exact (h6.block D hDl).trans hKD
 have hb6:=hbb.trans (h6.mono hbb.size)
 refine⟨⟨hr6,hk⟩,rb3_new hr6,(rb3_below hb6).trans (belowK_b (w:=w) (Nat.le_refl _) _ D _ _ (by omega) hk rfl rfl),.inl ⟨by rw [hfin],W5.heap.size,rfl,?_⟩⟩
 rw [hfin]
 exact (table_end (hm.below h6) (by omega) c0 c1 hv6 (fun a e=>by have:=hA a e;omega)).put hk
end Go.Proofs.YtbkgbhlmeeodgaaGreatDoor.Cf
namespace Go.Proofs.YtbkgbhlmeeodgaaGreatDoor.Cf
open Go.RowKit Go.Shelf
attribute [local go_sem] Oper.semAt_some
theorem pt_no {l:List UInt8} (w:World) (hl:l.length≤1000000) (h:point l=none):Calls Tryz.prog 153 #[.string (bs l)] w fun e w'=>e=.returned (.tuple #[.int .i64 0,.int .i64 13])∧w=w':=by
 have:=point11 l w hl
 rw [h] at this
 exact this
theorem pt_yes {l:List UInt8} {c:Nat} (w:World) (hl:l.length≤1000000) (h:point l=some c):Calls Tryz.prog 153 #[.string (bs l)] w fun e w'=>e=.returned (.tuple #[.int .i64 (c:Int),.int .i64 0])∧w=w':=by
 have:=point11 l w hl
 rw [h] at this
 exact this
theorem sq_no {l:List UInt8} (w:World) (hl:l.length≤4000) (hM:ML w) (h:seqOf l=none):Calls Tryz.prog 154 #[.string (bs l)] w fun e w'=>e=.returned (.tuple #[.slice none 0 0,.int .i64 13])∧Below w.heap.size w w':=
 (sequence15 l w hl hM).mono (by
  rintro e w' ⟨hb,⟨cs,A,ca,h1,-⟩ | ⟨-,rfl⟩⟩
  · rw [h] at h1;cases h1
  · exact⟨rfl,hb⟩)
theorem sq_yes {l:List UInt8} {p:List Nat} (w:World) (hl:l.length≤4000) (hM:ML w) (h:seqOf l=some p):Calls Tryz.prog 154 #[.string (bs l)] w fun e w'=>∃ A ca,e=.returned (.tuple #[.slice A p.length ca,.int .i64 0])∧Hid (Below w.heap.size w w'∧Vals w' A p.length (i64s p)∧∀ a,A=some a→w.heap.size≤a.block):=
 (sequence15 l w hl hM).mono (by
  rintro e w' ⟨hb,⟨cs,A,ca,h1,rfl,hv,hf⟩ | ⟨h1,-⟩⟩
  · rw [h] at h1;cases h1;exact⟨A,ca,rfl,Lib.hid ⟨hb,hv,hf⟩⟩
  · rw [h] at h1;cases h1)
def RpPost (f:List (List UInt8)) (w:World) (e:Ending) (w':World):Prop:=
 Below w.heap.size w w'∧((cErr f=0∧∃ A k,e=.returned (.tuple #[.int .i64 (cPair f).c,.slice A (cPair f).p.length k,.int .i64 0])∧Hid (Vals w' A (cPair f).p.length (nums .i64 (cPair f).p)∧∀ a,A=some a→w.heap.size≤a.block)) ∨
  (¬cErr f=0∧e=.returned (.tuple #[.int .i64 0,.slice none 0 0,.int .i64 (cErr f)])))
theorem rp_bad {f:List (List UInt8)} {w w':World} {E:Int} (h:cErr f=E) (hE:¬E=0) (hb:Below w.heap.size w w'):RpPost f w (.returned (.tuple #[.int .i64 0,.slice none 0 0,.int .i64 E])) w':=
 ⟨hb,.inr ⟨by rw [h];exact hE,by rw [h]⟩⟩
set_option maxHeartbeats 1000000 in
theorem readpair17 (F:Option Addr) (n c:Nat) (f:List (List UInt8)) (w:World) (hF:Vals w F n (strs f)) (hl:∀ x∈f,x.length≤4000) (hM:ML w):Calls Tryz.prog 118 #[.slice F n c] w (RpPost f w):=by
 have hlen:f.length=n:=by have:=hF.1;rwa [strs_length] at this
 by_cases h3:f.length=3
 · obtain⟨b,off,rfl,hbl,hc0,hc1⟩:=flds3 hF h3
   obtain rfl:n=3:=by omega
   have hf0:=cfld_len (k:=0) hl
   have hf1:=cfld_len (k:=1) hl
   obtain⟨S0,hS0⟩:∃ S,bs (cfld f 0)=S:=⟨_,rfl⟩
   obtain⟨S1,hS1⟩:∃ S,bs (cfld f 1)=S:=⟨_,rfl⟩
   cases hpt:point (cfld f 0) with
   | none=>
    have k32:=pt_no w (by omega) hpt
    have HE:=Lib.hid (rp_bad (w:=w) (w':=w) (cerr_pt h3 hpt) (by decide) (Below.refl _ _))
    rw [hS0] at hc0 k32
    rw [hS1] at hc1
    clear hF hl hM hlen h3 hf0 hf1 hS0 hS1 hpt hbl
    go_enter Tryz.func118,Tryz.ntmps118
    go_wp2_with (go_at_call 153;(with_reducible refine k32.mono ?_);rintro e w1 ⟨rfl,rfl⟩)
    refine bodyPost_ret (v:=.tuple #[.int .i64 0,.slice none 0 0,.int .i64 13]) (by simp [results,Tryz.results118,go_sem]) rfl ?_
    exact HE.out
   | some v=>
    have k32:=pt_yes w (by omega) hpt
    cases hsq:seqOf (cfld f 1) with
    | none=>
     have k33:=sq_no w hf1 hM hsq
     have HE:=Lib.hid (fun w1 hb=>rp_bad (w:=w) (w':=w1) (cerr_sq h3 hpt hsq) (by decide) hb)
     rw [hS0] at hc0 k32
     rw [hS1] at hc1 k33
     clear hF hl hM hlen h3 hf0 hf1 hS0 hS1 hpt hsq hbl
     go_enter Tryz.func118,Tryz.ntmps118
     go_wp2_with (first
      | (go_at_call 153;(with_reducible refine k32.mono ?_);rintro e w1 ⟨rfl,rfl⟩)
      | (go_at_call 154;(with_reducible refine k33.mono ?_);rintro e w2 ⟨rfl,hb2⟩))
     refine bodyPost_ret (v:=.tuple #[.int .i64 0,.slice none 0 0,.int .i64 13]) (by simp [results,Tryz.results118,go_sem]) rfl ?_
     exact HE.out _ hb2
    | some p=>
     have k33:=sq_yes w hf1 hM hsq
     rw [hS0] at hc0 k32
     rw [hS1] at hc1 k33
     by_cases h0:p.length=0
     · have HE:=Lib.hid (fun w1 hb=>rp_bad (w:=w) (w':=w1) (cerr_em h3 hpt hsq h0) (by decide) hb)
       rw [h0] at k33
       clear hF hl hM hlen h3 hf0 hf1 hS0 hS1 hpt hsq hbl h0
       go_enter Tryz.func118,Tryz.ntmps118
       go_wp2_with (first
        | (go_at_call 153;(with_reducible refine k32.mono ?_);rintro e w1 ⟨rfl,rfl⟩)
        | (go_at_call 154;(with_reducible refine k33.mono ?_);rintro e w2 ⟨A2,c2,rfl,hv2⟩))
       refine bodyPost_ret (v:=.tuple #[.int .i64 0,.slice none 0 0,.int .i64 16]) (by simp [results,Tryz.results118,go_sem]) rfl ?_
       exact HE.out _ hv2.out.1
     · by_cases h18:18<p.length
       · have HE:=Lib.hid (fun w1 hb=>rp_bad (w:=w) (w':=w1) (cerr_lg h3 hpt hsq h0 h18) (by decide) hb)
         obtain⟨m,hm⟩:∃ m,p.length=m:=⟨_,rfl⟩
         simp only [hm] at k33
         rw [hm] at h0 h18
         have hx1:((m:Int)==0)=false:=beq_false_of_ne (by omega)
         have hx2:decide (18<(m:Int))=true:=decide_eq_true (by omega)
         clear hF hl hM hlen h3 hf0 hf1 hS0 hS1 hpt hsq hbl hm
         go_enter Tryz.func118,Tryz.ntmps118
         go_wp2_with (first
          | (go_at_call 153;(with_reducible refine k32.mono ?_);rintro e w1 ⟨rfl,rfl⟩)
          | (go_at_call 154;(with_reducible refine k33.mono ?_);rintro e w2 ⟨A2,c2,rfl,hv2⟩))
         refine bodyPost_ret (v:=.tuple #[.int .i64 0,.slice none 0 0,.int .i64 36]) (by simp [results,Tryz.results118,go_sem]) rfl ?_
         exact HE.out _ hv2.out.1
       · obtain⟨hok,hpr⟩:=cerr_ok h3 hpt hsq h0 h18
         have HE:Hid (∀ w1 A k,Hid (Below w.heap.size w w1∧Vals w1 A p.length (i64s p)∧∀ a,A=some a→w.heap.size≤a.block)→RpPost f w (.returned (.tuple #[.int .i64 (v:Int),.slice A p.length k,.int .i64 0])) w1):=Lib.hid fun w1 A k hv=>by
          have e2:(cPair f).p.length=p.length:=by rw [hpr];simp [ints']
          refine⟨hv.out.1,.inl ⟨hok,A,k,by rw [e2,hpr],Lib.hid ?_⟩⟩
          rw [e2,hpr]
          exact hv.out.2
         obtain⟨m,hm⟩:∃ m,p.length=m:=⟨_,rfl⟩
         simp only [hm] at k33 HE
         rw [hm] at h0 h18
         have hx1:((m:Int)==0)=false:=beq_false_of_ne (by omega)
         have hx2:decide (18<(m:Int))=false:=decide_eq_false (by omega)
         clear hF hl hM hlen h3 hf0 hf1 hS0 hS1 hpt hsq hbl hm hok hpr
         go_enter Tryz.func118,Tryz.ntmps118
         go_wp2_with (first
          | (go_at_call 153;(with_reducible refine k32.mono ?_);rintro e w1 ⟨rfl,rfl⟩)
          | (go_at_call 154;(with_reducible refine k33.mono ?_);rintro e w2 ⟨A2,c2,rfl,hv2⟩))
         refine bodyPost_ret (v:=.tuple #[.int .i64 (v:Int),.slice A2 m c2,.int .i64 0]) (by simp [results,Tryz.results118,go_sem]) rfl ?_
         exact HE.out _ _ _ hv2
 · have HE:=Lib.hid (rp_bad (w:=w) (w':=w) (cerr_len h3) (by decide) (Below.refl _ _))
   have hx1:((n:Int)==3)=false:=beq_false_of_ne (by omega)
   have hx2:((n:Int) != 3)=true:=bne_iff_ne.2 (by omega)
   clear hF hl hM h3 hlen
   go_enter Tryz.func118,Tryz.ntmps118
   go_wp2
   refine bodyPost_ret (v:=.tuple #[.int .i64 0,.slice none 0 0,.int .i64 12]) (by simp [results,Tryz.results118,go_sem]) rfl ?_
   exact HE.out
end Go.Proofs.YtbkgbhlmeeodgaaGreatDoor.Cf
