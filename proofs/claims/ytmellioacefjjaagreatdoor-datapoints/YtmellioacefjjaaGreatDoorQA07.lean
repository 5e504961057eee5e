/- A part. -/
import Derived.Test.YtmellioacefjjaaGreatDoorQA06
import Derived.Laws.Entries
namespace Go.Proofs.YtmellioacefjjaaGreatDoor.Pq
open Go.RowKit
def spv (s:Sp):List Value:=[.int .i64 s.a,.int .i64 s.b,.string (bs s.v)]
def spvs (ls:List Sp):List Value:=ls.flatMap spv
theorem spvs_cons (s:Sp) (ls:List Sp):spvs (s::ls)=.int .i64 s.a :: .int .i64 s.b :: .string (bs s.v)::spvs ls:=rfl
theorem spvs_snoc (ls:List Sp) (s:Sp):spvs ls ++ [.int .i64 s.a,.int .i64 s.b,.string (bs s.v)]=spvs (ls ++ [s]):=by unfold spvs;rw [List.flatMap_append];rfl
theorem spvs_app (ls ms:List Sp):spvs ls++spvs ms=spvs (ls++ms):=by unfold spvs;rw [List.flatMap_append]
theorem spvs_length:∀ ls:List Sp,(spvs ls).length=ls.length*3
 | []=>rfl
 | s::ls=>by rw [spvs_cons];simp [spvs_length ls];omega
theorem spvs_get:∀ {ls:List Sp} {j:Nat} {s:Sp},ls[j]? = some s→(spvs ls)[j*3]? = some (.int .i64 s.a)∧(spvs ls)[j*3+1]? = some (.int .i64 s.b)∧(spvs ls)[j*3+2]? = some (.string (bs s.v))
 | [],_,_,h=>by simp at h
 | x::ls,0,s,h=>by simp at h;subst h;exact⟨rfl,rfl,rfl⟩
 | x::ls,j+1,s,h=>by
  have:=spvs_get (ls:=ls) (j:=j) (s:=s) (by simpa using h)
  rw [spvs_cons,show (j+1)*3=j*3+3 by omega]
  exact this
def SAt (w:World) (A:Option Addr) (n:Nat) (ls:List Sp):Prop:=
 ls.length=n∧(0<n→∃ b off,A=some ⟨b,off,none⟩∧b<w.heap.size∧∀ j s,ls[j]? = some s →
  w.cell? ⟨b,off+j*3,none⟩=some (.int .i64 s.a)∧w.cell? ⟨b,off+j*3+1,none⟩=some (.int .i64 s.b)∧w.cell? ⟨b,off+j*3+2,none⟩=some (.string (bs s.v)))
theorem SAt.below {w w':World} {A:Option Addr} {n:Nat} {ls:List Sp} (h:SAt w A n ls) (hb:Below w.heap.size w w'):SAt w' A n ls:=by
 refine⟨h.1,fun hn=>?_⟩
 obtain⟨b,off,rfl,hlt,hc⟩:=h.2 hn
 refine⟨b,off,rfl,Nat.lt_of_lt_of_le hlt hb.size,fun j s hj=>?_⟩
 obtain⟨h1,h2,h3⟩:=hc j s hj
 exact⟨(hb.cell (p:=⟨b,_,none⟩) hlt).trans h1,(hb.cell (p:=⟨b,_,none⟩) hlt).trans h2,(hb.cell (p:=⟨b,_,none⟩) hlt).trans h3⟩
theorem SAt.nil (w:World) (A:Option Addr):SAt w A 0 []:=⟨rfl,fun h=>absurd h (by omega)⟩
theorem own_sat {w:World} {base:Nat} {e:TypeId} {v:Value} {ls:List Sp} (ho:w.ownsRow base e 3 v ls.length (spvs ls)):∃ A c,v=.slice A ls.length c∧ls.length≤c∧SAt w A ls.length ls∧(A=none→c=0):=by
 rcases ho.2 with ⟨rfl,h0⟩ | ⟨g,cap,cur,rfl,_,hg,hcap,_⟩
 · exact⟨none,0,by rw [h0],by omega,⟨rfl,fun h=>absurd h (by omega)⟩,fun _=>rfl⟩
 · refine⟨_,cap,rfl,hcap,⟨rfl,fun _=>⟨g,0,rfl,(Array.getElem?_eq_some_iff.1 hg).1,fun j s hj=>?_⟩⟩,fun h=>by cases h⟩
   obtain⟨h1,h2,h3⟩:=spvs_get hj
   have k1:=ho.cells (g:=g) rfl _ _ h1
   have k2:=ho.cells (g:=g) rfl _ _ h2
   have k3:=ho.cells (g:=g) rfl _ _ h3
   rw [add_at] at k1 k2 k3
   exact⟨k1,k2,k3⟩
theorem getSp {ls:List Sp} {k:Nat} (h:k<ls.length):∃ s,ls[k]? = some s:=⟨ls[k],List.getElem?_eq_getElem h⟩
theorem bs_toList (l:List UInt8):(bs l).toList=l:=by rw [Lib.toList_data,bs_data]
theorem bs_some {l:List UInt8} (h:¬l = []):(bs l).toList.isEmpty=false:=by rw [bs_toList];simp [h]
theorem any_take {l:List Sp} {f:Sp→Bool} {k:Nat} {s:Sp} (hk:l[k]? = some s) (h:(l.take k).any f=false):(l.take (k+1)).any f=f s:=by
 have hlt:=(List.getElem?_eq_some_iff.1 hk).1
 rw [List.take_succ_eq_append_getElem hlt,List.any_append,h]
 have e:l[k]=s:=(List.getElem?_eq_some_iff.1 hk).2
 simp [e]
theorem any_mem {l:List Sp} {f:Sp→Bool} {k:Nat} {s:Sp} (hk:l[k]? = some s) (h:f s=true):l.any f=true:=by
 rw [List.any_eq_true]
 exact⟨s,List.mem_of_getElem? hk,h⟩
theorem value_take {l:List Sp} {c:Int} {k:Nat} {s:Sp} (hk:l[k]? = some s) (h:∀ t∈l.take k,¬(t.a≤c∧c≤t.b)) (hs:s.a≤c∧c≤s.b):valueOf l c=s.v:=by
 have hlt:=(List.getElem?_eq_some_iff.1 hk).1
 have e:l[k]=s:=(List.getElem?_eq_some_iff.1 hk).2
 rw [←List.take_append_drop k l,List.drop_eq_getElem_cons hlt,e]
 generalize l.take k=m at h
 induction m with
 | nil=>rw [List.nil_append,value_cons,if_pos hs]
 | cons x m ih=>
  rw [List.cons_append,value_cons,if_neg (h x (by simp))]
  exact ih fun t ht=>h t (by simp [ht])
theorem take_more {l:List Sp} {P:Sp→Prop} {k:Nat} {s:Sp} (hk:l[k]? = some s) (h:∀ t∈l.take k,P t) (hs:P s):∀ t∈l.take (k+1),P t:=by
 have hlt:=(List.getElem?_eq_some_iff.1 hk).1
 have e:l[k]=s:=(List.getElem?_eq_some_iff.1 hk).2
 intro t ht
 rw [List.take_succ_eq_append_getElem hlt,e] at ht
 rcases List.mem_append.1 ht with ht | ht
 · exact h t ht
 · rw [List.mem_singleton.1 ht];exact hs
def spV (s:Sp):Value:=.agg #[.int .i64 s.a,.int .i64 s.b,.string (bs s.v)]
theorem check_range {l:List Sp} {s:Sp} (h:s.a<0∨1114111<s.b∨s.b<s.a):check l s=14:=by unfold check;rw [if_pos h]
theorem check_empty {l:List Sp} {s:Sp} (h:¬(s.a<0∨1114111<s.b∨s.b<s.a)) (hv:s.v = []):check l s=16:=by unfold check;rw [if_neg h,if_pos hv]
theorem check_meets {l:List Sp} {s:Sp} (h:¬(s.a<0∨1114111<s.b∨s.b<s.a)) (hv:¬s.v = []) (hm:l.any (meets · s)=true):check l s=15:=by unfold check;rw [if_neg h,if_neg hv,if_pos hm]
theorem check_fine {l:List Sp} {s:Sp} (h:¬(s.a<0∨1114111<s.b∨s.b<s.a)) (hv:¬s.v = []) (hm:l.any (meets · s)=false):check l s=0:=by unfold check;rw [if_neg h,if_neg hv,if_neg (by simp [hm])]
def ChkPost (l:List Sp) (s:Sp) (w:World) (e:Ending) (w':World):Prop:=e=.returned (.int .i64 (check l s))∧Below w.heap.size w w'
set_option maxRecDepth 100000 in
set_option maxHeartbeats 1000000 in
theorem check19 (A:Option Addr) (n ca:Nat) (ls:List Sp) (x:Sp) (w:World) (hV:SAt w A n ls) (hn:n≤1000000):
 Calls Tryz.prog 79 #[.slice A n ca,spV x] w (ChkPost ls x w):=by
 have HV:=Lib.hid hV
 have HL:=Lib.hid hV.1
 clear hV
 obtain⟨xa,xb,xv⟩:=x
 unfold spV
 have hbx:Below w.heap.size w (w.alloc (.cells #[.int .i64 xa,.int .i64 xb,.string (bs xv)] 91)):=(Below.refl _ _).alloc (Nat.le_refl _) _
 have HB:=Lib.hid hbx
 by_cases hr:xa<0∨1114111<xb∨xb<xa
 · have HR:=Lib.hid (check_range (l:=ls) (s:=⟨xa,xb,xv⟩) hr)
   clear hbx
   obtain⟨T,hT⟩:∃ T,bs xv=T:=⟨_,rfl⟩
   rw [hT] at HB ⊢
   clear hT
   rcases (show xa<0∨(¬xa<0∧1114111<xb)∨(¬xa<0∧¬1114111<xb∧xb<xa) by omega) with g | ⟨g,g'⟩ | ⟨g,g',g''⟩
   all_goals
    clear hr
    go_enter Tryz.func79,Tryz.ntmps79
    go_wp2
    go_ret
    exact⟨by rw [HR.out];rfl,HB.out⟩
 · have HF:=Lib.hid hr
   have g1:¬xa<0:=fun h=>hr (.inl h)
   have g2:¬1114111<xb:=fun h=>hr (.inr (.inl h))
   have g3:¬xb<xa:=fun h=>hr (.inr (.inr h))
   clear hr hbx
   by_cases hv:xv = []
   · have HR:=Lib.hid (check_empty (l:=ls) (s:=⟨xa,xb,xv⟩) HF.out hv)
     subst hv
     rw [bs_nil] at HB ⊢
     go_enter Tryz.func79,Tryz.ntmps79
     go_wp2
     go_ret
     exact⟨by rw [HR.out];rfl,HB.out⟩
   · have hemp:=bs_some hv
     have HE:=Lib.hid hv
     obtain⟨T,hT⟩:∃ T,bs xv=T:=⟨_,rfl⟩
     rw [hT] at HB hemp ⊢
     clear hT hv
     go_enter Tryz.func79,Tryz.ntmps79
     go_wp2
     clear hemp
     have hbs:(w.alloc (.cells #[.int .i64 xa,.int .i64 xb,.string T] 91)).cell? ⟨w.heap.size,0,none⟩=some (.int .i64 xa):=by simp
     have hbs1:(w.alloc (.cells #[.int .i64 xa,.int .i64 xb,.string T] 91)).cell? ⟨w.heap.size,1,none⟩=some (.int .i64 xb):=by simp
     have HV2:=Lib.hid (HV.out.below HB.out)
     clear HV
     obtain⟨W,hW⟩:∃ W,(w.alloc (.cells #[.int .i64 xa,.int .i64 xb,.string T] 91))=W:=⟨_,rfl⟩
     rw [hW] at hbs hbs1 HV2 HB ⊢
     clear hW
     go_loopw [5] (fun i wr=>∃ k q:Nat,i=.int .i64 k∧k≤n∧wr=W.drewN q∧(ls.take k).any (meets · ⟨xa,xb,xv⟩)=false) (fun i _=>n-(intOf i).toNat)
     case atStart=>exact⟨0,0,rfl,Nat.zero_le _,rfl,by simp⟩
     case round=>
      obtain⟨k,q,rfl,hkn,rfl,hno⟩:=hrel
      by_cases hlt:k<n
      · obtain⟨b,off,rfl,-,hc⟩:=HV2.out.2 (by omega)
        obtain⟨s,hs⟩:=getSp (ls:=ls) (k:=k) (by rw [HL.out];exact hlt)
        obtain⟨h1,h2,-⟩:=hc k s hs
        clear hc
        have hmt:=any_take (f:=(meets · ⟨xa,xb,xv⟩)) hs hno
        have hmm:=fun h=>any_mem (f:=(meets · ⟨xa,xb,xv⟩)) hs h
        have hmeets:meets s ⟨xa,xb,xv⟩=(decide (s.a≤xb)&&decide (xa≤s.b)):=rfl
        rw [hmeets] at hmt hmm
        by_cases k1:s.a≤xb
        · by_cases k2:xa≤s.b
          · have HR:=Lib.hid (check_meets (l:=ls) (s:=⟨xa,xb,xv⟩) HF.out HE.out (hmm (by simp [k1,k2])))
            clear hmt hmm hmeets hs hno
            go_wp2
            go_quiet (fail)
            go_wp2
            go_ret
            exact⟨by rw [HR.out];rfl,below_drewN (below_drewN HB.out q) _⟩
          · have hd:decide (xa≤s.b)=false:=by simp;omega
            rw [hd,Bool.and_false] at hmt
            have HN:=Lib.hid hmt
            clear hmt hmm hmeets hs hno
            go_wp2
            go_quiet (fail)
            go_wp2
            go_roundw
            case rel=>exact⟨k+1,_,by go_num,by omega,rfl,HN.out⟩
            case measure=>simp [intOf];omega
        · have hd:decide (s.a≤xb)=false:=by simp;omega
          rw [hd,Bool.false_and] at hmt
          have HN:=Lib.hid hmt
          clear hmt hmm hmeets hs hno
          go_wp2
          go_quiet (fail)
          go_wp2
          go_roundw
          case rel=>exact⟨k+1,_,by go_num,by omega,rfl,HN.out⟩
          case measure=>simp [intOf];omega
      · have hke:k=n:=by omega
        subst hke
        rw [List.take_of_length_le (by rw [HL.out];exact Nat.le_refl _)] at hno
        have HR:=Lib.hid (check_fine (l:=ls) (s:=⟨xa,xb,xv⟩) HF.out HE.out hno)
        clear hno
        go_wp2
        go_ret
        exact⟨by rw [HR.out];rfl,below_drewN HB.out q⟩
set_option maxRecDepth 100000 in
set_option maxHeartbeats 1000000 in
theorem value12 (A:Option Addr) (n ca:Nat) (ls:List Sp) (c:Int) (w:World) (hV:SAt w A n ls) (hn:n≤1000000):
 Calls Tryz.prog 42 #[.slice A n ca,.int .i64 c] w fun e w'=>e=.returned (.string (bs (valueOf ls c)))∧∃ q,w'=w.drewN q:=by
 have HV:=Lib.hid hV
 have HL:=Lib.hid hV.1
 clear hV
 go_enter Tryz.func42,Tryz.ntmps42
 go_wp2
 go_loopw [5] (fun i wr=>∃ k q:Nat,i=.int .i64 k∧k≤n∧wr=w.drewN q∧∀ t∈ls.take k,¬(t.a≤c∧c≤t.b)) (fun i _=>n-(intOf i).toNat)
 case atStart=>exact⟨0,0,rfl,Nat.zero_le _,rfl,by simp⟩
 case round=>
  obtain⟨k,q,rfl,hkn,rfl,hno⟩:=hrel
  by_cases hlt:k<n
  · obtain⟨b,off,rfl,-,hc⟩:=HV.out.2 (by omega)
    obtain⟨s,hs⟩:=getSp (ls:=ls) (k:=k) (by rw [HL.out];exact hlt)
    obtain⟨h1,h2,h3⟩:=hc k s hs
    by_cases g1:s.a≤c
    · by_cases g2:c≤s.b
      · have HR:=Lib.hid (value_take hs hno ⟨g1,g2⟩)
        clear hc hs hno
        obtain⟨T,hT⟩:∃ T,bs s.v=T:=⟨_,rfl⟩
        rw [hT] at h3
        have HT:=Lib.hid hT
        clear hT
        go_wp2
        go_ret
        exact⟨by rw [HR.out,HT.out];rfl,q,rfl⟩
      · have HN:=Lib.hid (take_more hs hno (fun h=>g2 h.2))
        clear hc hs hno h3
        go_wp2
        go_roundw
        case rel=>exact⟨k+1,q,by go_num,by omega,rfl,HN.out⟩
        case measure=>simp [intOf];omega
    · have HN:=Lib.hid (take_more hs hno (fun h=>g1 h.1))
      clear hc hs hno h3 h2
      go_wp2
      go_roundw
      case rel=>exact⟨k+1,q,by go_num,by omega,rfl,HN.out⟩
      case measure=>simp [intOf];omega
  · have hke:k=n:=by omega
    subst hke
    rw [List.take_of_length_le (by rw [HL.out];exact Nat.le_refl _)] at hno
    have HR:=Lib.hid (value_gap hno)
    clear hno
    go_wp2
    go_ret
    exact⟨by rw [HR.out];rfl,q,rfl⟩
end Go.Proofs.YtmellioacefjjaaGreatDoor.Pq
namespace Go.Proofs.YtmellioacefjjaaGreatDoor.Cf
open Go.RowKit
structure Pp where
 c:Int
 p:List Int
structure CRes where
 rows:List Pp
 err:Int
 num:Int
def cfld (f:List (List UInt8)) (k:Nat):List UInt8:=f.getD k []
def ints' (s:List Nat):List Int:=s.map fun n:Nat=>(n:Int)
def cErr (f:List (List UInt8)):Int:=
 if ¬f.length=3 then 12 else
 match point (cfld f 0) with
 | none=>13
 | some _=>match seqOf (cfld f 1) with
  | none=>13
  | some p=>if p.length=0 then 16 else if 18<p.length then 36 else 0
def cPair (f:List (List UInt8)):Pp:=⟨((point (cfld f 0)).getD 0:Nat),ints' ((seqOf (cfld f 1)).getD [])⟩
def hasS (l:List Pp) (c:Int):Bool:=l.any fun q=>decide (q.c=c)
def insC (q:Pp) (l:List Pp):List Pp:=l.takeWhile (fun t=>decide (t.c≤q.c))++q::l.dropWhile (fun t=>decide (t.c≤q.c))
def cfP:List Pp→List Ln→CRes
 | out,[]=>⟨out,0,0⟩
 | out,x::t=>
  if ¬cErr x.2=0 then ⟨[],cErr x.2,x.1⟩ else
  if hasS out (cPair x.2).c=true then ⟨[],15,x.1⟩ else cfP (insC (cPair x.2) out) t
def cfOf (l:List Ln):CRes:=cfP [] l
theorem cf_err {out:List Pp} {x:Ln} {t:List Ln} (h:¬cErr x.2=0):cfP out (x::t)=⟨[],cErr x.2,x.1⟩:=by rw [cfP,if_pos h]
theorem cf_bad {out:List Pp} {x:Ln} {t:List Ln} (h:cErr x.2=0) (hc:hasS out (cPair x.2).c=true):cfP out (x::t)=⟨[],15,x.1⟩:=by rw [cfP,if_neg (by simpa using h),if_pos hc]
theorem cf_add {out:List Pp} {x:Ln} {t:List Ln} (h:cErr x.2=0) (hc:hasS out (cPair x.2).c=false):cfP out (x::t)=cfP (insC (cPair x.2) out) t:=by rw [cfP,if_neg (by simpa using h),if_neg (by rw [hc];simp)]
theorem has_iff {l:List Pp} {c:Int}:hasS l c=true↔∃ q∈l,q.c=c:=by unfold hasS;simp
theorem has_no {l:List Pp} {c:Int}:hasS l c=false↔∀ q∈l,q.c≠c:=by unfold hasS;simp
theorem ins_perm (q:Pp) (l:List Pp):(insC q l).Perm (q::l):=by
 unfold insC
 have h:=List.takeWhile_append_dropWhile (p:=fun t:Pp=>decide (t.c≤q.c)) (l:=l)
 exact List.perm_middle.trans (by rw [h])
def Rise (l:List Pp):Prop:=l.Pairwise fun a b=>a.c<b.c
theorem drop_low:∀ {l:List Pp} {x:Int},Rise l→∀ t∈l.dropWhile (fun t=>decide (t.c≤x)),x<t.c
 | [],_,_,t,h=>by cases h
 | y::l,x,hr,t,h=>by
  by_cases hy:y.c≤x
  · rw [List.dropWhile_cons_of_pos (by simpa using hy)] at h
    exact drop_low (List.Pairwise.of_cons hr) t h
  · rw [List.dropWhile_cons_of_neg (by simpa using hy)] at h
    rcases List.mem_cons.1 h with rfl | h
    · omega
    · have:=List.rel_of_pairwise_cons hr h
      omega
theorem take_low:∀ {l:List Pp} {x:Int},∀ t∈l.takeWhile (fun t=>decide (t.c≤x)),t.c≤x∧t∈l
 | [],_,t,h=>by cases h
 | y::l,x,t,h=>by
  by_cases hy:y.c≤x
  · rw [List.takeWhile_cons_of_pos (by simpa using hy)] at h
    rcases List.mem_cons.1 h with rfl | h
    · exact⟨hy,by simp⟩
    · have:=take_low t h
      exact⟨this.1,List.mem_cons_of_mem _ this.2⟩
  · rw [List.takeWhile_cons_of_neg (by simpa using hy)] at h
    cases h
theorem ins_rise {q:Pp} {l:List Pp} (hr:Rise l) (hn:hasS l q.c=false):Rise (insC q l):=by
 have hs:=List.takeWhile_append_dropWhile (p:=fun t:Pp=>decide (t.c≤q.c)) (l:=l)
 have hr':(l.takeWhile (fun t=>decide (t.c≤q.c))++l.dropWhile (fun t=>decide (t.c≤q.c))).Pairwise (fun a b:Pp=>a.c<b.c):=by rw [hs];exact hr
 rw [List.pairwise_append] at hr'
 unfold insC Rise
 rw [List.pairwise_append,List.pairwise_cons]
 refine⟨hr'.1,⟨fun t ht=>drop_low hr t ht,hr'.2.1⟩,fun a ha b hb=>?_⟩
 have h1:=take_low a ha
 rcases List.mem_cons.1 hb with rfl | hb
 · have h2:=has_no.1 hn a h1.2
   omega
 · exact hr'.2.2 a ha b hb
theorem ins_at' {q:Pp} {l:List Pp} {k:Nat} (hk:k≤l.length) (h1:∀ t∈l.take k,t.c≤q.c) (h2:∀ t∈l.drop k,q.c<t.c):insC q l=l.take k++q::l.drop k:=by
 have hp:l.takeWhile (fun t=>decide (t.c≤q.c))=l.take k∧l.dropWhile (fun t=>decide (t.c≤q.c))=l.drop k:=by
  induction l generalizing k with
  | nil=>simp
  | cons x l ih=>
   cases k with
   | zero=>
    have hx:=h2 x (by simp)
    rw [List.takeWhile_cons_of_neg (by simp;omega),List.dropWhile_cons_of_neg (by simp;omega)]
    simp
   | succ k=>
    have hx:=h1 x (by simp)
    have:=ih (k:=k) (by simpa using hk) (fun t ht=>h1 t (by simp [ht])) (fun t ht=>h2 t (by simpa using ht))
    rw [List.takeWhile_cons_of_pos (by simpa using hx),List.dropWhile_cons_of_pos (by simpa using hx),this.1,this.2]
    simp
 unfold insC
 rw [hp.1,hp.2]
theorem rise_nodup {l:List Pp} (h:Rise l):(l.map Pp.c).Nodup:=by
 rw [List.Nodup,List.pairwise_map]
 exact h.imp (fun h=>by omega)
def findC:List Pp→Int→Int
 | [],_=>-1
 | q::l,c=>if q.c=c then 0 else if findC l c<0 then -1 else findC l c+1
structure Pv where
 c:Int
 A:Option Addr
 n:Nat
 cap:Nat
def pvv (q:Pv):List Value:=[.int .i64 q.c,.slice q.A q.n q.cap]
def pvs (qs:List Pv):List Value:=qs.flatMap pvv
theorem pvs_cons (q:Pv) (qs:List Pv):pvs (q::qs)=.int .i64 q.c :: .slice q.A q.n q.cap::pvs qs:=rfl
theorem pvs_app (qs rs:List Pv):pvs qs++pvs rs=pvs (qs++rs):=by unfold pvs;rw [List.flatMap_append]
theorem pvs_length:∀ qs:List Pv,(pvs qs).length=qs.length*2
 | []=>rfl
 | q::qs=>by rw [pvs_cons];simp [pvs_length qs];omega
theorem pvs_get:∀ {qs:List Pv} {j:Nat} {q:Pv},qs[j]? = some q→(pvs qs)[j*2]? = some (.int .i64 q.c)∧(pvs qs)[j*2+1]? = some (.slice q.A q.n q.cap)
 | [],_,_,h=>by simp at h
 | x::qs,0,q,h=>by simp at h;subst h;exact⟨rfl,rfl⟩
 | x::qs,j+1,q,h=>by
  have:=pvs_get (qs:=qs) (j:=j) (q:=q) (by simpa using h)
  rw [pvs_cons,show (j+1)*2=j*2+2 by omega]
  exact this
theorem pvs_at:∀ {qs:List Pv} {j:Nat} {u:Value},(pvs qs)[j]? = some u→∃ k q,qs[k]? = some q∧((j=k*2∧u=.int .i64 q.c)∨(j=k*2+1∧u=.slice q.A q.n q.cap))
 | [],_,_,h=>by simp [pvs] at h
 | x::qs,0,u,h=>⟨0,x,rfl,.inl ⟨rfl,by simpa [pvs_cons] using h.symm⟩⟩
 | x::qs,1,u,h=>⟨0,x,rfl,.inr ⟨rfl,by simpa [pvs_cons] using h.symm⟩⟩
 | x::qs,j+2,u,h=>by
  rw [pvs_cons] at h
  obtain⟨k,q,h1,h2⟩:=pvs_at (qs:=qs) (j:=j) (u:=u) (by simpa using h)
  refine⟨k+1,q,by simpa using h1,?_⟩
  rcases h2 with ⟨rfl,h2⟩ | ⟨rfl,h2⟩
  · exact .inl ⟨by omega,h2⟩
  · exact .inr ⟨by omega,h2⟩
theorem pvs_one {qs:List Pv}:∀ u∈pvs qs,u.oneCell'=true:=by
 intro u hu
 obtain⟨j,hj⟩:=List.mem_iff_getElem?.1 hu
 obtain⟨k,q,-,⟨-,rfl⟩ | ⟨-,rfl⟩⟩:=pvs_at hj <;> rfl
def PAt (w:World) (A:Option Addr) (n:Nat) (qs:List Pv):Prop:=
 qs.length=n∧(0<n→∃ b off,A=some ⟨b,off,none⟩∧b<w.heap.size∧∀ j q,qs[j]? = some q→w.cell? ⟨b,off+j*2,none⟩=some (.int .i64 q.c)∧w.cell? ⟨b,off+j*2+1,none⟩=some (.slice q.A q.n q.cap))
theorem PAt.below {w w':World} {A:Option Addr} {n:Nat} {qs:List Pv} (h:PAt w A n qs) (hb:Below w.heap.size w w'):PAt w' A n qs:=by
 refine⟨h.1,fun hn=>?_⟩
 obtain⟨b,off,rfl,hlt,hc⟩:=h.2 hn
 refine⟨b,off,rfl,Nat.lt_of_lt_of_le hlt hb.size,fun j q hj=>?_⟩
 obtain⟨h1,h2⟩:=hc j q hj
 exact⟨(hb.cell (p:=⟨b,_,none⟩) hlt).trans h1,(hb.cell (p:=⟨b,_,none⟩) hlt).trans h2⟩
theorem PAt.nil (w:World) (A:Option Addr):PAt w A 0 []:=⟨rfl,fun h=>absurd h (by omega)⟩
theorem own_pat {w:World} {base:Nat} {e:TypeId} {v:Value} {qs:List Pv} (ho:w.ownsRow base e 2 v qs.length (pvs qs)):∃ A c,v=.slice A qs.length c∧qs.length≤c∧PAt w A qs.length qs∧(A=none→c=0):=by
 rcases ho.2 with ⟨rfl,h0⟩ | ⟨g,cap,cur,rfl,_,hg,hcap,_⟩
 · exact⟨none,0,by rw [h0],by omega,⟨rfl,fun h=>absurd h (by omega)⟩,fun _=>rfl⟩
 · refine⟨_,cap,rfl,hcap,⟨rfl,fun _=>⟨g,0,rfl,(Array.getElem?_eq_some_iff.1 hg).1,fun j q hj=>?_⟩⟩,fun h=>by cases h⟩
   obtain⟨h1,h2⟩:=pvs_get hj
   have k1:=ho.cells (g:=g) rfl _ _ h1
   have k2:=ho.cells (g:=g) rfl _ _ h2
   rw [add_at] at k1 k2
   exact⟨k1,k2⟩
theorem pat_off (b off j:Nat):(⟨b,off,none⟩:Addr).add j=⟨b,off+j,none⟩:=by unfold Addr.add;split <;> simp_all
theorem pat_cells {w:World} {ad:Addr} {m:Nat} {qs:List Pv} (h:PAt w (some ad) m qs):∀ j u,(pvs qs)[j]? = some u→w.cell? (ad.add j)=some u:=by
 intro j u hj
 obtain⟨k,q,hq,hu⟩:=pvs_at hj
 have hm:0<m:=by have:=(List.getElem?_eq_some_iff.1 hq).1;have:=h.1;omega
 obtain⟨b,off,e,-,hc⟩:=h.2 hm
 cases e
 rw [pat_off]
 obtain⟨h1,h2⟩:=hc k q hq
 rcases hu with ⟨rfl,rfl⟩ | ⟨rfl,rfl⟩
 · exact h1
 · exact h2
theorem PAt.take {w:World} {A:Option Addr} {n k:Nat} {qs:List Pv} (h:PAt w A n qs) (hk:k≤n):PAt w A k (qs.take k):=by
 refine⟨by rw [List.length_take,h.1];omega,fun h0=>?_⟩
 obtain⟨b,off,rfl,hlt,hc⟩:=h.2 (by omega)
 refine⟨b,off,rfl,hlt,fun j q hj=>?_⟩
 rw [List.getElem?_take] at hj
 split at hj
 · exact hc j q hj
 · cases hj
theorem PAt.drop {w:World} {b off n k:Nat} {qs:List Pv} (h:PAt w (some ⟨b,off,none⟩) n qs) (hk:k≤n):PAt w (some ⟨b,off+k*2,none⟩) (n-k) (qs.drop k):=by
 refine⟨by rw [List.length_drop,h.1],fun h0=>?_⟩
 obtain⟨b',off',e,hlt,hc⟩:=h.2 (by omega)
 cases e
 refine⟨b,off+k*2,rfl,hlt,fun j q hj=>?_⟩
 rw [List.getElem?_drop] at hj
 have:=hc (k+j) q hj
 rw [show off+k*2+j*2=off+(k+j)*2 by omega]
 exact this
theorem append_pairs {P:Program} {w:World} {ops:Array Oper} {rest:List Oper} {o:Oper} {a:Act} {Q:Exit→Act→World→Prop} (hgd:o.guard=none) (s x:Operand) (t:TypeId)
 (ho:o.op=.call { callee:=.builtin .append,args:=#[s,x],argTypes:=#[t,t] })
 (base:Nat) (e:TypeId) (i:TypeInfo) (z:Value) (bytes:Nat) (ht:P.underlying t=some (.slice e)) (hi:P.info? e=some i) (hz:i.zero=some z)
 (hsize:i.size=2) (hby:i.bytes=bytes) (hzs:z.cells.size=2)
 (v:Value) (n:Nat) (xs:List Value) (hs:a.eval s=v) (hown:w.ownsRow base e 2 v n xs)
 (A:Option Addr) (m c:Nat) (qs:List Pv) (hx:a.eval x=.slice A m c) (hN:PAt w A m qs) (hA:A=none→c=0)
 (h63:n+m≤maxLen) (hbytes:(n+m)*bytes≤140737488355328) (hbase:base≤w.heap.size)
 (h:∀ v' w',w'.ownsRow base e 2 v' (n+m) (xs++pvs qs)→w.grownBy w' v.ownBlock→wpList P ops Q rest (a.put o.dst v') w'):wpList P ops Q (o::rest) a w:=by
 cases A with
 | none=>
  have hm:m=0:=by
   rcases Nat.eq_zero_or_pos m with h0 | h0
   · exact h0
   · obtain⟨b,off,e,_⟩:=hN.2 h0
     cases e
  subst hm
  have hc:=hA rfl
  subst hc
  obtain rfl:qs = []:=List.eq_nil_of_length_eq_zero hN.1
  refine wpList_append_own_none hgd s x t ho base e i 2 ht hi v n xs hs hown hx (h v w ?_ (World.grownBy.refl w _))
  simpa [pvs] using hown
 | some ad=>
  exact wpList_append_own w hgd s x t ho base e i z 2 bytes ht hi hz hsize hby hzs (by decide) v n xs hs hown ad m c (pvs qs) hx (by rw [pvs_length,hN.1]) (pat_cells hN) pvs_one h63 hbytes hbase (fun v' w' h1 h2 _=>h v' w' h1 h2)
def IsP (w:World) (q:Pv) (r:Pp):Prop:=q.c=r.c∧q.n=r.p.length∧Vals w q.A q.n (nums .i64 r.p)
def IsPs (w:World):List Pv→List Pp→Prop
 | [],[]=>True
 | q::qs,r::rs=>IsP w q r∧IsPs w qs rs
 | _,_=>False
theorem IsP.below {w w':World} {q:Pv} {r:Pp} (h:IsP w q r) (hb:Below w.heap.size w w'):IsP w' q r:=⟨h.1,h.2.1,h.2.2.below hb⟩
theorem IsPs.below {w w':World} (hb:Below w.heap.size w w'):∀ {qs:List Pv} {rs:List Pp},IsPs w qs rs→IsPs w' qs rs
 | [],[],_=>trivial
 | _::_,_::_,h=>⟨h.1.below hb,IsPs.below hb h.2⟩
 | [],_::_,h=>h.elim
 | _::_,[],h=>h.elim
theorem IsPs.len {w:World}:∀ {qs:List Pv} {rs:List Pp},IsPs w qs rs→qs.length=rs.length
 | [],[],_=>rfl
 | _::qs,_::rs,h=>by have:=IsPs.len h.2;simp [this]
 | [],_::_,h=>h.elim
 | _::_,[],h=>h.elim
theorem IsPs.get {w:World}:∀ {qs:List Pv} {rs:List Pp},IsPs w qs rs→∀ {j:Nat} {q:Pv},qs[j]? = some q→∃ r,rs[j]? = some r∧IsP w q r
 | [],[],_,j,q,h=>by simp at h
 | x::qs,y::rs,h,0,q,hq=>by simp at hq;subst hq;exact⟨y,rfl,h.1⟩
 | x::qs,y::rs,h,j+1,q,hq=>by
  obtain⟨r,h1,h2⟩:=IsPs.get h.2 (j:=j) (q:=q) (by simpa using hq)
  exact⟨r,by simpa using h1,h2⟩
 | [],_::_,h,_,_,_=>h.elim
 | _::_,[],h,_,_,_=>h.elim
theorem IsPs.app {w:World}:∀ {qs qs':List Pv} {rs rs':List Pp},IsPs w qs rs→IsPs w qs' rs'→IsPs w (qs++qs') (rs++rs')
 | [],_,[],_,_,h=>h
 | _::_,_,_::_,_,h,h'=>⟨h.1,IsPs.app h.2 h'⟩
 | [],_,_::_,_,h,_=>h.elim
 | _::_,_,[],_,h,_=>h.elim
theorem IsPs.take {w:World}:∀ {qs:List Pv} {rs:List Pp} (k:Nat),IsPs w qs rs→IsPs w (qs.take k) (rs.take k)
 | [],[],k,_=>by simp [IsPs]
 | _::_,_::_,0,_=>by simp [IsPs]
 | _::_,_::_,k+1,h=>by simp only [List.take_succ_cons];exact⟨h.1,IsPs.take k h.2⟩
 | [],_::_,_,h=>h.elim
 | _::_,[],_,h=>h.elim
theorem IsPs.drop {w:World}:∀ {qs:List Pv} {rs:List Pp} (k:Nat),IsPs w qs rs→IsPs w (qs.drop k) (rs.drop k)
 | [],[],k,_=>by simp [IsPs]
 | _::_,_::_,0,h=>by simpa using h
 | _::_,_::_,k+1,h=>by simp only [List.drop_succ_cons];exact IsPs.drop k h.2
 | [],_::_,_,h=>h.elim
 | _::_,[],_,h=>h.elim
theorem find_cons (q:Pp) (l:List Pp) (c:Int):findC (q::l) c=if q.c=c then 0 else if findC l c<0 then -1 else findC l c+1:=rfl
theorem find_ge:∀ (l:List Pp) (c:Int),-1≤findC l c
 | [],c=>by simp [findC]
 | q::l,c=>by
  have:=find_ge l c
  rw [find_cons]
  split
  · omega
  split <;> omega
theorem find_has:∀ (l:List Pp) (c:Int),hasS l c=decide (0≤findC l c)
 | [],c=>by simp [hasS,findC]
 | q::l,c=>by
  have ih:=find_has l c
  have hg:=find_ge l c
  unfold hasS at ih ⊢
  rw [List.any_cons,ih]
  rw [find_cons]
  by_cases h:q.c=c
  · simp [h]
  · rw [if_neg h,decide_eq_false h,Bool.false_or]
    by_cases h2:findC l c<0
    · rw [if_pos h2,decide_eq_decide];omega
    · rw [if_neg h2,decide_eq_decide];omega
theorem find_first:∀ {l:List Pp} {c:Int} {k:Nat} {q:Pp},l[k]? = some q→q.c=c→(∀ t∈l.take k,t.c≠c)→findC l c=k
 | [],c,k,q,h,_,_=>by simp at h
 | x::l,c,0,q,h,hq,_=>by simp at h;subst h;simp [findC,hq]
 | x::l,c,k+1,q,h,hq,hn=>by
  have hx:=hn x (by simp)
  have:=find_first (l:=l) (c:=c) (k:=k) (q:=q) (by simpa using h) hq (fun t ht=>hn t (by simp [ht]))
  rw [find_cons]
  rw [if_neg hx,this,if_neg (by omega)]
  push_cast
  rfl
theorem find_none:∀ {l:List Pp} {c:Int},(∀ t∈l,t.c≠c)→findC l c = -1
 | [],c,_=>rfl
 | x::l,c,h=>by
  have:=find_none (l:=l) (c:=c) (fun t ht=>h t (List.mem_cons_of_mem _ ht))
  rw [find_cons]
  rw [if_neg (h x (by simp)),this,if_pos (by omega)]
end Go.Proofs.YtmellioacefjjaaGreatDoor.Cf
namespace Go.Proofs.YtmellioacefjjaaGreatDoor
open Go.RowKit
theorem ofInt64 (x:Nat) (h:x<9223372036854775808):(BitVec.ofInt 64 (x:Int)).toNat=x:=by
 rw [BitVec.toNat_ofInt]
 omega
theorem wrap64 (n:Int) (h0:0≤n) (h1:n<9223372036854775808):IntKind.i64.wrap n=n:=by
 simp [IntKind.wrap,IntKind.bits,IntKind.signed]
 split <;> omega
theorem or16 (a v:Nat) (ha:a<16777216) (hv:v<16):bits .or .i64 ((a:Int)*16) (v:Int)=((a*16+v:Nat):Int):=by
 show IntKind.i64.wrap ((BitVec.ofInt 64 ((a:Int)*16) ||| BitVec.ofInt 64 (v:Int)).toNat:Int)=_
 rw [show ((a:Int)*16)=((a*16:Nat):Int) by push_cast;rfl,BitVec.toNat_or,ofInt64 _ (by omega),ofInt64 v (by omega)]
 have e:=Nat.shiftLeft_add_eq_or_of_lt (i:=4) (b:=v) (by omega) a
 rw [Nat.shiftLeft_eq] at e
 have e:a*16+v=a*16 ||| v:=e
 rw [←e]
 exact wrap64 _ (by omega) (by omega)
end Go.Proofs.YtmellioacefjjaaGreatDoor
