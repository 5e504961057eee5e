/- A part. -/
import Derived.Test.YtbkgbhlmeeodgaaGreatDoorQc01
namespace Go.Proofs.YtbkgbhlmeeodgaaGreatDoor.Cf
open Go.RowKit
structure Pp where
 c:Int
 p:List Int
structure CRes where
 rows:List Pp
 err:Int
 num:Int
def cfld (f:List (List UInt8)) (k:Nat):List UInt8:=f.getD k []
def ints' (s:List Nat):List Int:=s.map fun n:Nat=>(n:Int)
def cErr (f:List (List UInt8)):Int:=
 if ¬f.length=3 then 12 else
 match point (cfld f 0) with
 | none=>13
 | some _=>match seqOf (cfld f 1) with
  | none=>13
  | some p=>if p.length=0 then 16 else if 18<p.length then 36 else 0
def cPair (f:List (List UInt8)):Pp:=⟨((point (cfld f 0)).getD 0:Nat),ints' ((seqOf (cfld f 1)).getD [])⟩
def hasS (l:List Pp) (c:Int):Bool:=l.any fun q=>decide (q.c=c)
def insC (q:Pp) (l:List Pp):List Pp:=l.takeWhile (fun t=>decide (t.c≤q.c))++q::l.dropWhile (fun t=>decide (t.c≤q.c))
def cfP:List Pp→List Ln→CRes
 | out,[]=>⟨out,0,0⟩
 | out,x::t=>
  if ¬cErr x.2=0 then ⟨[],cErr x.2,x.1⟩ else
  if hasS out (cPair x.2).c=true then ⟨[],15,x.1⟩ else cfP (insC (cPair x.2) out) t
def cfOf (l:List Ln):CRes:=cfP [] l
theorem cf_err {out:List Pp} {x:Ln} {t:List Ln} (h:¬cErr x.2=0):cfP out (x::t)=⟨[],cErr x.2,x.1⟩:=by rw [cfP,if_pos h]
theorem cf_bad {out:List Pp} {x:Ln} {t:List Ln} (h:cErr x.2=0) (hc:hasS out (cPair x.2).c=true):cfP out (x::t)=⟨[],15,x.1⟩:=by rw [cfP,if_neg (by simpa using h),if_pos hc]
theorem cf_add {out:List Pp} {x:Ln} {t:List Ln} (h:cErr x.2=0) (hc:hasS out (cPair x.2).c=false):cfP out (x::t)=cfP (insC (cPair x.2) out) t:=by rw [cfP,if_neg (by simpa using h),if_neg (by rw [hc];simp)]
theorem has_iff {l:List Pp} {c:Int}:hasS l c=true↔∃ q∈l,q.c=c:=by unfold hasS;simp
theorem has_no {l:List Pp} {c:Int}:hasS l c=false↔∀ q∈l,q.c≠c:=by unfold hasS;simp
theorem ins_perm (q:Pp) (l:List Pp):(insC q l).Perm (q::l):=by
 unfold insC
 have h:=List.takeWhile_append_dropWhile (p:=fun t:Pp=>decide (t.c≤q.c)) (l:=l)
 exact List.perm_middle.trans (by rw [h])
def Rise (l:List Pp):Prop:=l.Pairwise fun a b=>a.c<b.c
theorem drop_low:∀ {l:List Pp} {x:Int},Rise l→∀ t∈l.dropWhile (fun t=>decide (t.c≤x)),x<t.c
 | [],_,_,t,h=>by cases h
 | y::l,x,hr,t,h=>by
  by_cases hy:y.c≤x
  · rw [List.dropWhile_cons_of_pos (by simpa using hy)] at h
    exact drop_low (List.Pairwise.of_cons hr) t h
  · rw [List.dropWhile_cons_of_neg (by simpa using hy)] at h
    rcases List.mem_cons.1 h with rfl | h
    · omega
    · have:=List.rel_of_pairwise_cons hr h
      omega
theorem take_low:∀ {l:List Pp} {x:Int},∀ t∈l.takeWhile (fun t=>decide (t.c≤x)),t.c≤x∧t∈l
 | [],_,t,h=>by cases h
 | y::l,x,t,h=>by
  by_cases hy:y.c≤x
  · rw [List.takeWhile_cons_of_pos (by simpa using hy)] at h
    rcases List.mem_cons.1 h with rfl | h
    · exact⟨hy,by simp⟩
    · have:=take_low t h
      exact⟨this.1,List.mem_cons_of_mem _ this.2⟩
  · rw [List.takeWhile_cons_of_neg (by simpa using hy)] at h
    cases h
theorem ins_rise {q:Pp} {l:List Pp} (hr:Rise l) (hn:hasS l q.c=false):Rise (insC q l):=by
 have hs:=List.takeWhile_append_dropWhile (p:=fun t:Pp=>decide (t.c≤q.c)) (l:=l)
 have hr':(l.takeWhile (fun t=>decide (t.c≤q.c))++l.dropWhile (fun t=>decide (t.c≤q.c))).Pairwise (fun a b:Pp=>a.c<b.c):=by rw [hs];exact hr
 rw [List.pairwise_append] at hr'
 unfold insC Rise
 rw [List.pairwise_append,List.pairwise_cons]
 refine⟨hr'.1,⟨fun t ht=>drop_low hr t ht,hr'.2.1⟩,fun a ha b hb=>?_⟩
 have h1:=take_low a ha
 rcases List.mem_cons.1 hb with rfl | hb
 · have h2:=has_no.1 hn a h1.2
   omega
 · exact hr'.2.2 a ha b hb
theorem rise_nodup {l:List Pp} (h:Rise l):(l.map Pp.c).Nodup:=by
 rw [List.Nodup,List.pairwise_map]
 exact h.imp (fun h=>by omega)
end Go.Proofs.YtbkgbhlmeeodgaaGreatDoor.Cf
