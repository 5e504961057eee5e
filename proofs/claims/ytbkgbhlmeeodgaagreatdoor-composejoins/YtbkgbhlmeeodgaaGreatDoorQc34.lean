/- A part. -/
import Derived.Test.YtbkgbhlmeeodgaaGreatDoorQc25
import Derived.Test.YtbkgbhlmeeodgaaGreatDoorQc28
namespace Go.Proofs.YtbkgbhlmeeodgaaGreatDoor
open Go.RowKit
def LowR (ps:List Uc.Pr):Prop:=∀ r∈ps,∀ d∈r.dec,d≤1114111
theorem low_snoc {ps:List Uc.Pr} {r:Uc.Pr} (h:LowR ps) (hr:∀ d∈r.dec,d≤1114111):LowR (ps ++ [r]):=by
 intro x hx
 rcases List.mem_append.1 hx with h' | h'
 · exact h x h'
 · rw [List.mem_singleton.1 h'];exact hr
theorem mapm_low:∀ (l:List (List UInt8)) (p:List Nat),l.mapM point=some p→∀ d∈p,d≤1114111
 | [],p,h=>by
  have:p = []:=by simpa using h.symm
  rw [this];intro d hd;cases hd
 | x::l,p,h=>by
  rw [List.mapM_cons] at h
  cases hx:point x with
  | none=>rw [hx] at h;cases h
  | some c=>
   rw [hx] at h
   cases hl:l.mapM point with
   | none=>rw [hl] at h;cases h
   | some q=>
    rw [hl] at h
    have e:p=c::q:=by simpa using h.symm
    rw [e]
    intro d hd
    rcases List.mem_cons.1 hd with rfl | hd
    · exact Uc.point_range hx
    · exact mapm_low l q hl d hd
theorem dec_low (l:List UInt8):∀ d∈Uc.decVal l,d≤1114111:=by
 unfold Uc.decVal
 split
 · intro d hd;cases hd
 · cases h:seqOf l with
   | none=>intro d hd;cases hd
   | some p=>
    unfold seqOf at h
    split at h
    · cases h;intro d hd;cases hd
    · exact mapm_low _ p h
theorem low_ref:∀ (l:List Ln) (out:List Uc.Pr),LowR out→LowR (Uc.refP out l).rows
 | [],out,hg=>by rw [Uc.refP];exact hg
 | x::t,out,hg=>by
  have nil:LowR []:=fun r h=>by cases h
  rw [Uc.refP.eq_def]
  simp only []
  by_cases h1:¬Uc.rowErr x.2=0
  · rw [if_pos h1];exact nil
  rw [if_neg h1]
  by_cases h2:Uc.twice out (Uc.rowVal x.2)=true
  · rw [if_pos h2];exact nil
  rw [if_neg h2]
  by_cases h3:Uc.namedB (Uc.fld x.2 1) Uc.nmF=true
  · rw [if_pos h3]
    cases t with
    | nil=>exact nil
    | cons y t'=>
     simp only []
     by_cases h4:¬Uc.rowErr y.2=0
     · rw [if_pos h4];exact nil
     rw [if_neg h4]
     by_cases h5:Uc.joinB x.2 y.2=false
     · rw [if_pos h5];exact nil
     rw [if_neg h5]
     exact low_ref t' _ (low_snoc (r:={ Uc.rowVal x.2 with b:=(Uc.rowVal y.2).a }) hg (dec_low _))
  · rw [if_neg h3]
    exact low_ref t _ (low_snoc hg (dec_low _))
theorem prop_val (v:List UInt8):∀ (l:List Ln) (out:List Pq.Sp),(∀ s∈out,s.v=v)→∀ s∈(Pq.propP [v] out l).rows,s.v=v
 | [],out,h=>by rw [Pq.propP];exact h
 | x::t,out,h=>by
  rw [Pq.propP]
  split
  · intro s hs;cases hs
  · split
    · exact prop_val v t out h
    · rename_i ha
      split
      · intro s hs;cases hs
      · refine prop_val v t _ (fun s hs=>?_)
        rcases List.mem_append.1 hs with h' | h'
        · exact h s h'
        · rw [List.mem_singleton.1 h']
          show Pq.pfld x.2 1=v
          unfold Pq.amongB at ha
          simpa using ha
theorem prF_val (f:Nat→List UInt8) (i:Nat) (v:List UInt8) (h:valsOf (2+i) = [v]):∀ s∈spF f i,s.v=v:=by
 intro s hs
 have:=(Pq.sorted_mem _ s).1 hs
 refine prop_val v (linesIn (f (1+i))) [] (fun s h=>by cases h) s ?_
 rw [←h];exact this
theorem szs_of (f:Nat→List UInt8) (N:Nat) (hN:N≤4000) (hf:∀ i,(f i).length≤N):Szs (uF f).rows (spF f):=by
 refine⟨Uc.good_ref _ [] Uc.good_nil,flat_parse _,?_,low_ref _ [] (fun r h=>by cases h),fun i=>Pq.prp_good _ _,fun i=>?_,prF_val f 0 exclV rfl,prF_val f 1 ignV rfl⟩
 · have h1:=few_rows (f 0)
   have h2:=hf 0
   have e:(uF f).rows.length=(Uc.parseOf (linesIn (f 0))).rows.length:=rfl
   omega
 · have h1:=Pq.prp_many (valsOf (2+i)) (f (1+i))
   have h2:=hf (1+i)
   have e:(spF f i).length=(Pq.propOf (valsOf (2+i)) (linesIn (f (1+i)))).rows.length:=Pq.sorted_length _
   omega
theorem load2_join (ps:List Uc.Pr) (sp:Nat→List Pq.Sp) (cf:List Cf.Pp):(joinE (sp 0) ps=0∧∃ ms,mkP (sp 0) ps [] ps=some ms∧load2 ps sp cf=(⟨0,0,0⟩,some ⟨ps,sp,cf,ms⟩))∨(¬joinE (sp 0) ps=0∧load2 ps sp cf=(⟨1,0,joinE (sp 0) ps⟩,none)):=by
 unfold joinE load2 load3 load4 load5 ckV
 by_cases h1:touA ps=true
 · right;rw [if_pos h1,if_pos h1];exact⟨by decide,rfl⟩
 rw [if_neg h1,if_neg h1]
 by_cases h2:cycB ps=true
 · right;rw [if_pos h2,if_pos h2,if_pos (by decide)];exact⟨by decide,rfl⟩
 rw [if_neg h2,if_neg h2]
 by_cases h3:longB ps=true
 · right;rw [if_pos h3,if_pos h3,if_pos (by decide)];exact⟨by decide,rfl⟩
 rw [if_neg h3,if_neg h3,if_neg (by decide)]
 cases h4:mkP (sp 0) ps [] ps with
 | none=>right;rw [if_pos rfl];exact⟨by decide,rfl⟩
 | some ms=>left;rw [if_neg (by simp)];exact⟨rfl,ms,rfl,rfl⟩
end Go.Proofs.YtbkgbhlmeeodgaaGreatDoor
