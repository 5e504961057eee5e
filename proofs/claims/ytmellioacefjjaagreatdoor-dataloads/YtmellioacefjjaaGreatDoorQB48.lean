/- A part. -/
import Derived.Test.YtmellioacefjjaaGreatDoorQB47
namespace Go.Proofs.YtmellioacefjjaaGreatDoor.Cf
open Go.RowKit
theorem cErr_len {f:List (List UInt8)} (h:cErr f=0):1≤(cPair f).p.length∧(cPair f).p.length≤18:=by
 unfold cErr at h
 unfold cPair ints'
 split at h
 · omega
 · cases h0:point (cfld f 0) with
   | none=>rw [h0] at h;simp at h
   | some v=>
    rw [h0] at h
    cases h1:seqOf (cfld f 1) with
    | none=>rw [h1] at h;simp at h
    | some p=>
     rw [h1] at h
     simp only at h
     simp only [Option.getD_some,List.length_map]
     split at h
     · omega
     · split at h <;> omega
theorem cf_short {L:List Ln} (h:(cfOf L).err=0):∀ r∈(cfOf L).rows,1≤r.p.length∧r.p.length≤18:=by
 intro r hr
 obtain⟨h1,-,h3,-⟩:=cf_inv L [] List.Pairwise.nil h
 have hm:=h3.mem_iff.1 hr
 rw [List.nil_append] at hm
 obtain⟨x,hx,rfl⟩:=List.mem_map.1 hm
 exact cErr_len (h1 x hx)
end Go.Proofs.YtmellioacefjjaaGreatDoor.Cf
namespace Go.Proofs.YtmellioacefjjaaGreatDoor
open Go.RowKit
theorem load_right {f:Nat→List UInt8} {d:Dt} (h:loadOf f=(⟨0,0,0⟩,some d)):¬touA d.ps=true∧mkP (d.sp 0) d.ps [] d.ps=some d.ms:=by
 rcases read_load f with ⟨h1,h2⟩ | ⟨h1,h2⟩
 · rw [h2] at h
   rcases load2_join (uF f).rows (spF f) (cfF f).rows with ⟨h4,ms,h5,h3⟩ | ⟨h3,h4⟩
   · rw [h3] at h
     injection h with _ h
     injection h with h
     subst h
     refine⟨fun ht=>?_,h5⟩
     unfold joinE at h4
     rw [if_pos ht] at h4
     cases h4
   · rw [h4] at h;injection h with _ h;cases h
 · rw [h2] at h;injection h with _ h;cases h
end Go.Proofs.YtmellioacefjjaaGreatDoor
