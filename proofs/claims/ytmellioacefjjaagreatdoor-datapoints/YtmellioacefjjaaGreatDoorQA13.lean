/- A part. -/
import Derived.Test.YtmellioacefjjaaGreatDoorQA12
import Derived.IntWalk
namespace Go.Proofs.YtmellioacefjjaaGreatDoor
def FlatR (ps:List Uc.Pr):Prop:=∀ r∈ps,r.dec ≠ []→r.a=r.b
theorem flat_snoc {ps:List Uc.Pr} {r:Uc.Pr} (h:FlatR ps) (hr:r.dec ≠ []→r.a=r.b):FlatR (ps ++ [r]):=by
 intro x hx hd
 rcases List.mem_append.1 hx with h' | h'
 · exact h x h' hd
 · rw [List.mem_singleton.1 h'] at hd ⊢;exact hr hd
theorem join_dec {f g:List (List UInt8)} (h:¬Uc.joinB f g=false):(Uc.rowVal f).dec = []:=by
 have hj:Uc.joinB f g=true:=by simpa using h
 unfold Uc.joinB at hj
 simp only [Bool.and_eq_true,decide_eq_true_eq] at hj
 show Uc.decVal (Uc.fld f 5) = []
 rw [hj.2.2.2.2.1]
 rfl
theorem flat_ref:∀ (l:List Ln) (out:List Uc.Pr),FlatR out→FlatR (Uc.refP out l).rows
 | [],out,hg=>by rw [Uc.refP];exact hg
 | x::t,out,hg=>by
  have nil:FlatR []:=fun r h=>by cases h
  rw [Uc.refP.eq_def]
  simp only []
  by_cases h1:¬Uc.rowErr x.2=0
  · rw [if_pos h1];exact nil
  rw [if_neg h1]
  by_cases h2:Uc.twice out (Uc.rowVal x.2)=true
  · rw [if_pos h2];exact nil
  rw [if_neg h2]
  by_cases h3:Uc.namedB (Uc.fld x.2 1) Uc.nmF=true
  · rw [if_pos h3]
    cases t with
    | nil=>exact nil
    | cons y t'=>
     simp only []
     by_cases h4:¬Uc.rowErr y.2=0
     · rw [if_pos h4];exact nil
     rw [if_neg h4]
     by_cases h5:Uc.joinB x.2 y.2=false
     · rw [if_pos h5];exact nil
     rw [if_neg h5]
     exact flat_ref t' _ (flat_snoc (r:={ Uc.rowVal x.2 with b:=(Uc.rowVal y.2).a }) hg (fun hd=>absurd (join_dec h5) hd))
  · rw [if_neg h3]
    exact flat_ref t _ (flat_snoc hg (fun _=>rfl))
theorem flat_parse (l:List Ln):FlatR (Uc.parseOf l).rows:=flat_ref l [] (fun r h=>by cases h)
def wide (L:List Ln):Nat:=(L.map fun x=>x.2.length-1).sum
theorem few_ref:∀ (l:List Ln) (out:List Uc.Pr),14*(Uc.refP out l).rows.length≤14*out.length+wide l
 | [],out=>by rw [Uc.refP];simp
 | x::t,out=>by
  have hw:wide (x::t)=(x.2.length-1)+wide t:=by simp [wide]
  rw [Uc.refP.eq_def]
  simp only []
  by_cases h1:¬Uc.rowErr x.2=0
  · rw [if_pos h1];simp
  rw [if_neg h1]
  have h15:=(Uc.row_ok (by simpa using h1)).1
  by_cases h2:Uc.twice out (Uc.rowVal x.2)=true
  · rw [if_pos h2];simp
  rw [if_neg h2]
  by_cases h3:Uc.namedB (Uc.fld x.2 1) Uc.nmF=true
  · rw [if_pos h3]
    cases t with
    | nil=>simp
    | cons y t'=>
     simp only []
     by_cases h4:¬Uc.rowErr y.2=0
     · rw [if_pos h4];simp
     rw [if_neg h4]
     by_cases h5:Uc.joinB x.2 y.2=false
     · rw [if_pos h5];simp
     rw [if_neg h5]
     have hw2:wide (y::t')=(y.2.length-1)+wide t':=by simp [wide]
     refine Nat.le_trans (few_ref t' _) ?_
     rw [List.length_append,List.length_singleton]
     omega
  · rw [if_neg h3]
    have:=few_ref t (out ++ [Uc.rowVal x.2])
    rw [List.length_append,List.length_singleton] at this
    omega
theorem wide_lines:∀ (n:Int) (L:List (List UInt8)),wide ((numbered n L).filterMap lineOf)≤(L.map List.length).sum
 | _,[]=>by simp [numbered,wide]
 | n,p::L=>by
  have ih:=wide_lines (n+1) L
  show wide (((n,bodyOf p)::numbered (n+1) L).filterMap lineOf)≤_
  rw [List.filterMap_cons]
  cases h:lineOf (n,bodyOf p) with
  | none=>simp only [List.map_cons,List.sum_cons];omega
  | some x=>
   have hx:x.2.length-1≤p.length:=by
    unfold lineOf at h
    split at h
    · cases h
    · injection h with h
      rw [←h]
      show (fieldsOf (bodyOf p)).length-1≤_
      have h1:=cutAll_length 59 (bodyOf p)
      have h2:=body_length p
      unfold fieldsOf
      rw [List.length_map]
      omega
   have hw:wide (x::(numbered (n+1) L).filterMap lineOf)=(x.2.length-1)+wide ((numbered (n+1) L).filterMap lineOf):=by simp [wide]
   simp only [List.map_cons,List.sum_cons]
   rw [hw]
   omega
theorem cut_sum (c:UInt8):∀ l:List UInt8,((cutAll c l).map List.length).sum≤l.length
 | []=>by simp [cutAll]
 | y::l=>by
  have ih:=cut_sum c l
  unfold cutAll
  split
  · simp;omega
  · cases h:cutAll c l with
    | nil=>exact absurd h (cutAll_ne c l)
    | cons a t=>
     rw [h] at ih
     simp only [glue]
     simp at ih ⊢
     omega
theorem few_rows (l:List UInt8):14*(Uc.parseOf (linesIn l)).rows.length≤l.length:=by
 have h1:=few_ref (linesIn l) []
 have h2:=wide_lines 1 (cutAll 10 l)
 have h3:=cut_sum 10 l
 have h4:14*(Uc.parseOf (linesIn l)).rows.length≤14*([]:List Uc.Pr).length+wide (linesIn l):=h1
 unfold linesIn at h4 ⊢
 simp at h4
 omega
theorem pat_mem {ps:List Uc.Pr} {c:Int} (h:(Uc.patOf ps c).dec ≠ []):Uc.patOf ps c∈ps∧(Uc.patOf ps c).a≤c∧c≤(Uc.patOf ps c).b:=by
 unfold Uc.patOf at h ⊢
 cases hf:ps.find? (fun p=>decide (p.a≤c∧c≤p.b)) with
 | none=>rw [hf] at h;exact absurd rfl h
 | some p=>
  have h1:=List.mem_of_find?_eq_some hf
  have h2:=List.find?_some hf
  simp only [Option.getD_some]
  exact⟨h1,by simpa using h2⟩
theorem dcf_key {ps:List Uc.Pr} (hf:FlatR ps) {c:Int} (h:dcf ps c ≠ []):c∈ps.map fun r=>r.a:=by
 have hd:(Uc.patOf ps c).dec ≠ []:=fun e=>h (by unfold dcf;rw [e];rfl)
 obtain⟨h1,h2,h3⟩:=pat_mem hd
 have:=hf _ h1 hd
 exact List.mem_map.2 ⟨_,h1,by omega⟩
theorem dcf_two {ps:List Uc.Pr} (hg:Uc.Good ps) (c:Int):(dcf ps c).length≤2:=by
 by_cases h:(Uc.patOf ps c).dec = []
 · unfold dcf;rw [h];simp
 · have:=(hg.2 _ (pat_mem h).1).2.2.2
   unfold dcf
   rw [List.length_map]
   exact this
def decU (ps:List Uc.Pr):List Int:=ps.flatMap fun r=>r.dec.map fun n:Nat=>(n:Int)
theorem dcf_U {ps:List Uc.Pr} (c:Int):∀ d∈dcf ps c,d∈decU ps:=by
 intro d hd
 have hne:(Uc.patOf ps c).dec ≠ []:=fun e=>by unfold dcf at hd;rw [e] at hd;cases hd
 exact List.mem_flatMap.2 ⟨_,(pat_mem hne).1,hd⟩
theorem decU_len:∀ {ps:List Uc.Pr},(∀ r∈ps,r.dec.length≤2)→(decU ps).length≤2*ps.length
 | [],_=>by simp [decU]
 | r::ps,h=>by
  have h1:=h r (by simp)
  have h2:=decU_len (ps:=ps) (fun x hx=>h x (List.mem_cons_of_mem _ hx))
  have e:decU (r::ps)=(r.dec.map fun n:Nat=>(n:Int))++decU ps:=by simp [decU]
  rw [e]
  simp
  omega
def cycB (ps:List Uc.Pr):Bool:=ps.any fun r=>decide (r.a∈rch (dcf ps) 5000 0 (dcf ps r.a))
theorem cyc_iff {ps:List Uc.Pr} (hg:Uc.Good ps) (hn:ps.length≤2000):cycB ps=true↔∃ r∈ps,Plus (dcf ps) r.a r.a:=by
 unfold cycB
 rw [List.any_eq_true]
 have hU:=decU_len (ps:=ps) (fun r hr=>(hg.2 r hr).2.2.2)
 constructor
 · rintro⟨r,hr,h⟩
   have:=dcf_two hg r.a
   exact⟨r,hr,(round_iff (U:=decU ps) dcf_U (by omega)).1 (of_decide_eq_true h)⟩
 · rintro⟨r,hr,h⟩
   have:=dcf_two hg r.a
   exact⟨r,hr,decide_eq_true ((round_iff (U:=decU ps) dcf_U (by omega)).2 h)⟩
theorem no_cyc {ps:List Uc.Pr} (hg:Uc.Good ps) (hf:FlatR ps) (hn:ps.length≤2000) (h:cycB ps=false) (c:Int):Ends (dcf ps) ps.length c:=by
 have h':=all_end (dec:=dcf ps) (K:=ps.map fun r=>r.a) (fun c hc=>dcf_key hf hc) (fun c hc hp=>by
  obtain⟨r,hr,rfl⟩:=List.mem_map.1 hc
  rw [(cyc_iff hg hn).2 ⟨r,hr,hp⟩] at h
  cases h) c
 rwa [List.length_map] at h'
def longB (ps:List Uc.Pr):Bool:=ps.any fun r=>decide (4<prt (dcf ps) ps.length r.a)
theorem long_iff {ps:List Uc.Pr} (hg:Uc.Good ps):longB ps=true↔∃ r∈ps,4<cnt (dcf ps) ps.length r.a:=by
 unfold longB
 rw [List.any_eq_true]
 constructor
 · rintro⟨r,hr,h⟩
   have:=(prt_cnt (dec:=dcf ps) (dcf_two hg) ps.length r.a).1
   exact⟨r,hr,by have:=of_decide_eq_true h;omega⟩
 · rintro⟨r,hr,h⟩
   have:=(prt_cnt (dec:=dcf ps) (dcf_two hg) ps.length r.a).1
   exact⟨r,hr,decide_eq_true (by omega)⟩
end Go.Proofs.YtmellioacefjjaaGreatDoor
namespace Go.Proofs.YtmellioacefjjaaGreatDoor
open Go.RowKit
attribute [local go_sem] Oper.semAt_some
def ptR:Nat→Int→List Int→List Int
 | 0,_,out=>out
 | n+1,c,out=>if out.length<4096 then ptR n (c+1) (if scal c=true then out ++ [c] else out) else out
def askV:List (List UInt8):=[[80,86,65,76,73,68],[67,79,78,84,69,88,84,74],[67,79,78,84,69,88,84,79]]
def ptS (out:List Int) (s:Pq.Sp):List Int:=if s.v∈askV then ptR (s.b+1-s.a).toNat s.a out else out
def ptsOf (l:List Pq.Sp):List Int:=l.foldl ptS []
theorem ptR_len:∀ (n:Nat) (c:Int) (out:List Int),out.length≤4096→(ptR n c out).length≤4096
 | 0,_,_,h=>h
 | n+1,c,out,h=>by
  rw [ptR]
  by_cases h1:out.length<4096
  · rw [if_pos h1]
    refine ptR_len n _ _ ?_
    split
    · simp;omega
    · exact h
  · rw [if_neg h1];exact h
theorem ptR_full {n:Nat} {c:Int} {out:List Int} (h:¬out.length<4096):ptR n c out=out:=by
 cases n with
 | zero=>rfl
 | succ n=>rw [ptR,if_neg h]
theorem ptS_len (out:List Int) (s:Pq.Sp) (h:out.length≤4096):(ptS out s).length≤4096:=by
 unfold ptS
 split
 · exact ptR_len _ _ _ h
 · exact h
def PtO (l:List Pq.Sp) (w:World) (v i:Value) (wr:World):Prop:=
 ∃ (k:Nat) (out:List Int),(i=.int .i64 k∧k≤l.length)∧((l.drop k).foldl ptS out=ptsOf l∧out.length≤4096)∧wr.ownsRow w.heap.size 3 1 v out.length (nums .i64 out)∧Below w.heap.size w wr
def PtI (fin:List Int) (b:Int) (w:World) (v i:Value) (wr:World):Prop:=
 ∃ (c:Int) (out:List Int),(i=.int .i64 c∧(0≤c∧c≤b+1))∧(ptR (b+1-c).toNat c out=fin∧out.length≤4096)∧wr.ownsRow w.heap.size 3 1 v out.length (nums .i64 out)∧Below w.heap.size w wr
theorem ptR_next {b c:Int} {out:List Int} (h:c≤b) (h2:out.length<4096):ptR (b+1-c).toNat c out=ptR (b+1-(c+1)).toNat (c+1) (if scal c=true then out ++ [c] else out):=by
 rw [show (b+1-c).toNat=(b+1-(c+1)).toNat+1 by omega,ptR,if_pos h2]
theorem pt_put {fin:List Int} {b c:Int} {w wr w2:World} {v':Value} {out:List Int} (hc:c≤b) (h0:0≤c) (ho:out.length<4096) (hs:scal c=true) (hf:ptR (b+1-c).toNat c out=fin) (hb:Below w.heap.size w wr)
 (ho':w2.ownsRow w.heap.size 3 1 v' (out.length+1) (nums .i64 out ++ [.int .i64 c])) (hg:Grew w.heap.size wr w2):PtI fin b w v' (.int .i64 (c+1)) w2:=by
 rw [ptR_next hc ho,if_pos hs] at hf
 refine⟨c+1,out ++ [c],⟨rfl,by omega,by omega⟩,⟨hf,by simp;omega⟩,?_,hg _ _ hb (Nat.le_refl _)⟩
 have e2:nums .i64 (out ++ [c])=nums .i64 out ++ [.int .i64 c]:=by simp [nums]
 rw [e2,List.length_append]
 exact ho'
theorem pt_skip {fin:List Int} {b c:Int} {w wr:World} {v:Value} {out:List Int} (hc:c≤b) (h0:0≤c) (ho:out.length<4096) (hs:scal c=false) (hf:ptR (b+1-c).toNat c out=fin) (hb:Below w.heap.size w wr)
 (hw:wr.ownsRow w.heap.size 3 1 v out.length (nums .i64 out)):PtI fin b w v (.int .i64 (c+1)) wr:=by
 rw [ptR_next hc ho,if_neg (by rw [hs];simp)] at hf
 exact⟨c+1,out,⟨rfl,by omega,by omega⟩,⟨hf,by omega⟩,hw,hb⟩
set_option maxRecDepth 100000 in
set_option maxHeartbeats 4000000 in
theorem points28_at (b n ca:Nat) (A:Option Addr) (l:List Pq.Sp) (w:World) (h:w.cell? ⟨b,3,none⟩=some (.slice A n ca)) (hS:Pq.SAt w A n l) (hn:n≤1000000) (hfit:∀ s∈l,0≤s.a∧s.a≤s.b+1∧s.b≤1114111):
 Calls Tryz.prog 28 #[.pointer (some ⟨b,0,none⟩)] w fun e w'=>∃ A2 c2,e=.returned (.slice A2 (ptsOf l).length c2)∧Hid (Below w.heap.size w w'∧Vals w' A2 (ptsOf l).length (nums .i64 (ptsOf l))):=by
 obtain⟨i0,hi,hz0,hz1,hz2⟩:=info_parts infoI
 have HS:=Lib.hid hS
 have HL:=Lib.hid hS.1
 have HF:=Lib.hid hfit
 have C46:=Lib.hid (fun c W=>scalar46 c W)
 clear hS hfit
 go_enter Tryz.func28,Tryz.ntmps28
 go_wp2
 go_loopw [3,5] (fun v i wr=>PtO l w v i wr) (fun _ i _=>n-(intOf i).toNat)
 case atStart=>exact⟨0,[],⟨rfl,Nat.zero_le _⟩,⟨rfl,by simp⟩,World.ownsRow_nil _ _ _ _,Below.refl _ _⟩
 case round=>
  obtain⟨k,out,⟨rfl,hk⟩,⟨hfo,hol⟩,ho,hb⟩:=hrel
  rw [HL.out] at hk
  obtain⟨Av,cv,rfl,-,hV,-⟩:=own_vals ho
  by_cases hlt:k<n
  · have hkl:k<l.length:=by rw [HL.out];exact hlt
    obtain⟨s,hs⟩:=Pq.getSp hkl
    obtain⟨b2,off,rfl,hbl,hc⟩:=HS.out.2 (by omega)
    obtain⟨q1,q2,q3⟩:=hc k s hs
    have d1:wr.cell? ⟨b2,off+k*3,none⟩=some (.int .i64 s.a):=(hb.cell (p:=⟨b2,off+k*3,none⟩) hbl).trans q1
    have d2:wr.cell? ⟨b2,off+k*3+1,none⟩=some (.int .i64 s.b):=(hb.cell (p:=⟨b2,off+k*3+1,none⟩) hbl).trans q2
    have d3:wr.cell? ⟨b2,off+k*3+2,none⟩=some (.string (bs s.v)):=(hb.cell (p:=⟨b2,off+k*3+2,none⟩) hbl).trans q3
    obtain⟨hf0,hf1,hf2⟩:=HF.out s (List.mem_of_getElem? hs)
    have hdrop:l.drop k=s::l.drop (k+1):=by rw [List.drop_eq_getElem_cons hkl];congr 1;exact (List.getElem?_eq_some_iff.1 hs).2
    rw [hdrop,List.foldl_cons] at hfo
    have hlen:=ptS_len out s hol
    have hV3:=d3
    by_cases hask:s.v∈askV
    · have hfin:ptS out s=ptR (s.b+1-s.a).toNat s.a out:=by unfold ptS;rw [if_pos hask]
      have hS3:bs s.v=⟨#[80,86,65,76,73,68]⟩∨bs s.v=⟨#[67,79,78,84,69,88,84,74]⟩∨bs s.v=⟨#[67,79,78,84,69,88,84,79]⟩:=by
       simp only [askV,List.mem_cons,List.not_mem_nil,or_false] at hask
       rcases hask with e | e | e
       · exact .inl (by rw [e];rfl)
       · exact .inr (.inl (by rw [e];rfl))
       · exact .inr (.inr (by rw [e];rfl))
      obtain⟨fin,hfn⟩:∃ fin,ptS out s=fin:=⟨_,rfl⟩
      rw [hfn] at hfo hfin hlen
      obtain⟨a,ha⟩:∃ a,s.a=a:=⟨_,rfl⟩
      obtain⟨bb,hbb⟩:∃ a,s.b=a:=⟨_,rfl⟩
      obtain⟨S,hSS⟩:∃ a,bs s.v=a:=⟨_,rfl⟩
      rw [ha] at d1 hf0 hf1 hfin
      rw [hbb] at d2 hf1 hf2 hfin q2
      rw [hSS] at d3 hS3
      have hI0:PtI fin bb w (.slice Av out.length cv) (.int .i64 a) wr:=⟨a,out,⟨rfl,hf0,hf1⟩,⟨hfin.symm,hol⟩,ho,hb⟩
      have HI0:=Lib.hid hI0
      have HNX:=Lib.hid hfo
      have HQ2:=Lib.hid (fun W (hW:Below w.heap.size w W)=>(hW.cell (p:=⟨b2,off+k*3+1,none⟩) hbl).trans q2)
      obtain⟨on,hon⟩:∃ m,out.length=m:=⟨_,rfl⟩
      rw [hon] at HI0 ⊢
      clear hV hc hs q1 q2 q3 hfo hfin hfn ha hbb hSS hI0 ho hb hon hask hdrop hol hV3 hkl
      rcases hS3 with rfl | rfl | rfl
      all_goals
       go_wp2
       obtain⟨w0,rfl⟩:∃ w0,w0=wr:=⟨_,rfl⟩
       go_loopw [3,7] (fun v i wr=>PtI fin bb w v i wr) (fun _ i _=>(bb+1-intOf i).toNat)
       case atStart=>exact HI0.out
       case round=>
        clear HI0
        obtain⟨c,oq,⟨rfl,hc0,hcb⟩,⟨hfq,hlq⟩,hoq,hbq⟩:=hrel
        obtain⟨Aq,cq,rfl,-,hVq,-⟩:=own_vals hoq
        have g2:=HQ2.out wr hbq
        obtain⟨nq,hnq⟩:∃ m,oq.length=m:=⟨_,rfl⟩
        have HNQ:=Lib.hid hnq
        by_cases hle:c≤bb
        · have t1:decide (c≤bb)=true:=decide_eq_true hle
          by_cases hfu:oq.length<4096
          · have c46:=C46.out c wr
            have hbase:=hbq.size
            cases hsc:scal c with
            | true=>
             rw [hsc] at c46
             have R:=Lib.hid (fun w5 v'=>pt_put (w:=w) (wr:=wr) (w2:=w5) (v':=v') hle hc0 hfu hsc hfq hbq)
             rw [hnq] at hlq hoq hfu
             have g63:nq+1≤maxLen:=by simp only [maxLen];omega
             have g47:(nq+1)*8≤140737488355328:=by omega
             have t2:decide ((nq:Int)<4096)=true:=decide_eq_true (by omega)
             have HOQ:=Lib.hid hoq
             rw [hnq]
             clear hoq hVq hfq hnq hsc
             go_wp2_with (first
              | (go_at_call 49;(with_reducible refine c46.mono ?_);rintro e w4 ⟨rfl,rfl⟩)
              | (at_builtin;refine append_lit rfl _ _ 31 rfl w.heap.size 3 i0 (.int .i64 0) 1 8 Tryz.underlying31 hi hz0 hz1 hz2 rfl (by decide) _ _ _ rfl HOQ.out [.int .i64 c] rfl (by simp [Value.oneCell']) rfl g63 g47 hbase ?_;intro v' w5 hown' hg'))
             go_roundw
             case rel=>exact R.out w5 v' (by rw [HNQ.out];exact hown') hg'
             case measure=>simp [intOf];omega
            | false=>
             rw [hsc] at c46
             have R:=Lib.hid (pt_skip (w:=w) (wr:=wr) (v:=.slice Aq oq.length cq) hle hc0 hfu hsc hfq hbq hoq)
             rw [hnq] at hlq hfu R
             have t2:decide ((nq:Int)<4096)=true:=decide_eq_true (by omega)
             rw [hnq]
             clear hoq hVq hfq hnq hsc
             go_wp2_with (go_at_call 49;(with_reducible refine c46.mono ?_);rintro e w4 ⟨rfl,rfl⟩)
             go_roundw
             case rel=>exact R.out
             case measure=>simp [intOf];omega
          · have hff:oq=fin:=by rw [←hfq];exact (ptR_full hfu).symm
            have R:Hid (PtO l w (.slice Aq oq.length cq) (.int .i64 ((k:Int)+1)) wr):=Lib.hid ⟨k+1,oq,⟨by go_num,by rw [HL.out];omega⟩,⟨by rw [hff];exact HNX.out,hlq⟩,hoq,hbq⟩
            rw [hnq] at hlq hfu R
            have t2:decide ((nq:Int)<4096)=false:=decide_eq_false (by omega)
            rw [hnq]
            clear hoq hVq hfq hnq hff
            go_wp2
            go_roundw
            case rel=>exact R.out
            case measure=>simp [intOf];omega
        · have t1:decide (c≤bb)=false:=decide_eq_false hle
          have hff:oq=fin:=by rw [←hfq,show (bb+1-c).toNat=0 by omega];rfl
          have R:Hid (PtO l w (.slice Aq oq.length cq) (.int .i64 ((k:Int)+1)) wr):=Lib.hid ⟨k+1,oq,⟨by go_num,by rw [HL.out];omega⟩,⟨by rw [hff];exact HNX.out,hlq⟩,hoq,hbq⟩
          rw [hnq] at hlq R
          rw [hnq]
          clear hoq hVq hfq hnq hff
          go_wp2
          go_roundw
          case rel=>exact R.out
          case measure=>simp [intOf];omega
    · have hfin:ptS out s=out:=by unfold ptS;rw [if_neg hask]
      rw [hfin] at hfo
      have R:Hid (PtO l w (.slice Av out.length cv) (.int .i64 ((k:Int)+1)) wr):=Lib.hid ⟨k+1,out,⟨by go_num,by rw [HL.out];omega⟩,⟨hfo,hol⟩,ho,hb⟩
      obtain⟨S,hSS⟩:∃ a,bs s.v=a:=⟨_,rfl⟩
      have hne:∀ t∈askV,(S.toList==t)=false:=fun t ht=>by
       rw [←hSS,bs_toList]
       exact beq_false_of_ne (fun e=>hask (e▸ht))
      have n1:(S.toList == [80,86,65,76,73,68])=false:=hne _ (by simp [askV])
      have n2:(S.toList == [67,79,78,84,69,88,84,74])=false:=hne _ (by simp [askV])
      have n3:(S.toList == [67,79,78,84,69,88,84,79])=false:=hne _ (by simp [askV])
      have m1:¬S.toList = [80,86,65,76,73,68]:=by simpa using n1
      have m2:¬S.toList = [67,79,78,84,69,88,84,74]:=by simpa using n2
      have m3:¬S.toList = [67,79,78,84,69,88,84,79]:=by simpa using n3
      rw [hSS] at d3
      obtain⟨on,hon⟩:∃ m,out.length=m:=⟨_,rfl⟩
      rw [hon] at R ⊢
      clear hV hc hs q1 q2 q3 hfo hfin hSS hne ho hon hask hdrop hol hV3 hkl hlen
      go_wp2
      go_roundw
      case rel=>exact R.out
      case measure=>simp [intOf];omega
  · have hke:k=n:=by omega
    rw [List.drop_of_length_le (by rw [HL.out];omega)] at hfo
    have hfo:out=ptsOf l:=hfo
    have R:Hid (Below w.heap.size w wr∧Vals wr Av (ptsOf l).length (nums .i64 (ptsOf l))):=Lib.hid ⟨hb,by rw [←hfo];exact hV⟩
    have HFO:Hid ((ptsOf l).length=out.length):=Lib.hid (by rw [hfo])
    obtain⟨on,hon⟩:∃ m,out.length=m:=⟨_,rfl⟩
    rw [hon] at HFO ⊢
    subst hke
    clear hV ho hfo hb hon hol
    go_wp2
    go_ret
    exact⟨Av,cv,by rw [HFO.out];rfl,R⟩
end Go.Proofs.YtmellioacefjjaaGreatDoor
namespace Go.Proofs.YtmellioacefjjaaGreatDoor
open Go.RowKit
theorem dots_at {l:List UInt8} {k:Nat} (hk:k+2≤l.length):Lib.occAt l [46,46] k=(decide (oct l k=46)&&decide (oct l (k+1)=46)):=by
 have h1:k<l.length:=by omega
 have h2:k+1<l.length:=by omega
 have e1:oct l k=(l[k].toNat:Int):=by unfold oct;rw [List.getD_eq_getElem?_getD,List.getElem?_eq_getElem h1];rfl
 have e2:oct l (k+1)=(l[k+1].toNat:Int):=by unfold oct;rw [List.getD_eq_getElem?_getD,List.getElem?_eq_getElem h2];rfl
 unfold Lib.occAt
 rw [List.drop_eq_getElem_cons h1,List.drop_eq_getElem_cons h2,e1,e2]
 have u:=fun a:UInt8=>u8_int a 46
 have v:∀ a:UInt8,((46:UInt8)==a)=decide ((a.toNat:Int)=46):=fun a=>by
  rw [Bool.eq_iff_iff,beq_iff_eq,decide_eq_true_iff]
  exact⟨fun h=>by rw [←h];rfl,fun h=>((u a).1 h).symm⟩
 simp [List.isPrefixOf,v]
theorem range_none {l:List UInt8} (h:Lib.index l [46,46] = -1):rangeOf l=match point l with | some a=>((a:Int),(a:Int),0) | none=>(0,0,13):=by
 unfold rangeOf
 rw [h]
 rfl
theorem range_hit {l:List UInt8} {k:Nat} (h:Lib.index l [46,46]=k):rangeOf l=match point (l.take k),point (l.drop (k+2)) with | some a,some b=>if b≤a then (0,0,14) else ((a:Int),(b:Int),0) | _,_=>(0,0,13):=by
 unfold rangeOf
 rw [h,if_pos (by omega)]
 rfl
theorem below_two {w wa wb:World} (ha:Below w.heap.size w wa) (hb:Below wa.heap.size wa wb):Below w.heap.size w wb:=ha.trans (hb.mono ha.size)
set_option maxRecDepth 100000 in
set_option maxHeartbeats 4000000 in
theorem range14 (l:List UInt8) (w:World) (hl:l.length≤1000000):Calls Tryz.prog 78 #[.string (bs l)] w fun e w'=>e=.returned (rgVal (rangeOf l))∧Below w.heap.size w w':=by
 have hsz:=bs_size l
 have hle:=hl
 obtain⟨n,hn⟩:∃ n,l.length=n:=⟨_,rfl⟩
 rw [hn] at hl hsz
 have HN:=Lib.hid hn
 have HLE:=Lib.hid hle
 clear hn hle
 go_enter Tryz.func78,Tryz.ntmps78
 go_wp2
 go_loop [5,6] (fun a i=>∃ k:Nat,a=.int .i64 (-1)∧i=.int .i64 k∧k≤n∧Lib.NoOcc l [46,46] k) (fun _ i=>n-(intOf i).toNat)
 case atStart=>exact⟨0,rfl,rfl,Nat.zero_le _,Lib.NoOcc.zero _ _⟩
 case round=>
  obtain⟨k,rfl,rfl,hkn,hno⟩:=hrel
  by_cases hlt:k+2≤n
  · have hocc:=dots_at (l:=l) (k:=k) (by rw [HN.out];exact hlt)
    have hx:=bs_oct l k
    have hx2:=bs_oct l (k+1)
    obtain⟨X,hX⟩:∃ X,oct l k=X:=⟨_,rfl⟩
    obtain⟨Y,hY⟩:∃ Y,oct l (k+1)=Y:=⟨_,rfl⟩
    rw [hX,hY] at hocc
    rw [hX] at hx
    rw [hY] at hx2
    clear hX hY
    by_cases hyes:X=46∧Y=46
    · obtain⟨rfl,rfl⟩:=hyes
      have hidx:Lib.index l [46,46]=k:=Lib.index_hit hno (by rw [HN.out];exact hkn) (by rw [hocc];rfl)
      have hr:=range_hit hidx
      have c12:=fun w=>point12 (l.take k) w (by rw [List.length_take];have:=HLE.out;omega)
      have d12:=fun w=>point12 (l.drop (k+2)) w (by rw [List.length_drop];have:=HLE.out;omega)
      have e1:(bs l).extract 0 k=bs (l.take k):=by rw [bs_ext];simp
      have e2:(bs l).extract (k+2) n=bs (l.drop (k+2)):=by rw [bs_ext,←HN.out,List.take_of_length_le (by simp)]
      obtain⟨S1,hS1⟩:∃ S,bs (l.take k)=S:=⟨_,rfl⟩
      obtain⟨S2,hS2⟩:∃ S,bs (l.drop (k+2))=S:=⟨_,rfl⟩
      obtain⟨p,hp⟩:∃ p,point (l.take k)=p:=⟨_,rfl⟩
      obtain⟨q,hq⟩:∃ q,point (l.drop (k+2))=q:=⟨_,rfl⟩
      rw [hS1] at e1
      rw [hS2] at e2
      rw [hp,hq] at hr
      simp only [hS1,hp] at c12
      simp only [hS2,hq] at d12
      clear hocc hno hidx hS1 hS2 hp hq HLE
      have hcase:∃ r:Int×Int×Int,rangeOf l=r∧((ptI p<0∧r=(0,0,13))∨(0≤ptI p∧ptI q<0∧r=(0,0,13))∨(0≤ptI p∧0≤ptI q∧ptI q≤ptI p∧r=(0,0,14))∨(0≤ptI p∧0≤ptI q∧ptI p<ptI q∧r=(ptI p,ptI q,0))):=by
       refine⟨_,rfl,?_⟩
       rw [hr]
       cases p with
       | none=>exact .inl ⟨by decide,rfl⟩
       | some a=>
        cases q with
        | none=>exact .inr (.inl ⟨by simp [ptI],by decide,rfl⟩)
        | some b=>
         by_cases hba:b≤a
         · exact .inr (.inr (.inl ⟨by simp [ptI],by simp [ptI],by simp [ptI];exact hba,by simp [hba]⟩))
         · exact .inr (.inr (.inr ⟨by simp [ptI],by simp [ptI],by simp [ptI];omega,by simp [hba,ptI]⟩))
      obtain⟨r,hr2,hcase⟩:=hcase
      have HR:=Lib.hid hr2
      clear hr hr2
      obtain⟨A,hA⟩:∃ A,ptI p=A:=⟨_,rfl⟩
      obtain⟨B,hB⟩:∃ B,ptI q=B:=⟨_,rfl⟩
      rw [hA,hB] at hcase
      simp only [hA] at c12
      simp only [hB] at d12
      clear hA hB p q
      have w1:IntKind.i64.wrap (↑k+2) = ↑k+2:=IntWalk.i64_in _ (by omega)
      have w2:(0:Int) ≤ ↑k+2:=by omega
      have w3:((k:Int)+2).toNat=k+2:=by omega
      rcases hcase with ⟨a1,rfl⟩ | ⟨a1,a2,rfl⟩ | ⟨a1,a2,a3,rfl⟩ | ⟨a1,a2,a3,rfl⟩
      all_goals
       go_wp2
       go_region_with (first
        | (go_at_call 81;(with_reducible refine (c12 _).mono ?_);rintro e wa ⟨rfl,hba⟩)
        | (go_at_call 81;(with_reducible refine (d12 _).mono ?_);rintro e wb ⟨rfl,hbb⟩))
       all_goals
        go_wp2
        go_ret3
        refine⟨by rw [HR.out];rfl,?_⟩
        first
        | exact below_two (w:=w) ⟨hba.os,hba.tape,hba.output,hba.size,hba.block⟩ hbb
        | exact below_two (w:=w) ⟨hbb.os,hbb.tape,hbb.output,hbb.size,hbb.block⟩ hba
    · have hno2:Lib.NoOcc l [46,46] (k+1):=hno.succ (by rw [hocc];simp;intro h h2;exact hyes ⟨h,h2⟩)
      have HNO:=Lib.hid hno2
      clear hno hno2 hocc
      by_cases h1:X=46
      · subst h1
        have h2:¬Y=46:=fun h=>hyes ⟨rfl,h⟩
        have h2b:(Y==46)=false:=beq_false_of_ne h2
        clear hyes
        go_wp2
        go_round
        case rel=>exact⟨k+1,rfl,by go_num,by omega,HNO.out⟩
        case measure=>simp [intOf];omega
      · have h1b:(X==46)=false:=beq_false_of_ne h1
        clear hyes hx2
        go_wp2
        go_round
        case rel=>exact⟨k+1,rfl,by go_num,by omega,HNO.out⟩
        case measure=>simp [intOf];omega
  · have hidx:Lib.index l [46,46] = -1:=Lib.index_past (by simp) hno (by rw [HN.out];simp;omega)
    have hr:=range_none hidx
    have c12:=fun w=>point12 l w HLE.out
    cases hp:point l with
    | none=>
     rw [hp] at hr
     simp only [hp,ptI] at c12
     have HR:=Lib.hid hr
     clear hr hidx hno hp
     go_wp2_with (go_at_call 81;(with_reducible refine (c12 _).mono ?_);rintro e wa ⟨rfl,hba⟩)
     go_ret3
     exact⟨by rw [HR.out];rfl,hba⟩
    | some a=>
     rw [hp] at hr
     simp only [hp,ptI] at c12
     have HR:=Lib.hid hr
     clear hr hidx hno hp
     go_wp2_with (go_at_call 81;(with_reducible refine (c12 _).mono ?_);rintro e wa ⟨rfl,hba⟩)
     go_ret3
     exact⟨by rw [HR.out];rfl,hba⟩
end Go.Proofs.YtmellioacefjjaaGreatDoor
