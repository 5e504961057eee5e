/- A part. -/
import Derived.Test.YtmellioacefjjaaGreatDoorQB11
import Derived.IntWalk
namespace Go.Proofs.YtmellioacefjjaaGreatDoor
def FlatR (ps:List Uc.Pr):Prop:=∀ r∈ps,r.dec ≠ []→r.a=r.b
theorem flat_snoc {ps:List Uc.Pr} {r:Uc.Pr} (h:FlatR ps) (hr:r.dec ≠ []→r.a=r.b):FlatR (ps ++ [r]):=by
 intro x hx hd
 rcases List.mem_append.1 hx with h' | h'
 · exact h x h' hd
 · rw [List.mem_singleton.1 h'] at hd ⊢;exact hr hd
theorem join_dec {f g:List (List UInt8)} (h:¬Uc.joinB f g=false):(Uc.rowVal f).dec = []:=by
 have hj:Uc.joinB f g=true:=by simpa using h
 unfold Uc.joinB at hj
 simp only [Bool.and_eq_true,decide_eq_true_eq] at hj
 show Uc.decVal (Uc.fld f 5) = []
 rw [hj.2.2.2.2.1]
 rfl
theorem flat_ref:∀ (l:List Ln) (out:List Uc.Pr),FlatR out→FlatR (Uc.refP out l).rows
 | [],out,hg=>by rw [Uc.refP];exact hg
 | x::t,out,hg=>by
  have nil:FlatR []:=fun r h=>by cases h
  rw [Uc.refP.eq_def]
  simp only []
  by_cases h1:¬Uc.rowErr x.2=0
  · rw [if_pos h1];exact nil
  rw [if_neg h1]
  by_cases h2:Uc.twice out (Uc.rowVal x.2)=true
  · rw [if_pos h2];exact nil
  rw [if_neg h2]
  by_cases h3:Uc.namedB (Uc.fld x.2 1) Uc.nmF=true
  · rw [if_pos h3]
    cases t with
    | nil=>exact nil
    | cons y t'=>
     simp only []
     by_cases h4:¬Uc.rowErr y.2=0
     · rw [if_pos h4];exact nil
     rw [if_neg h4]
     by_cases h5:Uc.joinB x.2 y.2=false
     · rw [if_pos h5];exact nil
     rw [if_neg h5]
     exact flat_ref t' _ (flat_snoc (r:={ Uc.rowVal x.2 with b:=(Uc.rowVal y.2).a }) hg (fun hd=>absurd (join_dec h5) hd))
  · rw [if_neg h3]
    exact flat_ref t _ (flat_snoc hg (fun _=>rfl))
theorem flat_parse (l:List Ln):FlatR (Uc.parseOf l).rows:=flat_ref l [] (fun r h=>by cases h)
def wide (L:List Ln):Nat:=(L.map fun x=>x.2.length-1).sum
theorem few_ref:∀ (l:List Ln) (out:List Uc.Pr),14*(Uc.refP out l).rows.length≤14*out.length+wide l
 | [],out=>by rw [Uc.refP];simp
 | x::t,out=>by
  have hw:wide (x::t)=(x.2.length-1)+wide t:=by simp [wide]
  rw [Uc.refP.eq_def]
  simp only []
  by_cases h1:¬Uc.rowErr x.2=0
  · rw [if_pos h1];simp
  rw [if_neg h1]
  have h15:=(Uc.row_ok (by simpa using h1)).1
  by_cases h2:Uc.twice out (Uc.rowVal x.2)=true
  · rw [if_pos h2];simp
  rw [if_neg h2]
  by_cases h3:Uc.namedB (Uc.fld x.2 1) Uc.nmF=true
  · rw [if_pos h3]
    cases t with
    | nil=>simp
    | cons y t'=>
     simp only []
     by_cases h4:¬Uc.rowErr y.2=0
     · rw [if_pos h4];simp
     rw [if_neg h4]
     by_cases h5:Uc.joinB x.2 y.2=false
     · rw [if_pos h5];simp
     rw [if_neg h5]
     have hw2:wide (y::t')=(y.2.length-1)+wide t':=by simp [wide]
     refine Nat.le_trans (few_ref t' _) ?_
     rw [List.length_append,List.length_singleton]
     omega
  · rw [if_neg h3]
    have:=few_ref t (out ++ [Uc.rowVal x.2])
    rw [List.length_append,List.length_singleton] at this
    omega
theorem wide_lines:∀ (n:Int) (L:List (List UInt8)),wide ((numbered n L).filterMap lineOf)≤(L.map List.length).sum
 | _,[]=>by simp [numbered,wide]
 | n,p::L=>by
  have ih:=wide_lines (n+1) L
  show wide (((n,bodyOf p)::numbered (n+1) L).filterMap lineOf)≤_
  rw [List.filterMap_cons]
  cases h:lineOf (n,bodyOf p) with
  | none=>simp only [List.map_cons,List.sum_cons];omega
  | some x=>
   have hx:x.2.length-1≤p.length:=by
    unfold lineOf at h
    split at h
    · cases h
    · injection h with h
      rw [←h]
      show (fieldsOf (bodyOf p)).length-1≤_
      have h1:=cutAll_length 59 (bodyOf p)
      have h2:=body_length p
      unfold fieldsOf
      rw [List.length_map]
      omega
   have hw:wide (x::(numbered (n+1) L).filterMap lineOf)=(x.2.length-1)+wide ((numbered (n+1) L).filterMap lineOf):=by simp [wide]
   simp only [List.map_cons,List.sum_cons]
   rw [hw]
   omega
theorem cut_sum (c:UInt8):∀ l:List UInt8,((cutAll c l).map List.length).sum≤l.length
 | []=>by simp [cutAll]
 | y::l=>by
  have ih:=cut_sum c l
  unfold cutAll
  split
  · simp;omega
  · cases h:cutAll c l with
    | nil=>exact absurd h (cutAll_ne c l)
    | cons a t=>
     rw [h] at ih
     simp only [glue]
     simp at ih ⊢
     omega
theorem few_rows (l:List UInt8):14*(Uc.parseOf (linesIn l)).rows.length≤l.length:=by
 have h1:=few_ref (linesIn l) []
 have h2:=wide_lines 1 (cutAll 10 l)
 have h3:=cut_sum 10 l
 have h4:14*(Uc.parseOf (linesIn l)).rows.length≤14*([]:List Uc.Pr).length+wide (linesIn l):=h1
 unfold linesIn at h4 ⊢
 simp at h4
 omega
theorem pat_mem {ps:List Uc.Pr} {c:Int} (h:(Uc.patOf ps c).dec ≠ []):Uc.patOf ps c∈ps∧(Uc.patOf ps c).a≤c∧c≤(Uc.patOf ps c).b:=by
 unfold Uc.patOf at h ⊢
 cases hf:ps.find? (fun p=>decide (p.a≤c∧c≤p.b)) with
 | none=>rw [hf] at h;exact absurd rfl h
 | some p=>
  have h1:=List.mem_of_find?_eq_some hf
  have h2:=List.find?_some hf
  simp only [Option.getD_some]
  exact⟨h1,by simpa using h2⟩
theorem dcf_key {ps:List Uc.Pr} (hf:FlatR ps) {c:Int} (h:dcf ps c ≠ []):c∈ps.map fun r=>r.a:=by
 have hd:(Uc.patOf ps c).dec ≠ []:=fun e=>h (by unfold dcf;rw [e];rfl)
 obtain⟨h1,h2,h3⟩:=pat_mem hd
 have:=hf _ h1 hd
 exact List.mem_map.2 ⟨_,h1,by omega⟩
theorem dcf_two {ps:List Uc.Pr} (hg:Uc.Good ps) (c:Int):(dcf ps c).length≤2:=by
 by_cases h:(Uc.patOf ps c).dec = []
 · unfold dcf;rw [h];simp
 · have:=(hg.2 _ (pat_mem h).1).2.2.2
   unfold dcf
   rw [List.length_map]
   exact this
def decU (ps:List Uc.Pr):List Int:=ps.flatMap fun r=>r.dec.map fun n:Nat=>(n:Int)
theorem dcf_U {ps:List Uc.Pr} (c:Int):∀ d∈dcf ps c,d∈decU ps:=by
 intro d hd
 have hne:(Uc.patOf ps c).dec ≠ []:=fun e=>by unfold dcf at hd;rw [e] at hd;cases hd
 exact List.mem_flatMap.2 ⟨_,(pat_mem hne).1,hd⟩
theorem decU_len:∀ {ps:List Uc.Pr},(∀ r∈ps,r.dec.length≤2)→(decU ps).length≤2*ps.length
 | [],_=>by simp [decU]
 | r::ps,h=>by
  have h1:=h r (by simp)
  have h2:=decU_len (ps:=ps) (fun x hx=>h x (List.mem_cons_of_mem _ hx))
  have e:decU (r::ps)=(r.dec.map fun n:Nat=>(n:Int))++decU ps:=by simp [decU]
  rw [e]
  simp
  omega
def cycB (ps:List Uc.Pr):Bool:=ps.any fun r=>decide (r.a∈rch (dcf ps) 5000 0 (dcf ps r.a))
theorem cyc_iff {ps:List Uc.Pr} (hg:Uc.Good ps) (hn:ps.length≤2000):cycB ps=true↔∃ r∈ps,Plus (dcf ps) r.a r.a:=by
 unfold cycB
 rw [List.any_eq_true]
 have hU:=decU_len (ps:=ps) (fun r hr=>(hg.2 r hr).2.2.2)
 constructor
 · rintro⟨r,hr,h⟩
   have:=dcf_two hg r.a
   exact⟨r,hr,(round_iff (U:=decU ps) dcf_U (by omega)).1 (of_decide_eq_true h)⟩
 · rintro⟨r,hr,h⟩
   have:=dcf_two hg r.a
   exact⟨r,hr,decide_eq_true ((round_iff (U:=decU ps) dcf_U (by omega)).2 h)⟩
theorem no_cyc {ps:List Uc.Pr} (hg:Uc.Good ps) (hf:FlatR ps) (hn:ps.length≤2000) (h:cycB ps=false) (c:Int):Ends (dcf ps) ps.length c:=by
 have h':=all_end (dec:=dcf ps) (K:=ps.map fun r=>r.a) (fun c hc=>dcf_key hf hc) (fun c hc hp=>by
  obtain⟨r,hr,rfl⟩:=List.mem_map.1 hc
  rw [(cyc_iff hg hn).2 ⟨r,hr,hp⟩] at h
  cases h) c
 rwa [List.length_map] at h'
def longB (ps:List Uc.Pr):Bool:=ps.any fun r=>decide (4<prt (dcf ps) ps.length r.a)
theorem long_iff {ps:List Uc.Pr} (hg:Uc.Good ps):longB ps=true↔∃ r∈ps,4<cnt (dcf ps) ps.length r.a:=by
 unfold longB
 rw [List.any_eq_true]
 constructor
 · rintro⟨r,hr,h⟩
   have:=(prt_cnt (dec:=dcf ps) (dcf_two hg) ps.length r.a).1
   exact⟨r,hr,by have:=of_decide_eq_true h;omega⟩
 · rintro⟨r,hr,h⟩
   have:=(prt_cnt (dec:=dcf ps) (dcf_two hg) ps.length r.a).1
   exact⟨r,hr,decide_eq_true (by omega)⟩
end Go.Proofs.YtmellioacefjjaaGreatDoor
namespace Go.Proofs.YtmellioacefjjaaGreatDoor
open Go.RowKit
theorem dots_at {l:List UInt8} {k:Nat} (hk:k+2≤l.length):Lib.occAt l [46,46] k=(decide (oct l k=46)&&decide (oct l (k+1)=46)):=by
 have h1:k<l.length:=by omega
 have h2:k+1<l.length:=by omega
 have e1:oct l k=(l[k].toNat:Int):=by unfold oct;rw [List.getD_eq_getElem?_getD,List.getElem?_eq_getElem h1];rfl
 have e2:oct l (k+1)=(l[k+1].toNat:Int):=by unfold oct;rw [List.getD_eq_getElem?_getD,List.getElem?_eq_getElem h2];rfl
 unfold Lib.occAt
 rw [List.drop_eq_getElem_cons h1,List.drop_eq_getElem_cons h2,e1,e2]
 have u:=fun a:UInt8=>u8_int a 46
 have v:∀ a:UInt8,((46:UInt8)==a)=decide ((a.toNat:Int)=46):=fun a=>by
  rw [Bool.eq_iff_iff,beq_iff_eq,decide_eq_true_iff]
  exact⟨fun h=>by rw [←h];rfl,fun h=>((u a).1 h).symm⟩
 simp [List.isPrefixOf,v]
theorem range_none {l:List UInt8} (h:Lib.index l [46,46] = -1):rangeOf l=match point l with | some a=>((a:Int),(a:Int),0) | none=>(0,0,13):=by
 unfold rangeOf
 rw [h]
 rfl
theorem range_hit {l:List UInt8} {k:Nat} (h:Lib.index l [46,46]=k):rangeOf l=match point (l.take k),point (l.drop (k+2)) with | some a,some b=>if b≤a then (0,0,14) else ((a:Int),(b:Int),0) | _,_=>(0,0,13):=by
 unfold rangeOf
 rw [h,if_pos (by omega)]
 rfl
theorem below_two {w wa wb:World} (ha:Below w.heap.size w wa) (hb:Below wa.heap.size wa wb):Below w.heap.size w wb:=ha.trans (hb.mono ha.size)
set_option maxRecDepth 100000 in
set_option maxHeartbeats 4000000 in
theorem range14 (l:List UInt8) (w:World) (hl:l.length≤1000000):Calls Tryz.prog 78 #[.string (bs l)] w fun e w'=>e=.returned (rgVal (rangeOf l))∧Below w.heap.size w w':=by
 have hsz:=bs_size l
 have hle:=hl
 obtain⟨n,hn⟩:∃ n,l.length=n:=⟨_,rfl⟩
 rw [hn] at hl hsz
 have HN:=Lib.hid hn
 have HLE:=Lib.hid hle
 clear hn hle
 go_enter Tryz.func78,Tryz.ntmps78
 go_wp2
 go_loop [5,6] (fun a i=>∃ k:Nat,a=.int .i64 (-1)∧i=.int .i64 k∧k≤n∧Lib.NoOcc l [46,46] k) (fun _ i=>n-(intOf i).toNat)
 case atStart=>exact⟨0,rfl,rfl,Nat.zero_le _,Lib.NoOcc.zero _ _⟩
 case round=>
  obtain⟨k,rfl,rfl,hkn,hno⟩:=hrel
  by_cases hlt:k+2≤n
  · have hocc:=dots_at (l:=l) (k:=k) (by rw [HN.out];exact hlt)
    have hx:=bs_oct l k
    have hx2:=bs_oct l (k+1)
    obtain⟨X,hX⟩:∃ X,oct l k=X:=⟨_,rfl⟩
    obtain⟨Y,hY⟩:∃ Y,oct l (k+1)=Y:=⟨_,rfl⟩
    rw [hX,hY] at hocc
    rw [hX] at hx
    rw [hY] at hx2
    clear hX hY
    by_cases hyes:X=46∧Y=46
    · obtain⟨rfl,rfl⟩:=hyes
      have hidx:Lib.index l [46,46]=k:=Lib.index_hit hno (by rw [HN.out];exact hkn) (by rw [hocc];rfl)
      have hr:=range_hit hidx
      have c12:=fun w=>point12 (l.take k) w (by rw [List.length_take];have:=HLE.out;omega)
      have d12:=fun w=>point12 (l.drop (k+2)) w (by rw [List.length_drop];have:=HLE.out;omega)
      have e1:(bs l).extract 0 k=bs (l.take k):=by rw [bs_ext];simp
      have e2:(bs l).extract (k+2) n=bs (l.drop (k+2)):=by rw [bs_ext,←HN.out,List.take_of_length_le (by simp)]
      obtain⟨S1,hS1⟩:∃ S,bs (l.take k)=S:=⟨_,rfl⟩
      obtain⟨S2,hS2⟩:∃ S,bs (l.drop (k+2))=S:=⟨_,rfl⟩
      obtain⟨p,hp⟩:∃ p,point (l.take k)=p:=⟨_,rfl⟩
      obtain⟨q,hq⟩:∃ q,point (l.drop (k+2))=q:=⟨_,rfl⟩
      rw [hS1] at e1
      rw [hS2] at e2
      rw [hp,hq] at hr
      simp only [hS1,hp] at c12
      simp only [hS2,hq] at d12
      clear hocc hno hidx hS1 hS2 hp hq HLE
      have hcase:∃ r:Int×Int×Int,rangeOf l=r∧((ptI p<0∧r=(0,0,13))∨(0≤ptI p∧ptI q<0∧r=(0,0,13))∨(0≤ptI p∧0≤ptI q∧ptI q≤ptI p∧r=(0,0,14))∨(0≤ptI p∧0≤ptI q∧ptI p<ptI q∧r=(ptI p,ptI q,0))):=by
       refine⟨_,rfl,?_⟩
       rw [hr]
       cases p with
       | none=>exact .inl ⟨by decide,rfl⟩
       | some a=>
        cases q with
        | none=>exact .inr (.inl ⟨by simp [ptI],by decide,rfl⟩)
        | some b=>
         by_cases hba:b≤a
         · exact .inr (.inr (.inl ⟨by simp [ptI],by simp [ptI],by simp [ptI];exact hba,by simp [hba]⟩))
         · exact .inr (.inr (.inr ⟨by simp [ptI],by simp [ptI],by simp [ptI];omega,by simp [hba,ptI]⟩))
      obtain⟨r,hr2,hcase⟩:=hcase
      have HR:=Lib.hid hr2
      clear hr hr2
      obtain⟨A,hA⟩:∃ A,ptI p=A:=⟨_,rfl⟩
      obtain⟨B,hB⟩:∃ B,ptI q=B:=⟨_,rfl⟩
      rw [hA,hB] at hcase
      simp only [hA] at c12
      simp only [hB] at d12
      clear hA hB p q
      have w1:IntKind.i64.wrap (↑k+2) = ↑k+2:=IntWalk.i64_in _ (by omega)
      have w2:(0:Int) ≤ ↑k+2:=by omega
      have w3:((k:Int)+2).toNat=k+2:=by omega
      rcases hcase with ⟨a1,rfl⟩ | ⟨a1,a2,rfl⟩ | ⟨a1,a2,a3,rfl⟩ | ⟨a1,a2,a3,rfl⟩
      all_goals
       go_wp2
       go_region_with (first
        | (go_at_call 81;(with_reducible refine (c12 _).mono ?_);rintro e wa ⟨rfl,hba⟩)
        | (go_at_call 81;(with_reducible refine (d12 _).mono ?_);rintro e wb ⟨rfl,hbb⟩))
       all_goals
        go_wp2
        go_ret3
        refine⟨by rw [HR.out];rfl,?_⟩
        first
        | exact below_two (w:=w) ⟨hba.os,hba.tape,hba.output,hba.size,hba.block⟩ hbb
        | exact below_two (w:=w) ⟨hbb.os,hbb.tape,hbb.output,hbb.size,hbb.block⟩ hba
    · have hno2:Lib.NoOcc l [46,46] (k+1):=hno.succ (by rw [hocc];simp;intro h h2;exact hyes ⟨h,h2⟩)
      have HNO:=Lib.hid hno2
      clear hno hno2 hocc
      by_cases h1:X=46
      · subst h1
        have h2:¬Y=46:=fun h=>hyes ⟨rfl,h⟩
        have h2b:(Y==46)=false:=beq_false_of_ne h2
        clear hyes
        go_wp2
        go_round
        case rel=>exact⟨k+1,rfl,by go_num,by omega,HNO.out⟩
        case measure=>simp [intOf];omega
      · have h1b:(X==46)=false:=beq_false_of_ne h1
        clear hyes hx2
        go_wp2
        go_round
        case rel=>exact⟨k+1,rfl,by go_num,by omega,HNO.out⟩
        case measure=>simp [intOf];omega
  · have hidx:Lib.index l [46,46] = -1:=Lib.index_past (by simp) hno (by rw [HN.out];simp;omega)
    have hr:=range_none hidx
    have c12:=fun w=>point12 l w HLE.out
    cases hp:point l with
    | none=>
     rw [hp] at hr
     simp only [hp,ptI] at c12
     have HR:=Lib.hid hr
     clear hr hidx hno hp
     go_wp2_with (go_at_call 81;(with_reducible refine (c12 _).mono ?_);rintro e wa ⟨rfl,hba⟩)
     go_ret3
     exact⟨by rw [HR.out];rfl,hba⟩
    | some a=>
     rw [hp] at hr
     simp only [hp,ptI] at c12
     have HR:=Lib.hid hr
     clear hr hidx hno hp
     go_wp2_with (go_at_call 81;(with_reducible refine (c12 _).mono ?_);rintro e wa ⟨rfl,hba⟩)
     go_ret3
     exact⟨by rw [HR.out];rfl,hba⟩
end Go.Proofs.YtmellioacefjjaaGreatDoor
namespace Go.Proofs.YtmellioacefjjaaGreatDoor.Pq
open Go.RowKit
theorem info44:(Tryz.prog.info? 91).map (fun i=>(i.zero,i.size,i.bytes))=some (some (.agg #[.int .i64 0,.int .i64 0,.string ⟨#[]⟩]),3,32):=by kernel_rfl
def SrtRel (ls:List Sp) (w:World) (v i:Value) (wr:World):Prop:=
 Below w.heap.size w wr∧∃ k:Nat,i=.int .i64 k∧k≤ls.length∧wr.ownsRow w.heap.size 91 3 v k (spvs (sorted (ls.take k)))
def SrtPost (ls:List Sp) (w:World) (e:Ending) (w':World):Prop:=
 Below w.heap.size w w'∧∃ A ca,e=.returned (.slice A ls.length ca)∧(A=none→ca=0)∧SAt w' A ls.length (sorted ls)
theorem own_sat' {w:World} {base n:Nat} {e:TypeId} {v:Value} {ls:List Sp} (hl:ls.length=n) (ho:w.ownsRow base e 3 v n (spvs ls)):(v=.slice none 0 0∧n=0)∨∃ g c,v=.slice (some ⟨g,0,none⟩) n c∧n≤c∧g<w.heap.size∧SAt w (some ⟨g,0,none⟩) n ls:=by
 subst hl
 rcases ho.2 with ⟨rfl,h0⟩ | ⟨g,cap,cur,rfl,_,hg,hcap,_⟩
 · exact .inl ⟨rfl,h0⟩
 · obtain⟨A,c,e,hc,hS,_⟩:=own_sat ho
   injection e with e1 e2 e3
   subst e1 e3
   exact .inr ⟨g,cap,rfl,hcap,(Array.getElem?_eq_some_iff.1 hg).1,hS⟩
theorem mx {a:Nat} (h:a≤200000):a≤maxLen:=by unfold maxLen;omega
theorem my {a:Nat} (h:a≤200000):a*32≤140737488355328:=by omega
theorem own_base {w:World} {b b':Nat} {e:TypeId} {size n:Nat} {v:Value} {xs:List Value} (h:w.ownsRow b e size v n xs) (hb:b'≤b):w.ownsRow b' e size v n xs:=by
 refine⟨h.1,?_⟩
 rcases h.2 with hn | ⟨g,cap,cur,rfl,hg,rest⟩
 · exact .inl hn
 · exact .inr ⟨g,cap,cur,rfl,Nat.le_trans hb hg,rest⟩
theorem srt_fin {os:List Sp} {s:Sp} {J:Nat} {T:ByteArray} (hI:ins s os=os.take J++s::os.drop J) (hT:bs s.v=T):([]++spvs (os.take J) ++ [.int .i64 s.a,.int .i64 s.b,.string T])++spvs (os.drop J)=spvs (ins s os):=by
 rw [hI,←hT,List.nil_append,spvs_snoc,spvs_app]
 simp
theorem srt_rel {ls os:List Sp} {s:Sp} {J k n:Nat} {T:ByteArray} {w W w3:World} {v:Value} (hI:ins s os=os.take J++s::os.drop J) (hT:bs s.v=T) (hS:sorted (ls.take (k+1))=ins s os) (hk:k<ls.length) (hb:Below w.heap.size w W) (hb3:Below W.heap.size W w3)
 (hn:n=k+1) (ho:w3.ownsRow W.heap.size 91 3 v n (([]++spvs (os.take J) ++ [.int .i64 s.a,.int .i64 s.b,.string T])++spvs (os.drop J))):SrtRel ls w v (.int .i64 ((k:Int)+1)) w3:=by
 rw [srt_fin hI hT,←hS,hn] at ho
 exact⟨hb.trans (hb3.mono hb.size),k+1,by go_num,hk,own_base ho hb.size⟩
set_option maxRecDepth 100000 in
set_option maxHeartbeats 2500000 in
theorem sorted24 (A:Option Addr) (n ca:Nat) (ls:List Sp) (w:World) (hV:SAt w A n ls) (hn:n≤100000):
 Calls Tryz.prog 80 #[.slice A n ca] w (SrtPost ls w):=by
 obtain⟨i0,hi,hz0,hz1,hz2⟩:=info_parts info44
 have HV:=Lib.hid hV
 have HL:=Lib.hid hV.1
 clear hV
 go_enter Tryz.func80,Tryz.ntmps80
 go_wp2
 go_loopw [3,4] (fun v i wr=>SrtRel ls w v i wr) (fun _ i _=>n-(intOf i).toNat)
 case atStart=>exact⟨Below.refl _ _,0,rfl,Nat.zero_le _,World.ownsRow_nil _ _ _ _⟩
 case round=>
  obtain⟨hbel,k,rfl,hkn,hown⟩:=hrel
  rw [HL.out] at hkn
  have hol:(sorted (ls.take k)).length=k:=by rw [sorted_length,List.length_take,HL.out];omega
  by_cases hlt:k<n
  · obtain⟨b,off,rfl,hblt,hc⟩:=(HV.out.below hbel).2 (by omega)
    obtain⟨s,hs⟩:=getSp (ls:=ls) (k:=k) (by rw [HL.out];exact hlt)
    obtain⟨h1,h2,h3⟩:=hc k s hs
    have HSO:=Lib.hid (take_sorted hs)
    have hlow:=sorted_low (ls.take k)
    obtain⟨os,hos⟩:∃ os,sorted (ls.take k)=os:=⟨_,rfl⟩
    rw [hos] at hown hol HSO hlow
    have HLOW:=Lib.hid hlow
    have HOL:=Lib.hid hol
    have HOW:=Lib.hid hown
    clear hc hs hos hlow
    rcases own_sat' hol hown with ⟨rfl,h0⟩ | ⟨g,c,rfl,hkc,hg,hS⟩
    · obtain rfl:os = []:=List.eq_nil_of_length_eq_zero (by rw [hol];exact h0)
      have H0:=Lib.hid h0
      clear hol hown HOW h0
      obtain⟨T,hT⟩:∃ T,bs s.v=T:=⟨_,rfl⟩
      rw [hT] at h3
      have HT:=Lib.hid hT
      clear hT
      go_wp2
      go_loopw [5] (fun i wq=>∃ q:Nat,i=.int .i64 0∧wq=wr.drewN q) (fun i _=>(intOf i).toNat)
      case atStart=>exact⟨0,rfl,rfl⟩
      case round=>
       obtain⟨q,rfl,rfl⟩:=hrel
       have HI:=Lib.hid (ins_at (s:=s) (l:=[]) (k:=0) (Nat.le_refl _) (by simp) (by simp))
       go_wp2
       go_quiet (fail)
       have n1:0+0≤200000:=by have:=H0.out;omega
       have n2:0+0+1≤200000:=by have:=H0.out;omega
       have n3:0+0+1+0≤200000:=by have:=H0.out;omega
       have nk:0+0+1+0=k+1:=by have:=H0.out;omega
       have NK:=Lib.hid nk
       clear nk
       have hW:Below wr.heap.size wr ((wr.drewN q).drewN nq):=below_drewN (below_drewN (Below.refl _ _) q) nq
       have hbw:=hbel.trans (hW.mono hbel.size)
       obtain⟨W,hWW⟩:∃ W,(wr.drewN q).drewN nq=W:=⟨_,rfl⟩
       rw [hWW] at hW hbw ⊢
       have HST:Hid (SAt W none 0 (List.take 0 ([]:List Sp))):=Lib.hid (SAt.nil _ _)
       have HSD:Hid (SAt W none 0 (List.drop 0 ([]:List Sp))):=Lib.hid (SAt.nil _ _)
       have c1:=(hW.cell (p:=⟨b,off+k*3,none⟩) hblt).trans h1
       have c2:=(hW.cell (p:=⟨b,off+k*3+1,none⟩) hblt).trans h2
       have c3:=(hW.cell (p:=⟨b,off+k*3+2,none⟩) hblt).trans h3
       have hbW:b<W.heap.size:=Nat.lt_of_lt_of_le hblt hW.size
       have m1:=mx n1
       have m2:=my n1
       have m3:=mx n2
       have m4:=my n2
       have m5:=mx n3
       have m6:=my n3
       clear hWW h1 h2 h3 hW
       go_wp2_with (first
        | (at_builtin;refine append_spans rfl _ _ 50 rfl W.heap.size 91 i0 (.agg #[.int .i64 0,.int .i64 0,.string ⟨#[]⟩]) 32 Tryz.underlying50 hi hz0 hz1 hz2 rfl (.slice none 0 0) 0 [] rfl (World.ownsRow_nil _ _ _ _) none 0 0 (List.take 0 ([]:List Sp)) rfl HST.out (fun _=>rfl) m1 m2 (Nat.le_refl _) ?_;intro v1 w1 ho1 hg1;have hb1:Below W.heap.size W w1:=(Below.refl _ _).grown hg1 (Nat.le_refl _) (fun g h=>by cases h);have d1:=(hb1.cell (p:=⟨b,off+k*3,none⟩) hbW).trans c1;have d2:=(hb1.cell (p:=⟨b,off+k*3+1,none⟩) hbW).trans c2;have d3:=(hb1.cell (p:=⟨b,off+k*3+2,none⟩) hbW).trans c3;have hs1:=hb1.size)
        | (at_builtin;refine append_lit rfl _ _ 50 rfl W.heap.size 91 i0 (.agg #[.int .i64 0,.int .i64 0,.string ⟨#[]⟩]) 3 32 Tryz.underlying50 hi hz0 hz1 hz2 rfl (by decide) _ _ _ rfl ho1 [.int .i64 s.a,.int .i64 s.b,.string T] rfl (by simp [Value.oneCell']) rfl m3 m4 hs1 ?_;intro v2 w2 ho2 hg2;have hb2:=hg2 _ _ hb1 (Nat.le_refl _);have hs2:=hb2.size;have HS3:=Lib.hid (HSD.out.below hb2))
        | (at_builtin;refine append_spans rfl _ _ 50 rfl W.heap.size 91 i0 (.agg #[.int .i64 0,.int .i64 0,.string ⟨#[]⟩]) 32 Tryz.underlying50 hi hz0 hz1 hz2 rfl _ _ _ rfl ho2 none 0 0 (List.drop 0 ([]:List Sp)) rfl HS3.out (fun _=>rfl) m5 m6 hs2 ?_;intro v3 w3 ho3 hg3;have hb3:=hb2.grown hg3 hs2 (fun g h=>(ho2.lt g h).1)))
       go_roundw
       case rel=>exact srt_rel HI.out HT.out HSO.out (by rw [HL.out];exact hlt) hbw hb3 NK.out ho3
       case measure=>simp [intOf];omega
    · have HS:=Lib.hid hS
      clear hS hol hown
      obtain⟨T,hT⟩:∃ T,bs s.v=T:=⟨_,rfl⟩
      rw [hT] at h3
      have HT:=Lib.hid hT
      clear hT
      go_wp2
      go_loopw [5] (fun i wq=>∃ j q:Nat,i=.int .i64 j∧j≤k∧wq=wr.drewN q∧∀ t,(os.drop j).head? = some t→s.a<t.a) (fun i _=>(intOf i).toNat)
      case atStart=>exact⟨k,0,rfl,Nat.le_refl _,rfl,fun t ht=>by rw [List.drop_of_length_le (by rw [HOL.out];exact Nat.le_refl _)] at ht;cases ht⟩
      case round=>
       obtain⟨j,q,rfl,hjk,rfl,hhead⟩:=hrel
       rcases j with - | j
       · have HI:=Lib.hid (ins_at (s:=s) (l:=os) (k:=0) (Nat.zero_le _) (by simp) hhead)
         clear hhead
         go_wp2
         go_quiet (fail)
         have n1:0+0≤200000:=by omega
         have n2:0+0+1≤200000:=by omega
         have n3:0+0+1+k≤200000:=by omega
         have nk:0+0+1+k=k+1:=by omega
         have NK:=Lib.hid nk
         clear nk
         have hW:Below wr.heap.size wr ((wr.drewN q).drewN nq):=below_drewN (below_drewN (Below.refl _ _) q) nq
         have hbw:=hbel.trans (hW.mono hbel.size)
         obtain⟨W,hWW⟩:∃ W,(wr.drewN q).drewN nq=W:=⟨_,rfl⟩
         rw [hWW] at hW hbw ⊢
         have hSW:=HS.out.below hW
         have HST:=Lib.hid (hSW.take (k:=0) (by omega))
         have HSD:Hid (SAt W (some ⟨g,0,none⟩) k (List.drop 0 os)):=Lib.hid (by simpa using hSW)
         clear hSW
         have c1:=(hW.cell (p:=⟨b,off+k*3,none⟩) hblt).trans h1
         have c2:=(hW.cell (p:=⟨b,off+k*3+1,none⟩) hblt).trans h2
         have c3:=(hW.cell (p:=⟨b,off+k*3+2,none⟩) hblt).trans h3
         have hbW:b<W.heap.size:=Nat.lt_of_lt_of_le hblt hW.size
         have m1:=mx n1
         have m2:=my n1
         have m3:=mx n2
         have m4:=my n2
         have m5:=mx n3
         have m6:=my n3
         clear hWW h1 h2 h3 hW
         go_wp2_with (first
          | (at_builtin;refine append_spans rfl _ _ 50 rfl W.heap.size 91 i0 (.agg #[.int .i64 0,.int .i64 0,.string ⟨#[]⟩]) 32 Tryz.underlying50 hi hz0 hz1 hz2 rfl (.slice none 0 0) 0 [] rfl (World.ownsRow_nil _ _ _ _) (some ⟨g,0,none⟩) 0 c (List.take 0 os) rfl HST.out (fun h=>by cases h) m1 m2 (Nat.le_refl _) ?_;intro v1 w1 ho1 hg1;have hb1:Below W.heap.size W w1:=(Below.refl _ _).grown hg1 (Nat.le_refl _) (fun g h=>by cases h);have d1:=(hb1.cell (p:=⟨b,off+k*3,none⟩) hbW).trans c1;have d2:=(hb1.cell (p:=⟨b,off+k*3+1,none⟩) hbW).trans c2;have d3:=(hb1.cell (p:=⟨b,off+k*3+2,none⟩) hbW).trans c3;have hs1:=hb1.size)
          | (at_builtin;refine append_lit rfl _ _ 50 rfl W.heap.size 91 i0 (.agg #[.int .i64 0,.int .i64 0,.string ⟨#[]⟩]) 3 32 Tryz.underlying50 hi hz0 hz1 hz2 rfl (by decide) _ _ _ rfl ho1 [.int .i64 s.a,.int .i64 s.b,.string T] rfl (by simp [Value.oneCell']) rfl m3 m4 hs1 ?_;intro v2 w2 ho2 hg2;have hb2:=hg2 _ _ hb1 (Nat.le_refl _);have hs2:=hb2.size;have HS3:=Lib.hid (HSD.out.below hb2))
          | (at_builtin;refine append_spans rfl _ _ 50 rfl W.heap.size 91 i0 (.agg #[.int .i64 0,.int .i64 0,.string ⟨#[]⟩]) 32 Tryz.underlying50 hi hz0 hz1 hz2 rfl _ _ _ rfl ho2 (some ⟨g,0,none⟩) k c (List.drop 0 os) rfl HS3.out (fun h=>by cases h) m5 m6 hs2 ?_;intro v3 w3 ho3 hg3;have hb3:=hb2.grown hg3 hs2 (fun g h=>(ho2.lt g h).1)))
         go_roundw
         case rel=>exact srt_rel HI.out HT.out HSO.out (by rw [HL.out];exact hlt) hbw hb3 NK.out ho3
         case measure=>simp [intOf];omega
       · obtain⟨t,ht⟩:=getSp (ls:=os) (k:=j) (by rw [HOL.out];omega)
         obtain⟨b2,off2,e2,-,hc2⟩:=HS.out.2 (by omega)
         cases e2
         obtain⟨k1,-,-⟩:=hc2 j t ht
         rw [Nat.zero_add] at k1
         clear hc2
         by_cases hgt:s.a<t.a
         · have HD:=Lib.hid (drop_head ht hgt)
           have w1:IntKind.i64.wrap ((j:Int)+1-1)=j:=by rw [Int.add_sub_cancel];exact IntWalk.i64_in _ (by omega)
           have w2:IntKind.i64.wrap (j:Int)=j:=IntWalk.i64_in _ (by omega)
           clear hhead ht
           go_wp2
           go_quiet (fail)
           go_wp2
           clear w1 w2
           go_roundw
           case rel=>exact⟨j,_,by go_num,by omega,rfl,HD.out⟩
           case measure=>simp [intOf]
         · have HI:=Lib.hid (ins_at (s:=s) (l:=os) (k:=j+1) (by rw [HOL.out];omega) (low_take HLOW.out ht (by omega)) hhead)
           have hgd:decide (s.a<t.a)=false:=decide_eq_false hgt
           clear hhead ht
           by_cases hcc:c=j+1
           · subst hcc
             have w1:IntKind.i64.wrap ((j:Int)+1-1)=j:=by rw [Int.add_sub_cancel];exact IntWalk.i64_in _ (by omega)
             have w2:IntKind.i64.wrap (j:Int)=j:=IntWalk.i64_in _ (by omega)
             go_wp2
             go_quiet (fail)
             clear w1 w2 k1
             have n1:0+(j+1)≤200000:=by omega
             have n2:0+(j+1)+1≤200000:=by omega
             have n3:0+(j+1)+1+0≤200000:=by omega
             have nk:0+(j+1)+1+0=k+1:=by omega
             have NK:=Lib.hid nk
             clear nk
             have hW:Below wr.heap.size wr ((wr.drewN q).drewN nq):=below_drewN (below_drewN (Below.refl _ _) q) nq
             have hbw:=hbel.trans (hW.mono hbel.size)
             obtain⟨W,hWW⟩:∃ W,(wr.drewN q).drewN nq=W:=⟨_,rfl⟩
             rw [hWW] at hW hbw ⊢
             have hSW:=HS.out.below hW
             have HST:=Lib.hid (hSW.take (k:=j+1) (by omega))
             have HSD:Hid (SAt W (some ⟨g,0,none⟩) 0 (List.drop (j+1) os)):=Lib.hid ⟨by rw [List.length_drop,HOL.out];omega,fun h=>absurd h (by omega)⟩
             clear hSW
             have c1:=(hW.cell (p:=⟨b,off+k*3,none⟩) hblt).trans h1
             have c2:=(hW.cell (p:=⟨b,off+k*3+1,none⟩) hblt).trans h2
             have c3:=(hW.cell (p:=⟨b,off+k*3+2,none⟩) hblt).trans h3
             have hbW:b<W.heap.size:=Nat.lt_of_lt_of_le hblt hW.size
             have m1:=mx n1
             have m2:=my n1
             have m3:=mx n2
             have m4:=my n2
             have m5:=mx n3
             have m6:=my n3
             clear hWW h1 h2 h3 hW
             go_wp2_with (first
              | (at_builtin;refine append_spans rfl _ _ 50 rfl W.heap.size 91 i0 (.agg #[.int .i64 0,.int .i64 0,.string ⟨#[]⟩]) 32 Tryz.underlying50 hi hz0 hz1 hz2 rfl (.slice none 0 0) 0 [] rfl (World.ownsRow_nil _ _ _ _) (some ⟨g,0,none⟩) (j+1) (j+1) (List.take (j+1) os) rfl HST.out (fun h=>by cases h) m1 m2 (Nat.le_refl _) ?_;intro v1 w1 ho1 hg1;have hb1:Below W.heap.size W w1:=(Below.refl _ _).grown hg1 (Nat.le_refl _) (fun g h=>by cases h);have d1:=(hb1.cell (p:=⟨b,off+k*3,none⟩) hbW).trans c1;have d2:=(hb1.cell (p:=⟨b,off+k*3+1,none⟩) hbW).trans c2;have d3:=(hb1.cell (p:=⟨b,off+k*3+2,none⟩) hbW).trans c3;have hs1:=hb1.size)
              | (at_builtin;refine append_lit rfl _ _ 50 rfl W.heap.size 91 i0 (.agg #[.int .i64 0,.int .i64 0,.string ⟨#[]⟩]) 3 32 Tryz.underlying50 hi hz0 hz1 hz2 rfl (by decide) _ _ _ rfl ho1 [.int .i64 s.a,.int .i64 s.b,.string T] rfl (by simp [Value.oneCell']) rfl m3 m4 hs1 ?_;intro v2 w2 ho2 hg2;have hb2:=hg2 _ _ hb1 (Nat.le_refl _);have hs2:=hb2.size;have HS3:=Lib.hid (HSD.out.below hb2))
              | (at_builtin;refine append_spans rfl _ _ 50 rfl W.heap.size 91 i0 (.agg #[.int .i64 0,.int .i64 0,.string ⟨#[]⟩]) 32 Tryz.underlying50 hi hz0 hz1 hz2 rfl _ _ _ rfl ho2 (some ⟨g,0,none⟩) 0 0 (List.drop (j+1) os) rfl HS3.out (fun h=>by cases h) m5 m6 hs2 ?_;intro v3 w3 ho3 hg3;have hb3:=hb2.grown hg3 hs2 (fun g h=>(ho2.lt g h).1)))
             go_roundw
             case rel=>exact srt_rel HI.out HT.out HSO.out (by rw [HL.out];exact hlt) hbw hb3 NK.out ho3
             case measure=>simp [intOf];omega
           · have w1:IntKind.i64.wrap ((j:Int)+1-1)=j:=by rw [Int.add_sub_cancel];exact IntWalk.i64_in _ (by omega)
             have w2:IntKind.i64.wrap (j:Int)=j:=IntWalk.i64_in _ (by omega)
             have hcb:(c==j+1)=false:=beq_false_of_ne hcc
             go_wp2
             go_quiet (fail)
             clear w1 w2 k1
             have n1:0+(j+1)≤200000:=by omega
             have n2:0+(j+1)+1≤200000:=by omega
             have n3:0+(j+1)+1+(k-(j+1))≤200000:=by omega
             have nk:0+(j+1)+1+(k-(j+1))=k+1:=by omega
             have NK:=Lib.hid nk
             clear nk
             have hW:Below wr.heap.size wr ((wr.drewN q).drewN nq):=below_drewN (below_drewN (Below.refl _ _) q) nq
             have hbw:=hbel.trans (hW.mono hbel.size)
             obtain⟨W,hWW⟩:∃ W,(wr.drewN q).drewN nq=W:=⟨_,rfl⟩
             rw [hWW] at hW hbw ⊢
             have hSW:=HS.out.below hW
             have HST:=Lib.hid (hSW.take (k:=j+1) (by omega))
             have HSD:Hid (SAt W (some ⟨g,(j+1)*3,none⟩) (k-(j+1)) (List.drop (j+1) os)):=Lib.hid (by simpa using hSW.drop (k:=j+1) (by omega))
             clear hSW
             have c1:=(hW.cell (p:=⟨b,off+k*3,none⟩) hblt).trans h1
             have c2:=(hW.cell (p:=⟨b,off+k*3+1,none⟩) hblt).trans h2
             have c3:=(hW.cell (p:=⟨b,off+k*3+2,none⟩) hblt).trans h3
             have hbW:b<W.heap.size:=Nat.lt_of_lt_of_le hblt hW.size
             have m1:=mx n1
             have m2:=my n1
             have m3:=mx n2
             have m4:=my n2
             have m5:=mx n3
             have m6:=my n3
             clear hWW h1 h2 h3 hW
             go_wp2_with (first
              | (at_builtin;refine append_spans rfl _ _ 50 rfl W.heap.size 91 i0 (.agg #[.int .i64 0,.int .i64 0,.string ⟨#[]⟩]) 32 Tryz.underlying50 hi hz0 hz1 hz2 rfl (.slice none 0 0) 0 [] rfl (World.ownsRow_nil _ _ _ _) (some ⟨g,0,none⟩) (j+1) c (List.take (j+1) os) rfl HST.out (fun h=>by cases h) m1 m2 (Nat.le_refl _) ?_;intro v1 w1 ho1 hg1;have hb1:Below W.heap.size W w1:=(Below.refl _ _).grown hg1 (Nat.le_refl _) (fun g h=>by cases h);have d1:=(hb1.cell (p:=⟨b,off+k*3,none⟩) hbW).trans c1;have d2:=(hb1.cell (p:=⟨b,off+k*3+1,none⟩) hbW).trans c2;have d3:=(hb1.cell (p:=⟨b,off+k*3+2,none⟩) hbW).trans c3;have hs1:=hb1.size)
              | (at_builtin;refine append_lit rfl _ _ 50 rfl W.heap.size 91 i0 (.agg #[.int .i64 0,.int .i64 0,.string ⟨#[]⟩]) 3 32 Tryz.underlying50 hi hz0 hz1 hz2 rfl (by decide) _ _ _ rfl ho1 [.int .i64 s.a,.int .i64 s.b,.string T] rfl (by simp [Value.oneCell']) rfl m3 m4 hs1 ?_;intro v2 w2 ho2 hg2;have hb2:=hg2 _ _ hb1 (Nat.le_refl _);have hs2:=hb2.size;have HS3:=Lib.hid (HSD.out.below hb2))
              | (at_builtin;refine append_spans rfl _ _ 50 rfl W.heap.size 91 i0 (.agg #[.int .i64 0,.int .i64 0,.string ⟨#[]⟩]) 32 Tryz.underlying50 hi hz0 hz1 hz2 rfl _ _ _ rfl ho2 (some ⟨g,(j+1)*3,none⟩) (k-(j+1)) (c-(j+1)) (List.drop (j+1) os) rfl HS3.out (fun h=>by cases h) m5 m6 hs2 ?_;intro v3 w3 ho3 hg3;have hb3:=hb2.grown hg3 hs2 (fun g h=>(ho2.lt g h).1)))
             go_roundw
             case rel=>exact srt_rel HI.out HT.out HSO.out (by rw [HL.out];exact hlt) hbw hb3 NK.out ho3
             case measure=>simp [intOf];omega
  · have hke:k=n:=by omega
    subst hke
    rw [List.take_of_length_le (by rw [HL.out];exact Nat.le_refl _)] at hown
    have HOW:=Lib.hid hown
    clear hown
    go_wp2
    go_ret
    have hl2:(sorted ls).length=k:=by rw [sorted_length,HL.out]
    have ho:=HOW.out
    rw [←hl2] at ho
    obtain⟨A2,c2,rfl,_,hS2,hA2⟩:=own_sat ho
    refine⟨hbel,A2,c2,?_,hA2,?_⟩
    · rw [HL.out,hl2];rfl
    · rw [HL.out,←hl2];exact hS2
end Go.Proofs.YtmellioacefjjaaGreatDoor.Pq
