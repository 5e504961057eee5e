/- A part. -/
import Derived.Test.YtmellioacefjjaaGreatDoorQA51
import Derived.Lib.SlBytesConst
namespace Go.Proofs.YtmellioacefjjaaGreatDoor
open Go.RowKit
attribute [local go_sem] Oper.semAt_some
def awA:Array Value:=(nums .u8 (ints (awF 0))).toArray
set_option maxRecDepth 100000 in
theorem awA_is:awA=#[.int .u8 48,.int .u8 48,.int .u8 67,.int .u8 53,.int .u8 59,.int .u8 65,.int .u8 32,.int .u8 82,.int .u8 73,.int .u8 78,.int .u8 71,.int .u8 59,.int .u8 76,.int .u8 117,.int .u8 59,.int .u8 48,.int .u8 59,.int .u8 76,.int .u8 59,.int .u8 48,.int .u8 48,.int .u8 52,.int .u8 49,.int .u8 32,.int .u8 48,.int .u8 51,.int .u8 48,.int .u8 65,.int .u8 59,.int .u8 59,.int .u8 59,.int .u8 59,.int .u8 78,.int .u8 59,.int .u8 59,.int .u8 59,.int .u8 59,.int .u8 48,.int .u8 48,.int .u8 69,.int .u8 53,.int .u8 59,.int .u8 10,.int .u8 48,.int .u8 51,.int .u8 48,.int .u8 65,.int .u8 59,.int .u8 82,.int .u8 73,.int .u8 78,.int .u8 71,.int .u8 59,.int .u8 77,.int .u8 110,.int .u8 59,.int .u8 50,.int .u8 51,.int .u8 48,.int .u8 59,.int .u8 78,.int .u8 83,.int .u8 77,.int .u8 59,.int .u8 59,.int .u8 59,.int .u8 59,.int .u8 59,.int .u8 78,.int .u8 59,.int .u8 59,.int .u8 59,.int .u8 59,.int .u8 59,.int .u8 10]:=by kernel_rfl
theorem mark_cell (w:World) (C:Array Value) (t:TypeId) (fr:Nat×Nat) (a:Addr):(w.alloc (.cells C t fr)).cell? a=(w.alloc (.cells C t)).cell? a:=by
 simp only [World.cell?,World.alloc,Array.getElem?_push]
 by_cases h:a.block=w.heap.size
 · simp only [h,if_true]
 · simp only [h,if_false]
theorem aw_octs (w:World):Octs (w.alloc (.cells awA 5 (75,76))) (some ⟨w.heap.size,0,none⟩) 75 (awF 0):=by
 have h:Octs (w.alloc (.cells awA 5)) (some ⟨w.heap.size,0,none⟩) 75 (awF 0):=vals_lit w (nums .u8 (ints (awF 0))) 5
 refine⟨h.1,fun hn=>?_⟩
 obtain⟨b,off,e,hl,hc⟩:=h.2 hn
 exact⟨b,off,e,by simpa using hl,fun j v hj=>(mark_cell w awA 5 (75,76) _).trans (hc j v hj)⟩
set_option maxRecDepth 100000 in
theorem awA_size:awA.size=75:=by kernel_rfl
theorem aw_conv (w:World):(convert 22 22 (.slice (some ⟨w.heap.size,0,none⟩) 75 75)).run Tryz.prog (w.alloc (.cells awA 5))=.ok (.slice (some ⟨w.heap.size,0,none⟩) 75 75) (w.alloc (.cells awA 5 (75,76))):=by
 have h:=Lib.run_convert_bytes_const (P:=Tryz.prog) w 22 5 awA 75 75 Tryz.underlying22 Tryz.underlying5
 rw [awA_size] at h
 exact h
set_option maxRecDepth 100000 in
theorem aw_stat:bs (statOf (awD.sp 2) 65)=⟨#[85,78,65,83,83,73,71,78,69,68]⟩:=by kernel_rfl
set_option maxRecDepth 100000 in
set_option maxHeartbeats 8000000 in
theorem awake7 (w:World) (hM:ML w) (hH:HanT w):Calls Tryz.prog 7 #[] w fun e w'=>e=.returned (.bool true)∧Below w.heap.size w w':=by
 have hb1:Below w.heap.size w (w.alloc (.cells awA 5 (75,76))):=(Below.refl _ _).alloc (Nat.le_refl _) _
 have c29:=load29 (some ⟨w.heap.size,0,none⟩) none none none none none none 75 0 0 0 0 0 0 75 0 0 0 0 0 0 awF (w.alloc (.cells awA 5 (75,76))) (aw_octs w) (Vals.nil _ _) (Vals.nil _ _) (Vals.nil _ _) (Vals.nil _ _) (Vals.nil _ _) (Vals.nil _ _) (by omega) aw_small (ml_on hM hb1) (hH.below hH.lt hb1)
 have d29:Calls Tryz.prog 29 #[.agg #[.slice (some ⟨w.heap.size,0,none⟩) 75 75,.slice none 0 0,.slice none 0 0,.slice none 0 0,.slice none 0 0,.slice none 0 0,.slice none 0 0]] (w.alloc (.cells awA 5 (75,76))) fun e W=>∃ b,e=.returned (.tuple #[.pointer (some ⟨b,0,none⟩),.agg #[.int .i64 0,.int .i64 0,.int .i64 0]])∧Hid (Below w.heap.size w W∧PF W b awD.ps awD.sp awD.cf∧PM W b awD.ms∧Szs awD.ps awD.sp):=c29.mono (by
  rintro e W ⟨hb,⟨d,b,hl,rfl,h1,h2,h3⟩ | ⟨x,hl,-⟩⟩
  · rw [aw_load] at hl
    injection hl with _ hl
    injection hl with hl
    subst hl
    exact⟨b,rfl,Lib.hid ⟨hb1.trans (hb.mono hb1.size),h1,h2,h3⟩⟩
  · rw [aw_load] at hl
    injection hl with _ hl
    cases hl)
 have D13:Hid (∀ W2 b o,(Below w.heap.size w W2∧PF W2 b awD.ps awD.sp awD.cf∧PM W2 b awD.ms∧Szs awD.ps awD.sp)→Calls Tryz.prog 13 #[.pointer (some ⟨b,0,none⟩),.int .i64 65,.int .i64 778] (W2.alloc o) fun e W=>e=.returned (.tuple #[.int .i64 197,.bool true])∧W2.alloc o=W):=Lib.hid (fun W2 b o ⟨g1,g2,g3,g4⟩=>
  (mak13 b awD.ms 65 778 (W2.alloc o) (g3.below ((Below.refl _ _).alloc (Nat.le_refl _) o)) (by decide) (by decide)).mono (by
   rintro e W ⟨rfl,rfl⟩
   exact⟨by rw [aw_make];rfl,rfl⟩))
 have D20:Hid (∀ W2 b o,(Below w.heap.size w W2∧PF W2 b awD.ps awD.sp awD.cf∧PM W2 b awD.ms∧Szs awD.ps awD.sp)→Calls Tryz.prog 20 #[.pointer (some ⟨b,0,none⟩),.int .i64 65] (W2.alloc o) fun e W=>e=.returned (.string ⟨#[85,78,65,83,83,73,71,78,69,68]⟩)∧Hid (Below w.heap.size w W)):=Lib.hid (fun W2 b o ⟨g1,g2,g3,g4⟩=>by
  have ha:Below W2.heap.size W2 (W2.alloc o):=(Below.refl _ _).alloc (Nat.le_refl _) o
  obtain⟨p,A,c,k1,k2⟩:=(g2.below ha).prs 2 (by omega)
  have hg:=g4.spg 2
  refine (sta20_at b p A c (awD.sp 2) 65 (W2.alloc o) k1 k2 (by have:=g4.spf 2;omega) hg.1 (fun t ht=>(hg.2 t ht).2.2.1)).mono ?_
  rintro e W ⟨rfl,hb⟩
  exact⟨by rw [aw_stat],Lib.hid (g1.trans ((ha.trans (hb.mono ha.size)).mono g1.size))⟩)
 have hcv:=aw_conv w
 rw [awA_is] at d29 hcv
 clear c29 hb1 hM hH
 go_enter Tryz.func7,Tryz.ntmps7
 go_wp2_with (first
  | (go_at_call 29;(with_reducible refine d29.mono ?_);rintro e W2 ⟨b,rfl,H2⟩)
  | (go_at_call 13;(with_reducible refine (D13.out W2 b _ H2.out).mono ?_);rintro e W3 ⟨rfl,rfl⟩)
  | (go_at_call 20;(with_reducible refine (D20.out W2 b _ H2.out).mono ?_);rintro e W4 ⟨rfl,H4⟩))
 go_ret
 exact⟨rfl,H4.out⟩
end Go.Proofs.YtmellioacefjjaaGreatDoor
namespace Go.Proofs.YtmellioacefjjaaGreatDoor
open Go.RowKit
def CmpRel (n:Nat) (w:World) (i:Value) (wr:World):Prop:=∃ k q:Nat,i=.int .i64 k∧k≤n∧wr=w.drewN q
set_option maxRecDepth 100000 in
set_option maxHeartbeats 1000000 in
theorem compare32 (A B:Option Addr) (n ca cb:Nat) (zs:List Int) (w:World) (hA:Vals w A n (nums .i64 zs)) (hB:Vals w B n (nums .i64 zs)) (hn:n≤1000000):
 Calls Tryz.prog 44 #[.slice A n ca,.slice B n cb] w fun e w'=>e=.returned (.int .i64 0)∧∃ q,w'=w.drewN q:=by
 have hl:zs.length=n:=by have:=hA.1;unfold nums at this;rwa [List.length_map] at this
 have HA:=Lib.hid hA
 have HB:=Lib.hid hB
 have HZ:=Lib.hid hl
 clear hA hB hl
 go_enter Tryz.func44,Tryz.ntmps44
 go_wp2
 go_loopw [5] (fun i wr=>CmpRel n w i wr) (fun i _=>n-(intOf i).toNat)
 case atStart=>exact⟨0,0,rfl,Nat.zero_le _,rfl⟩
 case round=>
  obtain⟨k,q,rfl,hkn,rfl⟩:=hrel
  by_cases hlt:k<n
  · obtain⟨b,off,rfl,-,hc⟩:=HA.out.2 (by omega)
    obtain⟨b2,off2,rfl,-,hc2⟩:=HB.out.2 (by omega)
    have h1:w.cell? ⟨b,off+k,none⟩=some (.int .i64 (zs.getD k 0)):=hc k _ (nums_get (by rw [HZ.out];exact hlt))
    have h2:w.cell? ⟨b2,off2+k,none⟩=some (.int .i64 (zs.getD k 0)):=hc2 k _ (nums_get (by rw [HZ.out];exact hlt))
    obtain⟨x,hx⟩:∃ x,zs.getD k 0=x:=⟨_,rfl⟩
    rw [hx] at h1 h2
    clear hc hc2 hx
    go_wp2
    go_quiet (fail)
    go_wp2
    go_quiet (fail)
    go_wp2
    go_roundw
    case rel=>exact⟨k+1,_,by go_num,by omega,rfl⟩
    case measure=>simp [intOf];omega
  · have hke:k=n:=by omega
    subst hke
    go_wp2
    go_ret
    exact⟨rfl,q,rfl⟩
set_option maxHeartbeats 1000000 in
theorem same17 (A B:Option Addr) (n ca cb:Nat) (zs:List Int) (w:World) (hA:Vals w A n (nums .i64 zs)) (hB:Vals w B n (nums .i64 zs)) (hn:n≤1000000):
 Calls Tryz.prog 24 #[.slice A n ca,.slice B n cb] w fun e w'=>e=.returned (.bool true)∧∃ q,w'=w.drewN q:=by
 have c:=compare32 A B n ca cb zs w hA hB hn
 clear hA hB
 go_enter Tryz.func24,Tryz.ntmps24
 go_wp2_with (go_at_call 44;(with_reducible refine c.mono ?_);rintro e w' ⟨rfl,q,rfl⟩)
 go_ret
 exact⟨rfl,q,rfl⟩
end Go.Proofs.YtmellioacefjjaaGreatDoor
namespace Go.Proofs.YtmellioacefjjaaGreatDoor
open Go.RowKit Go.Shelf Go.Sort
attribute [local go_sem] Oper.semAt_some
theorem scalar48 (c:Int) (w:World):Calls Tryz.prog 48 #[.int .i64 c] w fun e w'=>e=.returned (.bool (scal c))∧w=w':=by
 rcases scal_ways c with ⟨h,e⟩ | ⟨h,e⟩ | ⟨⟨h,h'⟩,e⟩ | ⟨⟨h,h'⟩,e⟩ | ⟨⟨h,h'⟩,e⟩
 all_goals
  rw [e]
  clear e
  go_enter Tryz.func48,Tryz.ntmps48
  go_wp2
  go_ret
  first | exact⟨rfl,rfl⟩ | exact⟨ret_b (by simp;omega),rfl⟩
theorem may47 (v:List UInt8) (w:World):Calls Tryz.prog 47 #[.string (bs v)] w fun e w'=>e=.returned (.bool (decide (v∈askV)))∧w=w':=by
 by_cases hask:v∈askV
 · have hS3:bs v=⟨#[80,86,65,76,73,68]⟩∨bs v=⟨#[67,79,78,84,69,88,84,74]⟩∨bs v=⟨#[67,79,78,84,69,88,84,79]⟩:=by
    have h:=hask
    simp only [askV,List.mem_cons,List.not_mem_nil,or_false] at h
    rcases h with e | e | e
    · exact .inl (by rw [e];rfl)
    · exact .inr (.inl (by rw [e];rfl))
    · exact .inr (.inr (by rw [e];rfl))
   rw [decide_eq_true hask]
   clear hask
   obtain⟨S,hSS⟩:∃ a,bs v=a:=⟨_,rfl⟩
   rw [hSS] at hS3 ⊢
   clear hSS
   rcases hS3 with rfl | rfl | rfl
   all_goals
    go_enter Tryz.func47,Tryz.ntmps47
    go_wp2
    go_ret
    exact⟨rfl,rfl⟩
 · rw [decide_eq_false hask]
   obtain⟨S,hSS⟩:∃ a,bs v=a:=⟨_,rfl⟩
   have hne:∀ t∈askV,(S.toList==t)=false:=fun t ht=>by
    rw [←hSS,bs_toList]
    exact beq_false_of_ne (fun e=>hask (e▸ht))
   have n1:(S.toList == [80,86,65,76,73,68])=false:=hne _ (by simp [askV])
   have n2:(S.toList == [67,79,78,84,69,88,84,74])=false:=hne _ (by simp [askV])
   have n3:(S.toList == [67,79,78,84,69,88,84,79])=false:=hne _ (by simp [askV])
   have m1:¬S.toList = [80,86,65,76,73,68]:=by simpa using n1
   have m2:¬S.toList = [67,79,78,84,69,88,84,74]:=by simpa using n2
   have m3:¬S.toList = [67,79,78,84,69,88,84,79]:=by simpa using n3
   rw [hSS]
   clear hask hSS hne
   go_enter Tryz.func47,Tryz.ntmps47
   go_wp2
   go_ret
   exact⟨rfl,rfl⟩
theorem ptsOf_snoc (pre:List Pq.Sp) (s:Pq.Sp):ptsOf (pre ++ [s])=ptS (ptsOf pre) s:=by unfold ptsOf;rw [List.foldl_append];rfl
theorem foldS_len:∀ (l:List Pq.Sp) (out:List Int),out.length≤4096→(l.foldl ptS out).length≤4096
 | [],_,h=>h
 | s::l,out,h=>by rw [List.foldl_cons];exact foldS_len l _ (ptS_len out s h)
theorem ptsOf_len (l:List Pq.Sp):(ptsOf l).length≤4096:=foldS_len l [] (by simp)
theorem foldS_full:∀ (l:List Pq.Sp) (out:List Int),out.length=4096→l.foldl ptS out=out
 | [],_,_=>rfl
 | s::l,out,h=>by
  have e:ptS out s=out:=by
   unfold ptS
   split
   · exact ptR_full (by omega)
   · rfl
  rw [List.foldl_cons,e];exact foldS_full l out h
theorem pts_full {pre l:List Pq.Sp} (hp:pre <+: l) (h:(ptsOf pre).length=4096):ptsOf l=ptsOf pre:=by
 obtain⟨r,rfl⟩:=hp
 have e:ptsOf (pre++r)=r.foldl ptS (ptsOf pre):=by unfold ptsOf;rw [List.foldl_append]
 rw [e,foldS_full r _ h]
def PnPost (l:List Pq.Sp) (w:World) (e:Ending) (w':World):Prop:=
 ∃ A c,e=.returned (.slice A (ptsOf l).length c)∧Hid (Below w.heap.size w w'∧Vals w' A (ptsOf l).length (nums .i64 (ptsOf l)))
def PgI (w:World) (base:Nat) (pre:List Pq.Sp) (W:World):Prop:=Pq.RowAt w.heap.size base 3 1 (ptsOf pre).length (nums .i64 (ptsOf pre)) W∧Below w.heap.size w W
def PgX (w:World) (base:Nat) (c:Code) (pre:List Pq.Sp) (W:World):Prop:=(c=.exit 0∧(ptsOf pre).length=4096)∧PgI w base pre W
theorem pgi_abide (w:World) (base B:Nat) (hB:w.heap.size≤B):Abide 0 0 B (PgI w base):=by
 intro pre W W' row ⟨h1,h2⟩ hg hr
 exact⟨Pq.row_abide (B:=B) (β:=Unit) (fun _=>(ptsOf pre).length) (fun _=>nums .i64 (ptsOf pre)) () W W' row h1 hg hr,abide_below (β:=Unit) w (.inr (by omega)) hB (Nat.le_refl _) () W W' row h2 hg hr⟩
theorem pgx_abide (w:World) (base B:Nat) (hB:w.heap.size≤B) (c:Code):Abide 0 0 B (PgX w base c):=by
 intro pre W W' row ⟨h0,h1⟩ hg hr
 exact⟨h0,pgi_abide w base B hB pre W W' row h1 hg hr⟩
def SpBt (t:Nat) (x:Pq.Sp) (b:Nat) (W:World):Prop:=
 (W.cell? ⟨b,0,none⟩=some (.int .i64 x.a)∧W.cell? ⟨b,1,none⟩=some (.int .i64 x.b)∧W.cell? ⟨b,2,none⟩=some (.string (bs x.v)))∧Pq.GA t W b
theorem spBt_abide (t:Nat) (x:Pq.Sp) (b B:Nat):Abide 0 0 B (fun (_:Unit) W=>SpBt t x b W):=by
 intro _ W W' row ⟨⟨h0,h1,h2⟩,h3⟩ hg hr
 exact⟨⟨Pq.cell_abide (β:=Unit) (B:=B) _ _ () W W' row h0 hg hr,Pq.cell_abide (β:=Unit) (B:=B) _ _ () W W' row h1 hg hr,Pq.cell_abide (β:=Unit) (B:=B) _ _ () W W' row h2 hg hr⟩,(Pq.ga_lets t).abide (β:=Unit) b B () W W' row h3 hg hr⟩
def PgL (w:World) (base b':Nat) (sb:Int) (fin:List Int) (Wb:World) (i:Value) (wr:World):Prop:=
 ∃ (c:Int) (out:List Int),(i=.int .i64 c∧(0≤c∧c≤sb+1))∧(ptR (sb+1-c).toNat c out=fin∧out.length≤4096)∧Pq.RowAt w.heap.size base 3 1 out.length (nums .i64 out) wr∧(Below w.heap.size w wr∧base≤wr.heap.size)∧(wr.cell? ⟨b',1,none⟩=some (.int .i64 sb)∧Pq.GA w.heap.size wr b')∧Hold (Pq.GA w.heap.size) Wb wr
theorem pgl_put {w Wb wr w2:World} {base b':Nat} {sb c:Int} {fin out:List Int} {u v':Value} (htb:w.heap.size<base) (hc:c≤sb) (h0:0≤c) (ho:out.length<4096) (hs:scal c=true) (hf:ptR (sb+1-c).toNat c out=fin) (hb:Below w.heap.size w wr∧base≤wr.heap.size)
 (hv:wr.cell? ⟨w.heap.size,0,none⟩=some u) (hfr:wr.frozen? ⟨w.heap.size,0,none⟩=false) (hown:wr.ownsRow base 3 1 u out.length (nums .i64 out)) (hbx:wr.cell? ⟨b',1,none⟩=some (.int .i64 sb)∧Pq.GA w.heap.size wr b') (hh:Hold (Pq.GA w.heap.size) Wb wr)
 (ho':w2.ownsRow base 3 1 v' (out.length+1) (nums .i64 out ++ [.int .i64 c])) (hg:wr.grownBy w2 u.ownBlock) (hnew:∀ k,k<wr.heap.size→v'.ownBlock=some k→u.ownBlock=some k):
 (w2.cell? ⟨w.heap.size,0,none⟩=some u∧w2.frozen? ⟨w.heap.size,0,none⟩=false)∧PgL w base b' sb fin Wb (.int .i64 (c+1)) (w2.setCell ⟨w.heap.size,0,none⟩ v'):=by
 obtain⟨h1,-,h3,h4,h5⟩:=Pq.pt_next hv hfr hown htb hb.1 ho' hg hnew
 have hl:=World.block_lt_of_cell? wr _ hbx.1
 have q:=h3.2 b' hbx.2 hl
 rw [ptR_next hc ho,if_pos hs] at hf
 exact⟨h1,c+1,out ++ [c],⟨rfl,by omega,by omega⟩,⟨hf,by simp;omega⟩,h4,⟨h5,Nat.le_trans hb.2 h3.1⟩,⟨h3.cell (a:=⟨b',1,none⟩) hbx.2 hbx.1,q.2⟩,hh.trans h3⟩
theorem leave27 {R:Ending→World→Prop} {Wf:World} {D m:Nat} {tmps:Array Value} {v:Value} (ht:tmps[2]?.getD undef=v) (hk:Wf.heap[D]? = some (.deferred (some []))) (h:R (.returned v) (Wf.putObj D (.deferred none))):
 LeavesInM Fence.wide m Tryz.prog Tryz.f27 tmps R [{ target:=.collected D,args:=#[] }] .returning Wf:=by
 refine⟨by simp,.inl ⟨_,_,rfl,run_takeDeferred hk,?_⟩⟩
 refine⟨v,?_,h⟩
 simp [results,Tryz.results27,go_sem,ht]
set_option maxRecDepth 100000 in
set_option maxHeartbeats 4000000 in
theorem points27 (b:Nat) (p A:Option Addr) (c:Nat) (ls:List Pq.Sp) (w:World) (h:w.cell? ⟨b,3,none⟩=some (.pointer p)) (hT:Pq.TIn w p A c ls) (hn:ls.length≤100000) (hfit:∀ s∈ls,0≤s.a∧s.a≤s.b+1∧s.b≤1114111):
 Calls Tryz.prog 27 #[.pointer (some ⟨b,0,none⟩)] w (PnPost ls w):=by
 obtain⟨i0,hi,hz0,hz1,hz2⟩:=info_parts infoI
 have hb0:Below w.heap.size w (w.alloc (.cells #[.slice none 0 0] 31)):=(Below.refl _ _).alloc (Nat.le_refl _) _
 have c37:=callsIn_wide (n:=7) |>.2 (own37 b (w.alloc (.cells #[.slice none 0 0] 31)))
 have c46:=callsIn_wide (n:=7) |>.2 (Pq.all32 p A c ls (w.alloc (.cells #[.slice none 0 0] 31)) (hT.below hb0))
 have n0:=Pq.box_new w (.slice none 0 0) 31
 have s0:(w.alloc (.cells #[.slice none 0 0] 31)).heap.size=w.heap.size+1:=by simp
 have hbl:=World.block_lt_of_cell? w _ h
 have hbne:¬w.heap.size=b:=by have hbl:b<w.heap.size:=hbl;omega
 have h3:(w.alloc (.cells #[.slice none 0 0] 31)).cell? ⟨b,3,none⟩=some (.pointer p):=Pq.box_cell _ h
 have HT:=Lib.hid hT
 have HF:=Lib.hid hfit
 clear hT hfit hbl
 refine (callsIn_wide (n:=8)).1 ?_
 refine callsIn_of_wp_marks Tryz.func27 rfl trivial ?_ rfl
 simp only [Tryz.ntmps27,List.size_toArray,List.length_cons,List.length_nil,Nat.reduceAdd,Nat.reduceSub,Array.replicate_succ,Array.replicate_zero,List.push_toArray,List.append_toArray,List.nil_append,List.cons_append]
 have N0:=Lib.hid n0
 have HB0:=Lib.hid hb0
 have HS0:=Lib.hid s0
 clear n0 hb0 s0
 gi_wp2
 refine wpIn_wide.2 (wp_scope_straight ((wpIn_wide (n:=8)).1 ?_))
 gi_wp2
 refine wpIn_label ?_
 gi_wp2_with (first
  | (refine⟨trivial,?_⟩;gi_at_call 37;(with_reducible refine c37.mono ?_);rintro e W3 ⟨rfl,rfl⟩)
  | (refine⟨trivial,?_⟩;gi_at_call 46;(with_reducible refine c46.mono ?_);rintro e W4 ⟨hb4,bq,rfl,hq0,hq1,hqc,hqs⟩;have HH:=Lib.hid (And.intro (And.intro hq0 hq1) (And.intro hqc hqs));clear hq0 hq1 hqc hqs))
 clear c37 c46
 obtain⟨⟨hq0,hq1⟩,hqc,hqs⟩:=HH.out
 have hs0:=HS0.out
 have hs4:=hb4.size
 have hv4:W4.cell? ⟨w.heap.size,0,none⟩=some (.slice none 0 0):=(hb4.cell (p:=⟨w.heap.size,0,none⟩) (by show w.heap.size<_;omega)).trans N0.out.1
 have hf4:W4.frozen? ⟨w.heap.size,0,none⟩=false:=(hb4.frozen (p:=⟨w.heap.size,0,none⟩) (by show w.heap.size<_;omega)).trans N0.out.2
 have hga:∀ k,k≠w.heap.size→Pq.GA w.heap.size W4 k:=fun k hk=>⟨_,hv4,hk,fun e=>by cases e⟩
 have hsw:=HT.out.sat
 have hq:=Pq.fseq55 7 bq ls.length c A ls (Pq.GA w.heap.size) W4 (Pq.ga_lets _) (by omega) hn hq1 hqc hqs (fun h a e=>hga _ (by have:=hsw.lt h a e;omega))
 have hB4:Below w.heap.size w W4:=HB0.out.trans (hb4.mono HB0.out.size)
 have hI0:PgI w (W4.heap.size+2) [] W4:=⟨⟨_,⟨hv4,hf4⟩,World.ownsRow_nil _ _ _ _⟩,hB4⟩
 have HQ:=Lib.hid hq
 have H0:=Lib.hid hI0
 have HL:Hid (w.heap.size<W4.heap.size):=Lib.hid (by omega)
 clear hq hI0 hs0 hs4 hb4 hB4 hsw hq0 hq1 hqc hqs HH hv4 hf4 hga h h3 hbne
 gi_wp2
 refine range_free2 rfl (by omega) rfl trivial (enters_of Tryz.func85 (by kernel_rfl) rfl) HQ.out (Pq.ga_lets _) (fun _=>rfl) (fun x _ W1 W2 row hs hg hr=>⟨hs.1,Nat.le_trans hs.2 hg.size⟩)
  (PgI w (W4.heap.size+2)) (PgX w (W4.heap.size+2)) (pgi_abide _ _ _ (by have:=HL.out;omega)) (pgx_abide _ _ _ (by have:=HL.out;omega)) (fun s W hs=>Pq.row_free hs.1) H0.out (SpBt w.heap.size) (fun x b'=>spBt_abide w.heap.size x b' _) ?a1 ?assign ?body ?done ?stop
 case assign=>
  rintro lq pre x W' K hi hr hK
  simp only [Pq.spArr,Pq.spV]
  gi_wp2
  obtain⟨b',hb'⟩:∃ b',W'.heap.size=b':=⟨_,rfl⟩
  rw [hb']
  have hbo:∀ o,Below W'.heap.size W' (W'.alloc o):=fun o=>(Below.refl _ _).alloc (Nat.le_refl _) o
  refine hK b' _ (Hold.of_below (Pq.ga_lets _) (hbo _)) ((pgi_abide w _ _ (Nat.le_refl _)).below hi (hbo _)) ⟨hr.1,Nat.le_trans hr.2 (by simp)⟩ ⟨⟨?_,?_,?_⟩,(Pq.ga_lets _).below (Pq.row_free hi.1 b' (by omega)) (hbo _)⟩
  · rw [←hb'];simp
  · rw [←hb'];simp
  · rw [←hb'];simp
 case body=>
  rintro lq pre s b' Wb ⟨⟨u,⟨hv,hf⟩,hown⟩,hbw⟩ ⟨hsl,hbase⟩ ⟨⟨e0,e1,e2⟩,hgb⟩ hlen
  have c47:=may47 s.v Wb
  have hpl:=ptsOf_len pre
  obtain⟨hf0,hf1,hf2⟩:=HF.out s hsl
  have hsn:=ptsOf_snoc pre s
  by_cases hask:s.v∈askV
  · have hfin:ptR (s.b+1-s.a).toNat s.a (ptsOf pre)=ptsOf (pre ++ [s]):=by rw [hsn];unfold ptS;rw [if_pos hask]
    rw [decide_eq_true hask] at c47
    have HI0:Hid (PgL w (W4.heap.size+2) b' s.b (ptsOf (pre ++ [s])) Wb (.int .i64 s.a) Wb):=Lib.hid ⟨s.a,ptsOf pre,⟨rfl,hf0,hf1⟩,⟨hfin,hpl⟩,⟨u,⟨hv,hf⟩,hown⟩,⟨hbw,hbase⟩,⟨e1,hgb⟩,Hold.refl _ _⟩
    obtain⟨fin,hfn⟩:∃ x,ptsOf (pre ++ [s])=x:=⟨_,rfl⟩
    have HFN:=Lib.hid hfn
    rw [hfn] at HI0
    obtain⟨S,hS⟩:∃ x,bs s.v=x:=⟨_,rfl⟩
    rw [hS] at e2 c47
    obtain⟨sa,hsa⟩:∃ x,s.a=x:=⟨_,rfl⟩
    obtain⟨sb,hsb⟩:∃ x,s.b=x:=⟨_,rfl⟩
    rw [hsa] at HI0 e0 hf0 hf1
    rw [hsb] at HI0 e1 hf1 hf2
    have C47:=Lib.hid c47
    clear hv hf hown hbw hbase hgb hlen hpl hsn hask hfin hfn hS hsa hsb hsl c47
    gi_wp2_with (refine⟨trivial,?_⟩;gi_at_call 47;(with_reducible refine (CallsIn.inRound lq (callsIn_wide.2 C47.out)).mono ?_);rintro e W5 ⟨rfl,rfl⟩)
    obtain⟨w0,rfl⟩:∃ w0,w0=Wb:=⟨_,rfl⟩
    gi_loopw [5] (fun i wr=>PgL w (W4.heap.size+2) b' sb fin w0 i wr) (fun i _=>(sb+1-intOf i).toNat)
    case atStart=>exact HI0.out
    case round=>
     clear HI0 e0 e1 e2
     obtain⟨x,out,⟨rfl,hx0,hxb⟩,⟨hfq,hlq⟩,⟨u,⟨hv,hf⟩,hown⟩,hbw,hbx,hhd⟩:=hrel
     obtain⟨Av,cv,rfl,-⟩:=Pq.own_shape hown
     have e1:=hbx.1
     have hr3:Pq.RowAt w.heap.size (W4.heap.size+2) 3 1 out.length (nums .i64 out) wr:=⟨_,⟨hv,hf⟩,hown⟩
     by_cases hle:x≤sb
     · have t1:decide (x≤sb)=true:=decide_eq_true hle
       by_cases hfu:out.length<4096
       · have t2:((out.length:Int)==4096)=false:=beq_false_of_ne (by omega)
         have c48:=scalar48 x wr
         cases hsc:scal x with
         | true=>
          rw [hsc] at c48
          have R:=Lib.hid (fun w5 v' ho' hg hnew=>@pgl_put w w0 wr w5 (W4.heap.size+2) b' sb x fin out (.slice Av out.length cv) v' (by have:=HL.out;omega) hle hx0 hfu hsc hfq hbw hv hf hown hbx hhd ho' hg hnew)
          have HOQ:=Lib.hid hown
          have hbs:=hbw.2
          obtain⟨nq,hnq⟩:∃ m,out.length=m:=⟨_,rfl⟩
          rw [hnq] at R HOQ hlq hfu t2 hv
          have g63:nq+1≤maxLen:=by simp only [maxLen];omega
          have g47:(nq+1)*8≤140737488355328:=by omega
          have C48:=Lib.hid c48
          clear hown hbw hbx hhd hfq hnq hsc hr3 c48
          gi_wp2_with (first
           | (refine⟨trivial,?_⟩;gi_at_call 48;(with_reducible refine (CallsIn.inRound lq (callsIn_wide.2 C48.out)).mono ?_);rintro e W6 ⟨rfl,rfl⟩)
           | (gi_at_builtin;refine Pq.append_lit_at rfl _ _ 31 rfl (W4.heap.size+2) 3 i0 (.int .i64 0) 1 8 Tryz.underlying31 hi hz0 hz1 hz2 rfl (by decide) _ _ _ rfl HOQ.out [.int .i64 x] rfl (by simp [Value.oneCell']) rfl g63 g47 hbs ?_;intro v' w5 hown' hg' hnw';obtain⟨⟨kc1,kc2⟩,R2⟩:=R.out w5 v' hown' hg' hnw';have R3:=Lib.hid R2;obtain⟨Av2,cv2,rfl,-⟩:=Pq.own_shape hown';clear hown' hg' hnw' R2))
          go_roundw
          case rel=>exact R3.out
          case measure=>simp [intOf];omega
         | false=>
          rw [hsc] at c48
          have R:Hid (PgL w (W4.heap.size+2) b' sb fin w0 (.int .i64 (x+1)) wr):=Lib.hid ⟨x+1,out,⟨rfl,by omega,by omega⟩,⟨by rw [←hfq,ptR_next hle hfu,if_neg (by rw [hsc];simp)],hlq⟩,hr3,hbw,hbx,hhd⟩
          obtain⟨nq,hnq⟩:∃ m,out.length=m:=⟨_,rfl⟩
          rw [hnq] at hlq hfu t2 hv
          have C48:=Lib.hid c48
          clear hown hbw hbx hhd hfq hnq hsc hr3 c48
          gi_wp2_with (refine⟨trivial,?_⟩;gi_at_call 48;(with_reducible refine (CallsIn.inRound lq (callsIn_wide.2 C48.out)).mono ?_);rintro e W6 ⟨rfl,rfl⟩)
          go_roundw
          case rel=>exact R.out
          case measure=>simp [intOf];omega
       · have hl4:out.length=4096:=by omega
         have hff:out=fin:=by rw [←hfq];exact (ptR_full hfu).symm
         have R:Hid (Hold (Pq.GA w.heap.size) w0 wr∧PgX w (W4.heap.size+2) (.exit 0) (pre ++ [s]) wr):=Lib.hid ⟨hhd,⟨rfl,by rw [HFN.out,←hff];exact hl4⟩,by rw [HFN.out,←hff];exact hr3,hbw.1⟩
         rw [hl4] at hv
         clear hown hbw hbx hhd hfq hl4 hff hr3 hlq hfu
         gi_wp2
         exact R.out
     · have t1:decide (x≤sb)=false:=decide_eq_false hle
       have hff:out=fin:=by rw [←hfq,show (sb+1-x).toNat=0 by omega];rfl
       have R:Hid (Hold (Pq.GA w.heap.size) w0 wr∧PgI w (W4.heap.size+2) (pre ++ [s]) wr):=Lib.hid ⟨hhd,by rw [HFN.out,←hff];exact hr3,hbw.1⟩
       clear hown hbw hbx hhd hfq hff hr3 hlq
       gi_wp2
       exact R.out
  · have hfin:ptsOf (pre ++ [s])=ptsOf pre:=by rw [hsn];unfold ptS;rw [if_neg hask]
    rw [decide_eq_false hask] at c47
    have R:Hid (Hold (Pq.GA w.heap.size) Wb Wb∧PgI w (W4.heap.size+2) (pre ++ [s]) Wb):=Lib.hid ⟨Hold.refl _ _,by rw [hfin];exact⟨u,⟨hv,hf⟩,hown⟩,hbw⟩
    obtain⟨S,hS⟩:∃ x,bs s.v=x:=⟨_,rfl⟩
    rw [hS] at e2 c47
    have C47:=Lib.hid c47
    clear hv hf hown hbw hbase hgb hlen hpl hsn hask hfin hS hsl c47
    gi_wp2_with (refine⟨trivial,?_⟩;gi_at_call 47;(with_reducible refine (CallsIn.inRound lq (callsIn_wide.2 C47.out)).mono ?_);rintro e W5 ⟨rfl,rfl⟩)
    exact R.out
 case done=>
  rintro D xs W hD rfl ⟨⟨u,⟨hv,hf⟩,hown⟩,hbW⟩ hKD
  have hfin:∀ Av cv,u=.slice Av (ptsOf xs).length cv→PnPost xs w (.returned u) (W.putObj D (.deferred none)):=fun Av cv e=>by
   refine⟨Av,cv,by rw [e],Lib.hid ⟨hbW.trans (belowK_b (w:=w) (Nat.le_refl _) W D _ _ (by have:=HL.out;omega) hKD rfl rfl),?_⟩⟩
   have:=Pq.own_abide (β:=Unit) (B:=D) () _ _ _ hown (grownBy_putObj' W D (.deferred none)) (fun r e=>by cases e;exact .inr ⟨Nat.le_refl _,_,hKD,rfl⟩)
   obtain⟨A',c',e',-,h,-⟩:=own_vals this
   rw [e] at e'
   cases e'
   exact h
  obtain⟨Av,cv,rfl,-⟩:=Pq.own_shape hown
  have HFN:=Lib.hid (hfin Av cv rfl)
  clear hfin hown hbW
  gi_wp2
  exact leave27 rfl hKD HFN.out
 case stop=>
  rintro D c' pre W hD hpre ⟨⟨rfl,hlen⟩,⟨u,⟨hv,hf⟩,hown⟩,hbW⟩ hKD
  have hall:=pts_full hpre hlen
  have hfin:∀ Av cv,u=.slice Av (ptsOf pre).length cv→PnPost ls w (.returned u) (W.putObj D (.deferred none)):=fun Av cv e=>by
   unfold PnPost
   rw [hall]
   refine⟨Av,cv,by rw [e],Lib.hid ⟨hbW.trans (belowK_b (w:=w) (Nat.le_refl _) W D _ _ (by have:=HL.out;omega) hKD rfl rfl),?_⟩⟩
   have:=Pq.own_abide (β:=Unit) (B:=D) () _ _ _ hown (grownBy_putObj' W D (.deferred none)) (fun r e=>by cases e;exact .inr ⟨Nat.le_refl _,_,hKD,rfl⟩)
   obtain⟨A',c',e',-,h,-⟩:=own_vals this
   rw [e] at e'
   cases e'
   exact h
  obtain⟨Av,cv,rfl,-⟩:=Pq.own_shape hown
  have HFN:=Lib.hid (hfin Av cv rfl)
  rw [hlen] at HFN
  clear hfin hown hbW hall hpre
  gi_wp2
  exact leave27 rfl hKD HFN.out
end Go.Proofs.YtmellioacefjjaaGreatDoor
namespace Go.Proofs.YtmellioacefjjaaGreatDoor
open Go.RowKit Go.Shelf
attribute [local go_sem] Oper.semAt_some
set_option maxRecDepth 100000 in
set_option maxHeartbeats 8000000 in
theorem points4 (b0 b1 b2 b3 b4 b5 b6:Option Addr) (n0 n1 n2 n3 n4 n5 n6 m0 m1 m2 m3 m4 m5 m6:Nat) (f:Nat→List UInt8) (w:World) (h0:Octs w b0 n0 (f 0)) (h1:Octs w b1 n1 (f 1)) (h2:Octs w b2 n2 (f 2)) (h3:Octs w b3 n3 (f 3)) (h4:Octs w b4 n4 (f 4)) (h5:Octs w b5 n5 (f 5)) (h6:Octs w b6 n6 (f 6))
 (l0:n0≤1000000000000000) (l1:n1≤1000000000000000) (l2:n2≤1000000000000000) (l3:n3≤1000000000000000) (l4:n4≤1000000000000000) (l5:n5≤1000000000000000) (l6:n6≤1000000000000000) (hf7:∀ i,7≤i→f i = []) (hM:ML w) (hH:HanT w):
 Calls Tryz.prog 4 #[.agg #[.slice b0 n0 m0,.slice b1 n1 m1,.slice b2 n2 m2,.slice b3 n3 m3,.slice b4 n4 m4,.slice b5 n5 m5,.slice b6 n6 m6]] w fun e w'=>e=.returned (.bool true)∧Below w.heap.size w w':=by
 have C7:Hid (∀ W,BnB w W (.slice b0 n0 m0) (.slice b1 n1 m1) (.slice b2 n2 m2) (.slice b3 n3 m3) (.slice b4 n4 m4) (.slice b5 n5 m5) (.slice b6 n6 m6)→Calls Tryz.prog 7 #[] W fun e W'=>e=.returned (.bool true)∧BnB w W' (.slice b0 n0 m0) (.slice b1 n1 m1) (.slice b2 n2 m2) (.slice b3 n3 m3) (.slice b4 n4 m4) (.slice b5 n5 m5) (.slice b6 n6 m6)):=Lib.hid (fun W hW=>(awake7 W (ml_on hM hW.2) (hH.below hH.lt hW.2)).mono (by
  rintro e W' ⟨rfl,hb⟩
  exact⟨rfl,hW.below hb⟩))
 have C8:Hid (∀ W,BnB w W (.slice b0 n0 m0) (.slice b1 n1 m1) (.slice b2 n2 m2) (.slice b3 n3 m3) (.slice b4 n4 m4) (.slice b5 n5 m5) (.slice b6 n6 m6)→Calls Tryz.prog 8 #[.agg #[.slice b0 n0 m0,.slice b1 n1 m1,.slice b2 n2 m2,.slice b3 n3 m3,.slice b4 n4 m4,.slice b5 n5 m5,.slice b6 n6 m6]] W fun e W'=>e=.returned (.bool (decide (n0+n1+n2+n3+n4+n5+n6≤3000)))∧BnB w W' (.slice b0 n0 m0) (.slice b1 n1 m1) (.slice b2 n2 m2) (.slice b3 n3 m3) (.slice b4 n4 m4) (.slice b5 n5 m5) (.slice b6 n6 m6)):=Lib.hid (fun W hW=>(small8 b0 b1 b2 b3 b4 b5 b6 n0 n1 n2 n3 n4 n5 n6 m0 m1 m2 m3 m4 m5 m6 W l0 l1 l2 l3 l4 l5 l6).mono (by
  rintro e W' ⟨rfl,hb⟩
  exact⟨rfl,hW.below hb⟩))
 have H1:=Lib.hid (bnb_new w (.slice b0 n0 m0) (.slice b1 n1 m1) (.slice b2 n2 m2) (.slice b3 n3 m3) (.slice b4 n4 m4) (.slice b5 n5 m5) (.slice b6 n6 m6))
 by_cases hs:n0+n1+n2+n3+n4+n5+n6≤3000
 · rw [decide_eq_true hs] at C8
   have C9:Hid (∀ W,BnB w W (.slice b0 n0 m0) (.slice b1 n1 m1) (.slice b2 n2 m2) (.slice b3 n3 m3) (.slice b4 n4 m4) (.slice b5 n5 m5) (.slice b6 n6 m6)→Calls Tryz.prog 9 #[.agg #[.slice b0 n0 m0,.slice b1 n1 m1,.slice b2 n2 m2,.slice b3 n3 m3,.slice b4 n4 m4,.slice b5 n5 m5,.slice b6 n6 m6]] W fun e W'=>BnB w W' (.slice b0 n0 m0) (.slice b1 n1 m1) (.slice b2 n2 m2) (.slice b3 n3 m3) (.slice b4 n4 m4) (.slice b5 n5 m5) (.slice b6 n6 m6)∧LddPost f W e W'):=Lib.hid (fun W hW=>(loaded9 b0 b1 b2 b3 b4 b5 b6 n0 n1 n2 n3 n4 n5 n6 m0 m1 m2 m3 m4 m5 m6 f W (h0.below hW.2) (h1.below hW.2) (h2.below hW.2) (h3.below hW.2) (h4.below hW.2) (h5.below hW.2) (h6.below hW.2) hs hf7 (ml_on hM hW.2) (hH.below hH.lt hW.2)).mono (fun e W' h=>⟨hW.below h.1,h⟩))
   clear h0 h1 h2 h3 h4 h5 h6 l0 l1 l2 l3 l4 l5 l6 hf7 hM hH hs
   by_cases hl:∃ d,loadOf f=(⟨0,0,0⟩,some d)
   · obtain⟨d,hl⟩:=hl
     have D9:Hid (∀ W,BnB w W (.slice b0 n0 m0) (.slice b1 n1 m1) (.slice b2 n2 m2) (.slice b3 n3 m3) (.slice b4 n4 m4) (.slice b5 n5 m5) (.slice b6 n6 m6)→Calls Tryz.prog 9 #[.agg #[.slice b0 n0 m0,.slice b1 n1 m1,.slice b2 n2 m2,.slice b3 n3 m3,.slice b4 n4 m4,.slice b5 n5 m5,.slice b6 n6 m6]] W fun e W'=>∃ b b',e=.returned (.tuple #[.pointer (some ⟨b,0,none⟩),.pointer (some ⟨b',0,none⟩),.bool true])∧Hid (Below w.heap.size w W'∧(PF W' b d.ps d.sp d.cf∧Szs d.ps d.sp)∧RD W' b' d.ps d.sp d.cf d.ms)):=Lib.hid (fun W hW=>(C9.out W hW).mono (by
      rintro e W' ⟨hw,-,⟨d',b,b',h,rfl,hh⟩ | ⟨hno,rfl⟩⟩
      · rw [hl] at h
        injection h with _ h
        injection h with h
        subst h
        exact⟨b,b',rfl,Lib.hid ⟨hw.2,⟨hh.out.1.1,hh.out.1.2.2⟩,hh.out.2⟩⟩
      · obtain⟨x,hx⟩:=hno;rw [hl] at hx;injection hx with _ hx;cases hx))
     clear C9 hl
     have C27:Hid (∀ W b b',Below w.heap.size w W∧(PF W b d.ps d.sp d.cf∧Szs d.ps d.sp)∧RD W b' d.ps d.sp d.cf d.ms→Calls Tryz.prog 27 #[.pointer (some ⟨b,0,none⟩)] W fun e W'=>∃ A1 c1,e=.returned (.slice A1 (ptsOf (d.sp 2)).length c1)∧Hid (Below w.heap.size w W'∧Szs d.ps d.sp∧RD W' b' d.ps d.sp d.cf d.ms∧Vals W' A1 (ptsOf (d.sp 2)).length (nums .i64 (ptsOf (d.sp 2))))):=Lib.hid (fun W b b' hh=>by
      obtain⟨hw,⟨hP,hS⟩,hR⟩:=hh
      obtain⟨p',A',c',k1,k2⟩:=hP.prs 2 (by omega)
      refine (points27 b p' A' c' (d.sp 2) W k1 k2 (by have:=hS.spf 2;omega) (fun t ht=>by obtain⟨f1,f2,f3,-⟩:=(hS.spg 2).2 t ht;exact⟨f1,by omega,f2⟩)).mono ?_
      rintro e W' ⟨A1,c1,rfl,h2⟩
      exact⟨A1,c1,rfl,Lib.hid ⟨hw.trans (h2.out.1.mono hw.size),hS,hR.below h2.out.1,h2.out.2⟩⟩)
     have C28:Hid (∀ W b' A1,Below w.heap.size w W∧Szs d.ps d.sp∧RD W b' d.ps d.sp d.cf d.ms∧Vals W A1 (ptsOf (d.sp 2)).length (nums .i64 (ptsOf (d.sp 2)))→Calls Tryz.prog 28 #[.pointer (some ⟨b',0,none⟩)] W fun e W'=>∃ A2 c2,e=.returned (.slice A2 (ptsOf (d.sp 2)).length c2)∧Hid (Below w.heap.size w W'∧Vals W' A1 (ptsOf (d.sp 2)).length (nums .i64 (ptsOf (d.sp 2)))∧Vals W' A2 (ptsOf (d.sp 2)).length (nums .i64 (ptsOf (d.sp 2))))):=Lib.hid (fun W b' A1 hh=>by
      obtain⟨hw,hS,hR,hV⟩:=hh
      obtain⟨A',c',k1,k2⟩:=hR.props 2 (by omega)
      refine (points28_at b' _ c' A' (d.sp 2) W k1 k2 (by have:=hS.spf 2;omega) (fun t ht=>by obtain⟨f1,f2,f3,-⟩:=(hS.spg 2).2 t ht;exact⟨f1,by omega,f2⟩)).mono ?_
      rintro e W' ⟨A2,c2,rfl,h2⟩
      exact⟨A2,c2,rfl,Lib.hid ⟨hw.trans (h2.out.1.mono hw.size),hV.below h2.out.1,h2.out.2⟩⟩)
     have C24:Hid (∀ W A1 A2 c1 c2,Below w.heap.size w W∧Vals W A1 (ptsOf (d.sp 2)).length (nums .i64 (ptsOf (d.sp 2)))∧Vals W A2 (ptsOf (d.sp 2)).length (nums .i64 (ptsOf (d.sp 2)))→Calls Tryz.prog 24 #[.slice A1 (ptsOf (d.sp 2)).length c1,.slice A2 (ptsOf (d.sp 2)).length c2] W fun e W'=>e=.returned (.bool true)∧Hid (Below w.heap.size w W')):=Lib.hid (fun W A1 A2 c1 c2 hh=>by
      refine (same17 A1 A2 _ c1 c2 _ W hh.2.1 hh.2.2 (by have:=ptsOf_len (d.sp 2);omega)).mono ?_
      rintro e W' ⟨rfl,q,rfl⟩
      exact⟨rfl,Lib.hid (below_drewN hh.1 q)⟩)
     obtain⟨pn,hpn⟩:∃ x,(ptsOf (d.sp 2)).length=x:=⟨_,rfl⟩
     rw [hpn] at C27 C28 C24
     clear hpn
     go_enter Tryz.func4,Tryz.ntmps4
     go_wp2_with (first
     | (go_at_call 27;(with_reducible refine (C27.out _ _ _ H9.out).mono ?_);rintro e W27 ⟨A1,c1,rfl,H27⟩)
     | (go_at_call 28;(with_reducible refine (C28.out _ _ _ H27.out).mono ?_);rintro e W28 ⟨A2,c2,rfl,H28⟩)
     | (go_at_call 24;(with_reducible refine (C24.out _ _ _ _ _ H28.out).mono ?_);rintro e W24 ⟨rfl,H24⟩)
     | (go_at_call 9;(with_reducible refine (D9.out _ H8.out).mono ?_);rintro e W9 ⟨b,b',rfl,H9⟩)
     | (go_at_call 7;(with_reducible refine (C7.out _ H1.out).mono ?_);rintro e W7 ⟨rfl,H7'⟩;have H7:=Lib.hid H7';clear H7';obtain⟨⟨q0,q1,q2,q3,q4,q5,q6⟩,-⟩:=H7.out)
     | (go_at_call 8;(with_reducible refine (C8.out _ H7.out).mono ?_);rintro e W8 ⟨rfl,H8'⟩;have H8:=Lib.hid H8';clear H8';obtain⟨⟨q0,q1,q2,q3,q4,q5,q6⟩,-⟩:=H8.out))
     go_ret
     exact⟨rfl,H24.out⟩
   · have D9:Hid (∀ W,BnB w W (.slice b0 n0 m0) (.slice b1 n1 m1) (.slice b2 n2 m2) (.slice b3 n3 m3) (.slice b4 n4 m4) (.slice b5 n5 m5) (.slice b6 n6 m6)→Calls Tryz.prog 9 #[.agg #[.slice b0 n0 m0,.slice b1 n1 m1,.slice b2 n2 m2,.slice b3 n3 m3,.slice b4 n4 m4,.slice b5 n5 m5,.slice b6 n6 m6]] W fun e W'=>e=.returned (.tuple #[.pointer none,.pointer none,.bool true])∧Hid (Below w.heap.size w W')):=Lib.hid (fun W hW=>(C9.out W hW).mono (by
      rintro e W' ⟨hw,-,⟨d',b,b',h,rfl,hh⟩ | ⟨hno,rfl⟩⟩
      · exact absurd ⟨d',h⟩ hl
      · exact⟨rfl,Lib.hid hw.2⟩))
     clear C9 hl
     go_enter Tryz.func4,Tryz.ntmps4
     go_wp2_with (first
     | (go_at_call 9;(with_reducible refine (D9.out _ H8.out).mono ?_);rintro e W9 ⟨rfl,H9⟩)
     | (go_at_call 7;(with_reducible refine (C7.out _ H1.out).mono ?_);rintro e W7 ⟨rfl,H7'⟩;have H7:=Lib.hid H7';clear H7';obtain⟨⟨q0,q1,q2,q3,q4,q5,q6⟩,-⟩:=H7.out)
     | (go_at_call 8;(with_reducible refine (C8.out _ H7.out).mono ?_);rintro e W8 ⟨rfl,H8'⟩;have H8:=Lib.hid H8';clear H8';obtain⟨⟨q0,q1,q2,q3,q4,q5,q6⟩,-⟩:=H8.out))
     go_ret
     exact⟨rfl,H9.out⟩
 · rw [decide_eq_false hs] at C8
   clear h0 h1 h2 h3 h4 h5 h6 l0 l1 l2 l3 l4 l5 l6 hf7 hM hH hs
   go_enter Tryz.func4,Tryz.ntmps4
   go_wp2_with (first
   | (go_at_call 7;(with_reducible refine (C7.out _ H8.out).mono ?_);rintro e W9 ⟨rfl,H9'⟩;have H9:=Lib.hid H9';clear H9')
   | (go_at_call 7;(with_reducible refine (C7.out _ H1.out).mono ?_);rintro e W7 ⟨rfl,H7'⟩;have H7:=Lib.hid H7';clear H7';obtain⟨⟨q0,q1,q2,q3,q4,q5,q6⟩,-⟩:=H7.out)
   | (go_at_call 8;(with_reducible refine (C8.out _ H7.out).mono ?_);rintro e W8 ⟨rfl,H8'⟩;have H8:=Lib.hid H8';clear H8';obtain⟨⟨q0,q1,q2,q3,q4,q5,q6⟩,-⟩:=H8.out))
   go_ret
   exact⟨rfl,H9.out.2⟩
end Go.Proofs.YtmellioacefjjaaGreatDoor
