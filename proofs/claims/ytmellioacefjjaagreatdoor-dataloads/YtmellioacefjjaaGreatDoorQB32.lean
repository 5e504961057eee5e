/- A part. -/
import Derived.Test.YtmellioacefjjaaGreatDoorQB30
import Derived.Maps.OwnRows
import Derived.Maps.OwnSet
import Derived.Maps.OwnOps
import Derived.Maps.AppendAt
namespace Go.Proofs.YtmellioacefjjaaGreatDoor
theorem cnt_pos {dec:Int→List Int}:∀ (n:Nat) (c:Int),1≤cnt dec n c
 | 0,_=>Nat.le_refl _
 | n+1,c=>by
  rw [cnt]
  by_cases h:dec c = []
  · rw [if_pos h];exact Nat.le_refl _
  · rw [if_neg h]
    obtain⟨d,l,e⟩:∃ d l,dec c=d::l:=by
     cases hd:dec c with
     | nil=>exact absurd hd h
     | cons d l=>exact⟨d,l,rfl⟩
    rw [e,List.map_cons,List.sum_cons]
    have:=cnt_pos (dec:=dec) n d
    omega
def sumS (sz:Int→Nat):List Int→Nat
 | []=>0
 | d::l=>max 1 (sz d)+sumS sz l
def sizeS (sz:Int→Nat) (l:List Int):Nat:=min (sumS sz l) 5
theorem sumS_snoc (sz:Int→Nat):∀ (l:List Int) (d:Int),sumS sz (l ++ [d])=sumS sz l+max 1 (sz d)
 | [],d=>by simp [sumS]
 | x::l,d=>by simp only [List.cons_append,sumS,sumS_snoc sz l d];omega
theorem sumS_le {sz:Int→Nat} (h5:∀ c,sz c≤5):∀ l:List Int,sumS sz l≤5*l.length
 | []=>by simp [sumS]
 | d::l=>by
  have h1:=sumS_le h5 l
  have h2:=h5 d
  simp only [sumS,List.length_cons]
  omega
theorem sumS_cnt {sz:Int→Nat} {f:Int→Nat}:∀ {l:List Int},(∀ d∈l,max 1 (sz d)=min 5 (f d))→min (sumS sz l) 5=min 5 ((l.map f).sum)
 | [],_=>by simp [sumS]
 | d::l,h=>by
  have h1:=h d (List.mem_cons_self ..)
  have h2:=sumS_cnt (l:=l) (fun x hx=>h x (List.mem_cons_of_mem _ hx))
  simp only [sumS,List.map_cons,List.sum_cons]
  omega
structure FI (dec:Int→List Int) (K O wk:List Int) (sz:Int→Nat) (lg:Nat):Prop where
 sub:∀ c∈O,c∈K
 out:∀ c,c∉O→∃ n,Ends dec n c∧sz c=if c∈K then min 5 (cnt dec n c) else 0
 ope:∀ c∈O,sz c=0
 wait:∀ c∈O,(∀ d∈dec c,d∉O)→c∈wk
 big:∀ c∈K,c∉O→sz c≤lg
 few:lg=0∨∃ c∈K,c∉O∧lg=sz c
theorem FI.five {dec:Int→List Int} {K O wk:List Int} {sz:Int→Nat} {lg:Nat} (h:FI dec K O wk sz lg) (c:Int):sz c≤5:=by
 by_cases hc:c∈O
 · rw [h.ope c hc];omega
 · obtain⟨n,-,e⟩:=h.out c hc
   rw [e]
   split <;> omega
theorem FI.lg5 {dec:Int→List Int} {K O wk:List Int} {sz:Int→Nat} {lg:Nat} (h:FI dec K O wk sz lg):lg≤5:=by
 rcases h.few with e | ⟨c,-,-,e⟩
 · omega
 · rw [e];exact h.five c
theorem fi_start {dec:Int→List Int} {K:List Int} (hK:∀ c,dec c ≠ []→c∈K):FI dec K K K (fun _=>0) 0:=
 ⟨fun _ h=>h,fun c hc=>⟨0,Classical.byContradiction (fun h=>hc (hK c h)),by rw [if_neg hc]⟩,fun _ _=>rfl,fun _ h _=>h,fun _ h h'=>absurd h h',.inl rfl⟩
theorem fi_gone {dec:Int→List Int} {K O wk:List Int} {sz:Int→Nat} {lg:Nat} {c:Int} (h:FI dec K O (wk ++ [c]) sz lg) (hc:c∉O):FI dec K O wk sz lg:=
 ⟨h.sub,h.out,h.ope,fun d hd hw=>(List.mem_append.1 (h.wait d hd hw)).elim id (fun e=>absurd ((List.mem_singleton.1 e)▸hd) hc),h.big,h.few⟩
theorem fi_later {dec:Int→List Int} {K O wk:List Int} {sz:Int→Nat} {lg:Nat} {c:Int} (h:FI dec K O (wk ++ [c]) sz lg) (hc:∃ d∈dec c,d∈O):FI dec K O wk sz lg:=
 ⟨h.sub,h.out,h.ope,fun d hd hw=>(List.mem_append.1 (h.wait d hd hw)).elim id (fun e=>by
  rw [List.mem_singleton.1 e] at hw
  obtain⟨x,hx,hx'⟩:=hc
  exact absurd hx' (hw x hx)),h.big,h.few⟩
theorem fi_size {dec:Int→List Int} {K O wk:List Int} {sz:Int→Nat} {lg:Nat} {c:Int} (h:FI dec K O wk sz lg) (hK:∀ c,dec c ≠ []→c∈K) (hK':∀ c∈K,dec c ≠ []) (hc:c∈K) (hw:∀ d∈dec c,d∉O):∃ n,Ends dec n c∧sizeS sz (dec c)=min 5 (cnt dec n c):=by
 have hex:∀ d∈dec c,∃ n,Ends dec n d∧max 1 (sz d)=min 5 (cnt dec n d):=fun d hd=>by
  obtain⟨n,h1,h2⟩:=h.out d (hw d hd)
  refine⟨n,h1,?_⟩
  have hp:=cnt_pos (dec:=dec) n d
  by_cases hk:d∈K
  · rw [if_pos hk] at h2;omega
  · rw [if_neg hk] at h2
    have hd0:dec d = []:=Classical.byContradiction (fun h=>hk (hK d h))
    have:cnt dec n d=1:=by
     cases n with
     | zero=>rfl
     | succ n=>rw [cnt,if_pos hd0]
    omega
 have hall:∀ l:List Int,(∀ d∈l,∃ n,Ends dec n d∧max 1 (sz d)=min 5 (cnt dec n d))→∃ N,∀ d∈l,Ends dec N d∧max 1 (sz d)=min 5 (cnt dec N d):=by
  intro l
  induction l with
  | nil=>exact fun _=>⟨0,fun d hd=>by cases hd⟩
  | cons x l ih=>
   intro hl
   obtain⟨N,hN⟩:=ih (fun d hd=>hl d (List.mem_cons_of_mem _ hd))
   obtain⟨n,h1,h2⟩:=hl x (List.mem_cons_self ..)
   refine⟨max N n,fun d hd=>?_⟩
   rcases List.mem_cons.1 hd with rfl | hd
   · exact⟨h1.mono (Nat.le_max_right _ _),by rw [cnt_same (Nat.le_max_right _ _) h1];exact h2⟩
   · obtain⟨g1,g2⟩:=hN d hd
     exact⟨g1.mono (Nat.le_max_left _ _),by rw [cnt_same (Nat.le_max_left _ _) g1];exact g2⟩
 obtain⟨N,hN⟩:=hall (dec c) hex
 refine⟨N+1,fun d hd=>(hN d hd).1,?_⟩
 unfold sizeS
 rw [sumS_cnt (f:=cnt dec N) (fun d hd=>(hN d hd).2),cnt,if_neg (hK' c hc)]
def putS (sz:Int→Nat) (c:Int) (n:Nat):Int→Nat:=fun x=>if x=c then n else sz x
theorem putS_same (sz:Int→Nat) (c:Int) (n:Nat):putS sz c n c=n:=by unfold putS;rw [if_pos rfl]
theorem putS_other {sz:Int→Nat} {c x:Int} {n:Nat} (h:x≠c):putS sz c n x=sz x:=by unfold putS;rw [if_neg h]
def cutO (O:List Int) (c:Int):List Int:=O.filter fun x=>decide (x≠c)
theorem cutO_mem {O:List Int} {c x:Int}:x∈cutO O c↔x∈O∧x≠c:=by unfold cutO;rw [List.mem_filter];simp
theorem fi_done {dec:Int→List Int} {K O wk us:List Int} {sz:Int→Nat} {lg:Nat} {c:Int} (h:FI dec K O (wk ++ [c]) sz lg) (hK:∀ c,dec c ≠ []→c∈K) (hK':∀ c∈K,dec c ≠ []) (hc:c∈O) (hw:∀ d∈dec c,d∉O)
 (hu:∀ x∈K,c∈dec x→x∈us):FI dec K (cutO O c) (wk++us) (putS sz c (sizeS sz (dec c))) (max lg (sizeS sz (dec c))):=by
 have hcK:=h.sub c hc
 obtain⟨n,he,hs⟩:=fi_size h hK hK' hcK hw
 refine⟨fun x hx=>h.sub x (cutO_mem.1 hx).1,fun x hx=>?_,fun x hx=>?_,fun x hx hwx=>?_,fun x hx hxo=>?_,?_⟩
 · by_cases e:x=c
   · subst e;exact⟨n,he,by rw [putS_same,if_pos hcK,hs]⟩
   · obtain⟨m,g1,g2⟩:=h.out x (fun hh=>hx (cutO_mem.2 ⟨hh,e⟩))
     exact⟨m,g1,by rw [putS_other e];exact g2⟩
 · obtain⟨h1,h2⟩:=cutO_mem.1 hx
   rw [putS_other h2];exact h.ope x h1
 · obtain⟨h1,h2⟩:=cutO_mem.1 hx
   by_cases hcx:c∈dec x
   · exact List.mem_append_right _ (hu x (h.sub x h1) hcx)
   · refine List.mem_append_left _ ?_
     have:=h.wait x h1 (fun d hd hdo=>hwx d hd (cutO_mem.2 ⟨hdo,fun e=>hcx (e▸hd)⟩))
     rcases List.mem_append.1 this with hh | hh
     · exact hh
     · exact absurd (List.mem_singleton.1 hh) h2
 · by_cases e:x=c
   · subst e;rw [putS_same];exact Nat.le_max_right _ _
   · rw [putS_other e]
     exact Nat.le_trans (h.big x hx (fun hh=>hxo (cutO_mem.2 ⟨hh,e⟩))) (Nat.le_max_left _ _)
 · have hcn:c∉cutO O c:=fun hh=>(cutO_mem.1 hh).2 rfl
   by_cases hle:lg≤sizeS sz (dec c)
   · exact .inr ⟨c,hcK,hcn,by rw [putS_same];exact Nat.max_eq_right hle⟩
   · rcases h.few with e | ⟨x,hx,hxo,e⟩
     · omega
     · have hxc:x≠c:=fun e=>hxo (e▸hc)
       exact .inr ⟨x,hx,fun hh=>hxo (cutO_mem.1 hh).1,by rw [putS_other hxc,←e];exact Nat.max_eq_left (by omega)⟩
theorem fi_end {dec:Int→List Int} {K O:List Int} {sz:Int→Nat} {lg:Nat} (h:FI dec K O [] sz lg) (hK:∀ c,dec c ≠ []→c∈K):(O ≠ []↔∃ c∈K,Plus dec c c):=by
 constructor
 · intro hO
   refine Classical.byContradiction fun hno=>?_
   obtain⟨c,hc⟩:∃ c,c∈O:=by
    cases O with
    | nil=>exact absurd rfl hO
    | cons c l=>exact⟨c,List.mem_cons_self ..⟩
   have he:=all_end hK (fun c hc hp=>hno ⟨c,hc,hp⟩) c
   have hstep:∀ n c,c∈O→¬Ends dec n c:=by
    intro n
    induction n with
    | zero=>
     intro c hc h0
     have h0:dec c = []:=h0
     have:=h.wait c hc (fun d hd=>by rw [h0] at hd;cases hd)
     cases this
    | succ n ih=>
     intro c hc h1
     have:¬∀ d∈dec c,d∉O:=fun hw=>by have:=h.wait c hc hw;cases this
     exact this (fun d hd hdo=>ih d hdo (h1 d hd))
   exact hstep _ c hc he
 · rintro⟨c,hc,hp⟩ rfl
   obtain⟨n,he,-⟩:=h.out c (by simp)
   have hend:∀ n c,Ends dec n c→¬Plus dec c c:=by
    intro n
    induction n with
    | zero=>exact fun c h0 hp=>hp.has h0
    | succ n ih=>
     intro c h1 hp
     cases hp with
     | one hd=>exact ih c (h1 c hd) (.one hd)
     | more hd t=>exact ih _ (h1 _ hd) (t.trans (.one hd))
   exact hend n c he hp
theorem cnt_any {dec:Int→List Int} {n m:Nat} {c:Int} (h:Ends dec n c) (h':Ends dec m c):cnt dec n c=cnt dec m c:=by
 rw [←cnt_same (Nat.le_max_left n m) h,←cnt_same (Nat.le_max_right n m) h']
theorem fi_long {dec:Int→List Int} {K:List Int} {sz:Int→Nat} {lg N:Nat} (h:FI dec K [] [] sz lg) (hN:∀ c,Ends dec N c):(4<lg↔∃ c∈K,4<cnt dec N c):=by
 have hsz:∀ c∈K,sz c=min 5 (cnt dec N c):=fun c hc=>by
  obtain⟨n,he,e⟩:=h.out c (by simp)
  rw [e,if_pos hc,cnt_any he (hN c)]
 constructor
 · intro hl
   rcases h.few with e | ⟨c,hc,-,e⟩
   · omega
   · exact⟨c,hc,by have:=hsz c hc;omega⟩
 · rintro⟨c,hc,hl⟩
   have:=h.big c hc (by simp)
   have:=hsz c hc
   omega
def toDo (us:Int→List Int):List Int→Nat
 | []=>0
 | c::l=>(us c).length+toDo us l
theorem toDo_cut {us:Int→List Int} {c:Int}:∀ {O:List Int},c∈O→toDo us (cutO O c)+(us c).length≤toDo us O
 | [],h=>by cases h
 | x::l,h=>by
  by_cases e:x=c
  · subst e
    have h1:cutO (x::l) x=cutO l x:=by unfold cutO;rw [List.filter_cons_of_neg (by simp)]
    rw [h1,toDo]
    have:toDo us (cutO l x)≤toDo us l:=by
     clear h h1
     induction l with
     | nil=>exact Nat.le_refl _
     | cons y l ih=>
      by_cases e:y=x
      · subst e
        have h1:cutO (y::l) y=cutO l y:=by unfold cutO;rw [List.filter_cons_of_neg (by simp)]
        rw [h1,toDo];omega
      · have h1:cutO (y::l) x=y::cutO l x:=by unfold cutO;rw [List.filter_cons_of_pos (by simpa using e)]
        rw [h1,toDo,toDo];omega
    omega
  · have h1:cutO (x::l) c=x::cutO l c:=by unfold cutO;rw [List.filter_cons_of_pos (by simpa using e)]
    rw [h1,toDo,toDo]
    have:=toDo_cut (us:=us) (c:=c) (O:=l) ((List.mem_cons.1 h).elim (fun hh=>absurd hh.symm e) id)
    omega
end Go.Proofs.YtmellioacefjjaaGreatDoor
namespace Go.Proofs.YtmellioacefjjaaGreatDoor
open Go.RowKit Go.Shelf
def nilT:DataW Value:=.held (.slice none 0 0)
def key (c:Int):Lit:=.int .i64 c
theorem key_inj {a b:Int} (h:a≠b):key a≠key b:=fun e=>h (by unfold key at e;injection e)
theorem key_is (c:Int):WideAt.IsKeyLit (key c):=trivial
def F1 (W:World) (M n:Nat) (D:DataW Value) (O:List Int):Prop:=
 W.ownsMap Tryz.prog 3 Cf.tokE M n D∧(∀ c,Maps.has D (key c)=decide (c∈O))∧(Maps.size D=O.length∧O.Nodup)
def A1 (W:World) (D:DataW Value) (dec:Int→List Int) (O:List Int) (No:Nat→Prop):Prop:=
 ∀ c∈O,∃ A k,D.atKey (key c) nilT=.held (.slice A (dec c).length k)∧Vals W A (dec c).length (nums .i64 (dec c))∧∀ a,A=some a→a.block<W.heap.size∧¬No a.block
theorem F1.kept {W W':World} {M n:Nat} {D:DataW Value} {O:List Int} {row:Option Nat} (h:F1 W M n D O) (hg:W.grownBy W' row) (hne:some M≠row):F1 W' M n D O:=⟨h.1.kept hg hne,h.2⟩
theorem vals_grown {W W':World} {A:Option Addr} {n:Nat} {vs:List Value} {row:Option Nat} (h:Vals W A n vs) (hg:W.grownBy W' row) (hne:∀ a,A=some a→some a.block≠row):Vals W' A n vs:=by
 refine⟨h.1,fun hn=>?_⟩
 obtain⟨b,off,rfl,hlt,hc⟩:=h.2 hn
 exact⟨b,off,rfl,Nat.lt_of_lt_of_le hlt hg.size,fun j v hj=>hg.cell (a:=⟨b,off+j,none⟩) (hc j v hj) (hne ⟨b,off,none⟩ rfl)⟩
theorem A1.no {W:World} {D:DataW Value} {dec:Int→List Int} {O:List Int} {No No':Nat→Prop} (h:A1 W D dec O No) (hn:∀ k,k<W.heap.size→No' k→No k):A1 W D dec O No':=
 fun c hc=>by
  obtain⟨A,k,h1,h2,h3⟩:=h c hc
  exact⟨A,k,h1,h2,fun a e=>⟨(h3 a e).1,fun hh=>(h3 a e).2 (hn _ (h3 a e).1 hh)⟩⟩
theorem f1_tidy {W:World} {M n:Nat} {D:DataW Value} {O:List Int} (h:F1 W M n D O):Maps.Tidy D:=h.1.tidy Cf.k3
theorem f1_put {W W':World} {M n m:Nat} {D:DataW Value} {O:List Int} {c:Int} {v:Value} (h:F1 W M n D O) (hc:c∉O) (ho:W'.ownsMap Tryz.prog 3 Cf.tokE M m (D.put (key c) (.held v))):F1 W' M m (D.put (key c) (.held v)) (O ++ [c]):=by
 have hh:Maps.has D (key c)=false:=by rw [h.2.1];exact decide_eq_false hc
 refine⟨ho,fun x=>?_,?_,?_⟩
 · by_cases e:x=c
   · subst e
     rw [Maps.has_put_same (f1_tidy h).isMap (key_is _),decide_eq_true (by simp)]
   · rw [Maps.has_put_other (key_inj e),h.2.1]
     exact decide_eq_decide.2 (by simp [e])
 · rw [Maps.size_put (f1_tidy h),hh,if_neg (by simp),h.2.2.1];simp
 · refine List.nodup_append.2 ⟨h.2.2.2,by simp,fun a ha b hb e=>?_⟩
   rw [List.mem_singleton] at hb
   exact hc (hb▸e▸ha)
theorem a1_put {W:World} {D:DataW Value} {dec:Int→List Int} {O:List Int} {No:Nat→Prop} {c:Int} {A:Option Addr} {k:Nat} (hm:Maps.Tidy D) (h:A1 W D dec O No) (hc:c∉O) (hv:Vals W A (dec c).length (nums .i64 (dec c))) (hA:∀ a,A=some a→a.block<W.heap.size∧¬No a.block):
 A1 W (D.put (key c) (.held (.slice A (dec c).length k))) dec (O ++ [c]) No:=by
 intro x hx
 rcases List.mem_append.1 hx with hx | hx
 · obtain⟨A',k',h1,h2⟩:=h x hx
   exact⟨A',k',by rw [Maps.atKey_put_other (key_inj (fun e:x=c=>hc (e▸hx)))];exact h1,h2⟩
 · rw [List.mem_singleton.1 hx]
   exact⟨A,k,Maps.atKey_put_same hm.isMap (key_is _) _ _,hv,hA⟩
theorem cutO_len {O:List Int} {c:Int} (hn:O.Nodup) (hc:c∈O):(cutO O c).length+1=O.length:=by
 induction O with
 | nil=>cases hc
 | cons x l ih=>
  obtain⟨h1,h2⟩:=List.nodup_cons.1 hn
  by_cases e:x=c
  · subst e
    have:cutO (x::l) x=l:=by
     unfold cutO
     rw [List.filter_cons_of_neg (by simp),List.filter_eq_self]
     intro y hy
     exact decide_eq_true (fun e=>h1 (e▸hy))
    rw [this,List.length_cons]
  · have:cutO (x::l) c=x::cutO l c:=by unfold cutO;rw [List.filter_cons_of_pos (by simpa using e)]
    rw [this,List.length_cons,List.length_cons,ih h2 ((List.mem_cons.1 hc).elim (fun hh=>absurd hh.symm e) id)]
theorem f1_del {W W':World} {M n:Nat} {D:DataW Value} {O:List Int} {c:Int} (h:F1 W M n D O) (hc:c∈O) (ho:W'.ownsMap Tryz.prog 3 Cf.tokE M n (D.del (key c))):F1 W' M n (D.del (key c)) (cutO O c):=by
 have hh:Maps.has D (key c)=true:=by rw [h.2.1];exact decide_eq_true hc
 refine⟨ho,fun x=>?_,?_,h.2.2.2.filter _⟩
 · by_cases e:x=c
   · subst e
     rw [Maps.has_del_same,eq_comm]
     exact decide_eq_false (fun hx=>(cutO_mem.1 hx).2 rfl)
   · rw [Maps.has_del_other (key_inj e),h.2.1]
     exact decide_eq_decide.2 ⟨fun hx=>cutO_mem.2 ⟨hx,e⟩,fun hx=>(cutO_mem.1 hx).1⟩
 · have h1:=Maps.size_del (k:=key c) (f1_tidy h)
   rw [hh,if_pos rfl,h.2.2.1] at h1
   have h2:=cutO_len h.2.2.2 hc
   omega
theorem a1_del {W:World} {D:DataW Value} {dec:Int→List Int} {O:List Int} {No:Nat→Prop} {c:Int} (h:A1 W D dec O No):A1 W (D.del (key c)) dec (cutO O c) No:=by
 intro x hx
 obtain⟨h1,h2⟩:=cutO_mem.1 hx
 obtain⟨A,k,q1,q2⟩:=h x h1
 exact⟨A,k,by rw [Maps.atKey_del_other (key_inj h2)];exact q1,q2⟩
structure F2 (W:World) (M n base:Nat) (D:DataW Value) (us:Int→List Int) (val:Int→Value):Prop where
 own:W.ownsMap Tryz.prog 3 Cf.tokE M n D
 at2:∀ c,D.atKey (key c) nilT=.held (val c)
 row:∀ c,W.ownsInts base 3 .i64 (val c) (us c)
 apt:∀ c x,c≠x→(val c).ownBlock=none∨(val c).ownBlock≠(val x).ownBlock
theorem F2.kept {W W':World} {M n base:Nat} {D:DataW Value} {us:Int→List Int} {val:Int→Value} {row:Option Nat} (h:F2 W M n base D us val) (hg:W.grownBy W' row) (hne:some M≠row) (hr:∀ c,(val c).ownBlock=none∨(val c).ownBlock≠row):F2 W' M n base D us val:=
 ⟨h.own.kept hg hne,h.at2,fun c=>(h.row c).kept hg (hr c),h.apt⟩
def putV {α:Type} (f:Int → α) (c:Int) (v:α):Int → α:=fun x=>if x=c then v else f x
theorem putV_same {α:Type} (f:Int → α) (c:Int) (v:α):putV f c v c=v:=if_pos rfl
theorem putV_other {α:Type} (f:Int → α) {c x:Int} (v:α) (h:x≠c):putV f c v x=f x:=if_neg h
theorem f2_put {W W1 W2:World} {M n m base:Nat} {D:DataW Value} {us:Int→List Int} {val:Int→Value} {c x:Int} {v':Value} (h:F2 W M n base D us val) (hw:(Lit.int .i64 x).wf=true) (hg:W.grownBy W1 (val c).ownBlock) (ho':W1.ownsRow base 3 1 v' ((us c).length+1) ((us c).map (Value.int .i64) ++ [.int .i64 x]))
 (hl:v'.ownBlock=(val c).ownBlock∨∃ g,v'.ownBlock=some g∧W.heap.size≤g) (hM:M<base) (hg2:W1.grownBy W2 (some M)) (ho:W2.ownsMap Tryz.prog 3 Cf.tokE M m (D.put (key c) (.held v'))):
 F2 W2 M m base (D.put (key c) (.held v')) (putV us c (us c ++ [x])) (putV val c v'):=by
 have hrow:∀ z:Value,∀ zs,W1.ownsInts base 3 .i64 z zs→W2.ownsInts base 3 .i64 z zs:=fun z zs hz=>hz.kept hg2 (by
  cases hb:z.ownBlock with
  | none=>exact .inl rfl
  | some g=>exact .inr (fun e=>by injection e with e;have:=(hz.1.lt g hb).1;omega))
 have hfar:∀ d,d≠c→(val d).ownBlock=none∨(val d).ownBlock≠v'.ownBlock:=fun d hd=>by
  rcases hl with e | ⟨g,e,hge⟩
  · rw [e];exact h.apt d c hd
  · cases hb:(val d).ownBlock with
    | none=>exact .inl rfl
    | some k=>exact .inr (fun e2=>by rw [e] at e2;injection e2 with e2;have:=((h.row d).1.lt k hb).2;omega)
 refine⟨ho,fun d=>?_,fun d=>?_,fun d y hdy=>?_⟩
 · by_cases e:d=c
   · subst e;rw [putV_same,Maps.atKey_put_same h.own.isMap (key_is _)]
   · rw [putV_other _ _ e,Maps.atKey_put_other (key_inj e)];exact h.at2 d
 · by_cases e:d=c
   · subst e;rw [putV_same,putV_same];exact hrow _ _ ((h.row d).appended ho' hw)
   · rw [putV_other _ _ e,putV_other _ _ e]
     exact hrow _ _ ((h.row d).kept hg (h.apt d c e))
 · by_cases e:d=c
   · subst e
     rw [putV_same,putV_other _ _ (Ne.symm hdy)]
     rcases hfar y (Ne.symm hdy) with h1 | h1
     · rw [h1]
       cases v'.ownBlock with
       | none=>exact .inl rfl
       | some g=>exact .inr (by simp)
     · exact .inr (Ne.symm h1)
   · rw [putV_other _ _ e]
     by_cases e2:y=c
     · subst e2;rw [putV_same];exact hfar d e
     · rw [putV_other _ _ e2];exact h.apt d y hdy
def zero3:DataW Value:=.lit (.int .i64 0)
def F3 (W:World) (M n:Nat) (D:DataW Value) (sz:Int→Nat):Prop:=
 W.ownsMap Tryz.prog 3 (plainElem Tryz.prog 3) M n D∧∀ c,D.atKey (key c) zero3=.lit (.int .i64 (sz c:Nat))
theorem F3.kept {W W':World} {M n:Nat} {D:DataW Value} {sz:Int→Nat} {row:Option Nat} (h:F3 W M n D sz) (hg:W.grownBy W' row) (hne:some M≠row):F3 W' M n D sz:=⟨h.1.kept hg hne,h.2⟩
theorem f3_put {W W':World} {M n m:Nat} {D:DataW Value} {sz:Int→Nat} {c:Int} {k:Nat} (h:F3 W M n D sz) (ho:W'.ownsMap Tryz.prog 3 (plainElem Tryz.prog 3) M m (D.put (key c) (.lit (.int .i64 (k:Nat))))):F3 W' M m (D.put (key c) (.lit (.int .i64 (k:Nat)))) (putS sz c k):=by
 refine⟨ho,fun d=>?_⟩
 by_cases e:d=c
 · subst e;rw [putS_same,Maps.atKey_put_same h.1.isMap (key_is _)]
 · rw [putS_other e,Maps.atKey_put_other (key_inj e)];exact h.2 d
theorem own_pop {W:World} {base:Nat} {e:TypeId} {n cap g:Nat} {zs:List Value} {z:Value} (h:W.ownsRow base e 1 (.slice (some ⟨g,0,none⟩) (n+1) cap) (n+1) (zs ++ [z])):W.ownsRow base e 1 (.slice (some ⟨g,0,none⟩) n cap) n zs:=by
 have hl:zs.length=n:=by have:=h.1;simp at this;exact this
 refine⟨by simp [hl],.inr ?_⟩
 rcases h.2 with ⟨h1,-⟩ | ⟨g',cap',cur,h1,h2,h3,h4,h5,h6,h7⟩
 · cases h1
 · injection h1 with e1 e2 e3
   injection e1 with e1
   injection e1 with e1
   subst e1 e3
   refine⟨g,cap,cur,rfl,h2,h3,by omega,h5,h6,?_⟩
   have:cur.toList.take (n*1)=(cur.toList.take ((n+1)*1)).take n:=by rw [List.take_take];congr 1;omega
   rw [this,h7,List.take_append_of_le_length (by omega),List.take_of_length_le (by omega)]
theorem run_append_ints_at {W:World} (base:Nat) (v:Value) (n:Nat) (xs:List Value) (hown:W.ownsRow base 3 1 v n xs) (A:Option Addr) (m c:Nat) (zs:List Int) (hN:Vals W A m (nums .i64 zs)) (hbig:n+m≤1000000000) (hbase:base≤W.heap.size) (ty:TypeId):
 ∃ v' W',(Builtin.append_ #[31,31] ty #[v,.slice A m c]).run Tryz.prog W=.ok v' W'∧W'.ownsRow base 3 1 v' (n+m) (xs++nums .i64 zs)∧W.grownBy W' v.ownBlock∧(v'.ownBlock=v.ownBlock∨v'.ownBlock=some W.heap.size):=by
 obtain⟨i0,hi,hz0,hz1,hz2⟩:=info_parts infoI
 cases A with
 | none=>
  have hm:m=0:=by
   rcases Nat.eq_zero_or_pos m with h0 | h0
   · exact h0
   · obtain⟨b,off,e,_⟩:=hN.2 h0
     cases e
  subst hm
  obtain rfl:zs = []:=List.eq_nil_of_length_eq_zero (by have:=hN.1;rwa [nums_len] at this)
  exact⟨v,W,run_append_nil (P:=Tryz.prog) base 31 ty 3 i0 1 c Tryz.underlying31 hi v n xs hown,by simpa [nums] using hown,World.grownBy.refl W _,.inl rfl⟩
 | some ad=>
  obtain⟨v',W',h1,h2,h3,-,h5⟩:=run_append_own_at (P:=Tryz.prog) W base 31 ty 3 i0 (.int .i64 0) 1 8 Tryz.underlying31 hi hz0 hz1 hz2 rfl (by decide) v n xs hown ad m c (nums .i64 zs) (by rw [nums_len,Nat.mul_one];have:=hN.1;rwa [nums_len] at this) (vals_cells hN) nums_one' (by unfold maxLen;omega) (by omega) hbase
  exact⟨v',W',h1,h2,h3,h5⟩
end Go.Proofs.YtmellioacefjjaaGreatDoor
namespace Go.Proofs.YtmellioacefjjaaGreatDoor
open Go.RowKit Go.Shelf
attribute [local go_sem] Oper.semAt_some
theorem zeroI (w:World):(zeroValue 3).run Tryz.prog w=.ok (.int .i64 0) w:=by kernel_rfl
theorem keyI {c:Int} (h:(Lit.int .i64 c).wf=true):keyOf Tryz.prog 3 (.int .i64 c)=some (key c):=Maps.keyOf_int_mk Tryz.underlying3 h
theorem wf_nat (n:Nat) (h:n≤1000000000):(Lit.int .i64 (n:Nat)).wf=true:=WalkArith.wf_i64 (by omega)
theorem look_sz {w:World} {ops:Array Oper} {rest:List Oper} {o:Oper} {a:Act} {Q:Exit→Act→World→Prop} (hg:o.guard=none) (m x:Operand) (hop:o.op=Op.lookup 183 m x false)
 (b n:Nat) (D:DataW Value) (sz:Int→Nat) (hm:a.eval m=.map (some b)) (hF:F3 w b n D sz) (c:Int) (hx:a.eval x=.int .i64 c) (hc:(Lit.int .i64 c).wf=true)
 (hK:wpList Tryz.prog ops Q rest (a.put o.dst (.int .i64 (sz c:Nat))) w):wpList Tryz.prog ops Q (o::rest) a w:=
 wpList_lookup_own_int w hg m x 183 hop 3 3 .i64 Cf.k3 Tryz.underlying183 Tryz.underlying3 (zeroI _) b n D hm hF.1 _ _ hx (keyI hc) (fun v hv _=>by
  rw [show D.atKey (key c) (.lit (.int .i64 0))=.lit (.int .i64 (sz c:Nat)) from hF.2 c] at hv
  injection hv with hv
  injection hv with _ hv
  rw [←hv]
  exact hK)
def isOpen (O ps:List Int):Bool:=ps.any fun d=>decide (d∈O)
theorem open_hit {O ps:List Int} {k:Nat} {d:Int} (hd:ps[k]? = some d) (h:d∈O):isOpen O ps=true:=List.any_eq_true.2 ⟨d,List.mem_of_getElem? hd,decide_eq_true h⟩
theorem open_none {O ps:List Int} (h:∀ d∈ps,d∉O):isOpen O ps=false:=by
 unfold isOpen
 rw [List.any_eq_false]
 intro d hd
 simpa using h d hd
def AoI (O ps:List Int) (w:World) (i:Value) (wr:World):Prop:=∃ k:Nat,(i=.int .i64 k∧k≤ps.length)∧(∀ d∈ps.take k,d∉O)∧w=wr
theorem ao_more {O ps:List Int} {k:Nat} {d:Int} (hd:ps[k]? = some d) (hn:d∉O) (h:∀ t∈ps.take k,t∉O):∀ t∈ps.take (k+1),t∉O:=by
 have hlt:=(List.getElem?_eq_some_iff.1 hd).1
 have e:ps[k]=d:=(List.getElem?_eq_some_iff.1 hd).2
 rw [List.take_succ_eq_append_getElem hlt,e]
 intro t ht
 rcases List.mem_append.1 ht with ht | ht
 · exact h t ht
 · rw [List.mem_singleton.1 ht];exact hn
theorem held_some {w:World} {D:DataW Value} {dec:Int→List Int} {O:List Int} {No:Nat→Prop} (h:A1 w D dec O No) {c:Int} (hc:c∈O):∃ v,D.atKey (key c) (.held (.slice none 0 0))=.held v:=by
 obtain⟨A,k,h1,-⟩:=h c hc
 exact⟨_,h1⟩
set_option maxRecDepth 100000 in
set_option maxHeartbeats 1000000 in
theorem any131 (b M n nn k:Nat) (D:DataW Value) (dec:Int→List Int) (O ps:List Int) (No:Nat→Prop) (A:Option Addr) (w:World) (hc:w.cell? ⟨b,0,none⟩=some (.map (some M))) (hF:F1 w M n D O) (hA:A1 w D dec O No) (hV:Vals w A nn (nums .i64 ps)) (hn:nn≤1000) (hw:∀ d∈ps,(Lit.int .i64 d).wf=true):
 Calls Tryz.prog 131 #[.pointer (some ⟨b,0,none⟩),.slice A nn k] w fun e w'=>e=.returned (.bool (isOpen O ps))∧w=w':=by
 have hl:ps.length=nn:=by have:=hV.1;rwa [nums_len] at this
 have HL:=Lib.hid hl
 have HF:=Lib.hid hF
 have HA:=Lib.hid hA
 have HV:=Lib.hid hV
 have HW:=Lib.hid hw
 clear hF hA hV hw hl
 go_enter Tryz.func131,Tryz.ntmps131
 go_wp2
 go_loopw [11] (fun i wr=>AoI O ps w i wr) (fun i _=>nn-(intOf i).toNat)
 case atStart=>exact⟨0,⟨rfl,Nat.zero_le _⟩,fun d hd=>(by simp at hd),rfl⟩
 case round=>
  obtain⟨j,⟨rfl,hj⟩,hno,rfl⟩:=hrel
  rw [HL.out] at hj
  by_cases hlt:j<nn
  · obtain⟨d,hd⟩:∃ d,ps[j]? = some d:=⟨_,List.getElem?_eq_getElem (by have:=HL.out;omega)⟩
    obtain⟨b2,off,rfl,-,hcc⟩:=HV.out.2 (by omega)
    have k1:w.cell? ⟨b2,off+j,none⟩=some (.int .i64 d):=hcc j _ (by unfold nums;rw [List.getElem?_map,hd];rfl)
    have HWD:=Lib.hid (HW.out d (List.mem_of_getElem? hd))
    by_cases ho:d∈O
    · obtain⟨v,hv⟩:=held_some HA.out ho
      have HAT:=Lib.hid hv
      have HHS:Hid (Maps.has D (.int .i64 d)=true):=Lib.hid (by rw [show Maps.has D (.int .i64 d)=decide (d∈O) from HF.out.2.1 d];exact decide_eq_true ho)
      have HR:=Lib.hid (open_hit hd ho)
      clear hcc hd ho hno hv
      go_wp2_with (at_lookup;refine Cf.look_tok rfl _ _ rfl M n D rfl HF.out.1 d rfl HWD.out v true HAT.out HHS.out ?_)
      go_ret
      rw [HR.out]
      exact⟨rfl,rfl⟩
    · have HHS0:Maps.has D (.int .i64 d)=false:=by rw [show Maps.has D (.int .i64 d)=decide (d∈O) from HF.out.2.1 d];exact decide_eq_false ho
      have HAT:=Lib.hid (Maps.atKey_of_not_has HHS0 (.held (.slice none 0 0)))
      have HHS:=Lib.hid HHS0
      have HR:=Lib.hid (ao_more hd ho hno)
      clear hcc hd ho hno HHS0
      go_wp2_with (at_lookup;refine Cf.look_tok rfl _ _ rfl M n D rfl HF.out.1 d rfl HWD.out _ false HAT.out HHS.out ?_)
      go_roundw
      case rel=>exact⟨j+1,⟨by go_num,by rw [HL.out];omega⟩,HR.out,rfl⟩
      case measure=>simp [intOf];omega
  · have HR:Hid (isOpen O ps=false):=Lib.hid (open_none (by rw [List.take_of_length_le (by rw [HL.out];omega)] at hno;exact hno))
    have hje:j=nn:=by omega
    subst hje
    clear hno
    go_wp2
    go_ret
    rw [HR.out]
    exact⟨rfl,rfl⟩
def SzI (sz:Int→Nat) (ps:List Int) (w:World) (s i:Value) (wr:World):Prop:=∃ k:Nat,(i=.int .i64 k∧k≤ps.length)∧s=.int .i64 (sumS sz (ps.take k):Nat)∧w=wr
set_option maxRecDepth 100000 in
set_option maxHeartbeats 1000000 in
theorem size132 (b M n nn k:Nat) (D:DataW Value) (sz:Int→Nat) (ps:List Int) (A:Option Addr) (w:World) (hc:w.cell? ⟨b,2,none⟩=some (.map (some M))) (hF:F3 w M n D sz) (h5:∀ c,sz c≤5) (hV:Vals w A nn (nums .i64 ps)) (hn:nn≤1000) (hw:∀ d∈ps,(Lit.int .i64 d).wf=true):
 Calls Tryz.prog 132 #[.pointer (some ⟨b,0,none⟩),.slice A nn k] w fun e w'=>e=.returned (.int .i64 (sizeS sz ps:Nat))∧w=w':=by
 have hl:ps.length=nn:=by have:=hV.1;rwa [nums_len] at this
 have HL:=Lib.hid hl
 have HF:=Lib.hid hF
 have HV:=Lib.hid hV
 have HW:=Lib.hid hw
 have H5:=Lib.hid h5
 clear hF hV hw hl h5
 go_enter Tryz.func132,Tryz.ntmps132
 go_wp2
 go_loopw [5,10] (fun s i wr=>SzI sz ps w s i wr) (fun _ i _=>nn-(intOf i).toNat)
 case atStart=>exact⟨0,⟨rfl,Nat.zero_le _⟩,rfl,rfl⟩
 case round=>
  obtain⟨j,⟨rfl,hj⟩,rfl,rfl⟩:=hrel
  rw [HL.out] at hj
  have hs:=sumS_le H5.out (ps.take j)
  rw [List.length_take] at hs
  by_cases hlt:j<nn
  · obtain⟨d,hd⟩:∃ d,ps[j]? = some d:=⟨_,List.getElem?_eq_getElem (by have:=HL.out;omega)⟩
    obtain⟨b2,off,rfl,-,hcc⟩:=HV.out.2 (by omega)
    have k1:w.cell? ⟨b2,off+j,none⟩=some (.int .i64 d):=hcc j _ (by unfold nums;rw [List.getElem?_map,hd];rfl)
    have HWD:=Lib.hid (HW.out d (List.mem_of_getElem? hd))
    have hd5:=H5.out d
    have HS:Hid (sumS sz (ps.take (j+1))=sumS sz (ps.take j)+max 1 (sz d)):=Lib.hid (by
     rw [List.take_succ_eq_append_getElem (List.getElem?_eq_some_iff.1 hd).1,(List.getElem?_eq_some_iff.1 hd).2,sumS_snoc])
    obtain⟨S,hS⟩:∃ S,sumS sz (ps.take j)=S:=⟨_,rfl⟩
    rw [hS] at hs HS ⊢
    have hs2:S≤5000:=by omega
    clear hcc hd hS hs
    go_wp2_with (at_lookup;refine look_sz rfl _ _ rfl M n D sz rfl HF.out d rfl HWD.out ?_)
    go_roundw
    case rel=>
     refine⟨j+1,⟨by go_num,by rw [HL.out];omega⟩,?_,rfl⟩
     rw [HS.out]
     have e:((S:Int)+if 1<(sz d:Int) then (sz d:Int) else 1)=((S+max 1 (sz d):Nat):Int):=by split <;> omega
     first | rw [e] | (congr 1;omega) | (congr 1;push_cast;omega) | (congr 1;by_cases h1:1<sz d <;> omega)
    case measure=>simp [intOf];omega
  · have hje:j=nn:=by omega
    subst hje
    have HS:Hid (sumS sz (ps.take j)=sumS sz ps):=Lib.hid (by rw [List.take_of_length_le (by rw [HL.out];exact Nat.le_refl _)])
    obtain⟨S,hS⟩:∃ S,sumS sz (ps.take j)=S:=⟨_,rfl⟩
    rw [hS] at hs HS ⊢
    have hs2:S≤5000:=by omega
    clear hS hs
    have HE:Hid (sizeS sz ps=min S 5):=Lib.hid (by unfold sizeS;rw [←HS.out])
    by_cases h5':(S:Int)≤5
    · go_wp2
      go_ret
      exact⟨ret_int (by rw [HE.out];omega),rfl⟩
    · go_wp2
      go_ret
      exact⟨ret_int (by rw [HE.out];omega),rfl⟩
end Go.Proofs.YtmellioacefjjaaGreatDoor
