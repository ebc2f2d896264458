/-
  PROVED HERE: the program's mayBeWide: a table that is ok, and a width that may be; nothing that was in memory is turned. Also: 8 more texts of the same proof.
-/
import Derived.Test.YtggmjiddadjilalGreatB19
import Derived.Lib.Walk
set_option maxRecDepth 1000000
set_option maxHeartbeats 40000000
namespace Go.Proofs.YtggmjiddadjilalGreat
open Value (int)
open IntKind (i64)
section
open Go.RowKit
theorem z49 (ac ar:Option Addr) (cc cr:Nat) (t:T) (width:Int) (w:World) {z:Nat} (hc:zY w z (.slice ac t.cols.length cc) t.cols) (hr:zJ w z (.slice ar t.rows.length cr) t.rows) :
  Calls Tryz.prog 34 #[.agg #[.slice ac t.cols.length cc,int i64 t.head,int i64 t.foot,.slice ar t.rows.length cr,int i64 t.gap],int i64 width] w fun e w'=>e=.returned (.bool (zq t && inB width 0 300))/\Below w.heap.size w w':=by
 have K0:=ze (Below.refl w.heap.size w) (.cells #[.slice ac t.cols.length cc,int i64 t.head,int i64 t.foot,.slice ar t.rows.length cr,int i64 t.gap] 26);have KT:=Hd (z28 ac ar cc cr t _ (hc.kept K0) (hr.kept K0));have HK0:=Hd K0;have HI:=Hd (zA width 0 300);clear hc hr K0
 cases htk:zq t with
 | false =>
  rw [htk] at KT;clear htk;go_enter Tryz.func34,Tryz.ntmps34;go_wp2_with fail
  refine KT.out.mono ?_;rintro e w1 ⟨rfl,hb1⟩;have HK1:=Hd (zg HK0.out hb1);clear hb1 KT HK0;go_wp2;go_ret;exact ⟨rfl,HK1.out⟩
 | true =>
  rw [htk] at KT;clear htk;go_enter Tryz.func34,Tryz.ntmps34;go_wp2_with fail
  refine KT.out.mono ?_;rintro e w1 ⟨rfl,hb1⟩;have HK1:=Hd (zg HK0.out hb1);clear hb1 KT HK0;go_wp2_with fail
  refine (HI.out _).mono ?_;rintro e w2 ⟨rfl,rfl⟩;go_wp2;go_ret;exact ⟨by simp,HK1.out⟩
end
section
open Go.RowKit
section
variable {P:Program} {ops:Array Oper} {C:World->Prop}
def z0L (n:Nat):Nat->Array Bool
 | 0=>Array.replicate n false
 | k+1=>(z0L n k).setIfInBounds k true
def z6n (P:Program) (ops:Array Oper) (C:World->Prop) (Q:Exit->Act->World->Prop) (z:Nat):Nat->Array Bool->Act->Prop
 | 0,_,_=>False
 | fuel+1,listed,a=>Region.ready .any ops listed ≠ []/\∀ i ∈ Region.ready .any ops listed,if i=z then (∀ w,C w->wpOp P ops Q z (wpAny P .any ops Q fuel (listed.setIfInBounds z true)) a w) else qOp P ops C i (z6n P ops C Q z fuel (listed.setIfInBounds i true)) a
theorem z7Q {Q:Exit->Act->World->Prop} {z:Nat}:∀ (fuel:Nat) (listed:Array Bool) (a:Act) (w:World),C w->z6n P ops C Q z fuel listed a->wpAny P .any ops Q fuel listed a w
 | 0,_,_,_,_,h=>h.elim
 | fuel+1,listed,a,w,hw,h=>⟨fun h0=>absurd h0 h.1,fun i hi=>by
   have h2:=h.2 i hi;by_cases hz:i=z
   ·rw [if_pos hz] at h2;subst hz;exact h2 w hw
   ·rw [if_neg hz] at h2;exact wpOp_of_qOp hw (fun a' w' hw'=>z7Q fuel _ a' w' hw') h2⟩
theorem zam {Q:Exit->Act->World->Prop} {z i:Nat} {oi:Oper} {v:Value} (hs:z5I ops z=true) (hi:ops[i]?=some oi) (hiz:i < z) (hsel:∀ (j:Nat) (o:Oper) cs b,ops[j]?=some o->o.op ≠ .select cs b) :
  ∀ (fuel:Nat) (listed:Array Bool) (a:Act),z1S ops (fun k=>listed.getD k false) ->
   (∀ j oj,ops[j]?=some oj->j ≠ i->listed.getD j true=false->(∀ e ∈ oj.after,Region.binds .any e=true->e.on ≠ i)->oi.apart ops oj=true) ->
   i ∈ Region.ready .any ops listed->YieldsIn P ops C oi v a ->
   z6n P ops C Q z fuel (listed.setIfInBounds i true) (a.put oi.dst v)->z6n P ops C Q z (fuel+1) listed a:=by
 intro fuel
 induction fuel with
 | zero=>intro listed a _ _ _ _ H;exact H.elim
 | succ fuel ih =>
  intro listed a hcl hfree hr hy H;refine ⟨fun h=>(by rw [h] at hr;cases hr),fun j hj=>?_⟩;by_cases hji:j=i
  ·rw [if_neg (by omega)];subst hji;exact hy.qOp hi H
  ·have hjz:j ≠ z:=fun e=>by
    subst e;obtain ⟨_,o,ho,ha⟩:=mem_ready.1 hj;have h1:=z6h hs hcl ho ha _ i (Nat.le_refl _) hiz;have h0:=(mem_ready.1 hr).1
    rcases Nat.lt_or_ge i listed.size with h' | h'
    ·simp [h'] at h0 h1;rw [h0] at h1;cases h1
    ·simp [Array.getElem?_eq_none h'] at h1
   rw [if_neg hjz];have h1:=H.2 j (ready_mono hj hji);rw [if_neg hjz] at h1;obtain ⟨hjun,oj,hoj,hall⟩:=mem_ready.1 hj
   have hnot:∀ e ∈ oj.after,Region.binds .any e=true->e.on ≠ i:=fun e he hb heq=>by
    have h1:=hall e he hb;have h0:=(mem_ready.1 hr).1;rw [heq] at h1
    rcases Nat.lt_or_ge i listed.size with h' | h'
    ·simp [h'] at h0 h1;rw [h0] at h1;cases h1
    ·simp [Array.getElem?_eq_none h'] at h1
   have h2:=qOp_put hoj (hfree j oj hoj hji hjun hnot) (fun cs b=>hsel i oi cs b hi) (fun cs b=>hsel j oj cs b hoj) hy h1
   have hfree':∀ k ok,ops[k]?=some ok->k ≠ i->(listed.setIfInBounds j true).getD k true=false ->
     (∀ e ∈ ok.after,Region.binds .any e=true->e.on ≠ i)->oi.apart ops ok=true:=fun k ok hk hki hun hno=>by
    refine hfree k ok hk hki ?_ hno;by_cases hjk:j=k
    ·subst hjk;exact hjun
    ·rw [getD_set_ne true hjk] at hun;exact hun
   refine qOp_mono (fun a' h3=>ih (listed.setIfInBounds j true) a' (z4p hcl hj) hfree' (ready_mono hr (Ne.symm hji)) h3.1 ?_) h2;rw [Array.setIfInBounds_comm _ _ hji];exact h3.2
theorem z7R {Q:Exit->Act->World->Prop} {n z f:Nat} (hns:Region.noSelect ops=true) (hs:z5I ops z=true) (hz:Region.ready .any ops (z0L n z)=[z]):∀ (l:List Oper) (k:Nat) (a:Act),k+l.length=z->(∀ j,j < l.length->l[j]?=ops[k+j]?)->z1S ops (fun j=>(z0L n k).getD j false) ->
  Region.lexFrom .any ops (l.length+(f+1)) k (z0L n k)=true->wpQuiet P ops C (fun a'=>∀ w',C w'->wpOp P ops Q z (wpAny P .any ops Q f (z0L n (z+1))) a' w') l a->z6n P ops C Q z (l.length+(f+1)) (z0L n k) a
 | [],k,a,hk,_,_,_,h=>by
  have hk':k=z:=(by simpa using hk);subst hk';rw [List.length_nil,Nat.zero_add];refine ⟨by rw [hz];simp,fun i hi=>?_⟩;rw [hz] at hi;have hik:i=k:=(by simpa using hi);rw [if_pos hik];exact h
 | o :: l,k,a,hk,hl,hcl,hB,h=>by
  have h0:ops[k]?=some o:=(by simpa using (hl 0 (by simp)).symm);simp only [List.length_cons] at hk hB |-;rw [show l.length+1+(f+1)=(l.length+(f+1))+1 by omega] at hB |-;rw [Region.lexFrom] at hB;simp only [Bool.and_eq_true] at hB;obtain ⟨⟨hr,hf⟩,hB'⟩:=hB;have hr':k ∈ Region.ready .any ops (z0L n k):=(by simpa using hr);have hst:qOp P ops C k (wpQuiet P ops C (fun a'=>∀ w',C w'->wpOp P ops Q z (wpAny P .any ops Q f (z0L n (z+1))) a' w') l) a:=(by unfold qOp;simp only [h0];exact h);obtain ⟨v,hy,hK⟩:=yieldsIn_of_qOp h0 hst
  exact zam hs h0 (by omega) (Region.noSelect_spec hns) (l.length+(f+1)) (z0L n k) a hcl (Region.free_spec h0 hf) hr' hy
   (z7R hns hs hz l (k+1) _ (by omega) (fun j hj=>by have:=hl (j+1) (by simpa using hj);simpa [Nat.add_assoc,Nat.add_comm 1 j] using this) (z4p hcl hr') hB' hK)
end
theorem z8j {P:Program} {id:Nat} {Q:Exit->Act->World->Prop} {a:Act} {w:World} {l:List Oper} (n f:Nat) {o:Oper} (hm:P.follows .mixedOrders=true) (hl:l.length=n+(f+1)) (ho:l[n]?=some o) (hB:Region.lexB .any l.toArray=true) (hs:z5I l.toArray n=true) (hz:Region.ready .any l.toArray (z0L (n+(f+1)) n)=[n])
  (h:wpQuiet P l.toArray (fun w'=>∃ p:BW w,w'=p.u) (fun a'=>∀ w',(∃ p:BW w,w'=p.u)->if Region.wanted o (yielded l.toArray a'.tmps)=true then o.wp P a' w' (wpAny P .any l.toArray Q f (z0L (n+(f+1)) (n+1))) Q else wpAny P .any l.toArray Q f (z0L (n+(f+1)) (n+1)) (a'.put o.dst undef) w') (l.take n) a):(Code.region id l.toArray true).wp P Q a w:=by
 simp only [Region.lexB,Bool.and_eq_true] at hB;have hlt:(l.take n).length=n:=(by rw [List.length_take];omega);refine wp_region_any hm (z7Q (C:=fun w'=>∃ p:BW w,w'=p.u) (z:=n) _ _ _ _ ⟨⟨_,z1P (Below.refl _ _)⟩,rfl⟩ ?_)
 have hcv:∀ a',(∀ w',(∃ p:BW w,w'=p.u)->if Region.wanted o (yielded l.toArray a'.tmps)=true then o.wp P a' w' (wpAny P .any l.toArray Q f (z0L (n+(f+1)) (n+1))) Q else wpAny P .any l.toArray Q f (z0L (n+(f+1)) (n+1)) (a'.put o.dst undef) w')->∀ w',(∃ p:BW w,w'=p.u)->wpOp P l.toArray Q n (wpAny P .any l.toArray Q f (z0L (n+(f+1)) (n+1))) a' w':=by
  intro a' hR w' hw';have h1:=hR w' hw';unfold wpOp;rw [show l.toArray[n]?=some o by simpa using ho];dsimp only
  split
  ·rename_i hw;rw [if_pos hw] at h1;exact .inl h1
  ·rename_i hw;rw [if_neg hw] at h1;exact h1
 have hmono:∀ (q:List Oper) (b:Act),wpQuiet P l.toArray (fun w'=>∃ p:BW w,w'=p.u) (fun a'=>∀ w',(∃ p:BW w,w'=p.u)->if Region.wanted o (yielded l.toArray a'.tmps)=true then o.wp P a' w' (wpAny P .any l.toArray Q f (z0L (n+(f+1)) (n+1))) Q else wpAny P .any l.toArray Q f (z0L (n+(f+1)) (n+1)) (a'.put o.dst undef) w') q b->wpQuiet P l.toArray (fun w'=>∃ p:BW w,w'=p.u) (fun a'=>∀ w',(∃ p:BW w,w'=p.u)->wpOp P l.toArray Q n (wpAny P .any l.toArray Q f (z0L (n+(f+1)) (n+1))) a' w') q b:=by
  intro q
  induction q with
  | nil=>intro b hb;exact hcv b hb
  | cons o q ih =>
   intro b hb;simp only [wpQuiet] at hb |-
   split
   ·rename_i hw;rw [if_pos hw] at hb;exact Oper.quiet_mono ih hb
   ·rename_i hw;rw [if_neg hw] at hb;exact ih _ hb
 have:=z7R (P:=P) (Q:=Q) (n:=n+(f+1)) (f:=f) (C:=fun w'=>∃ p:BW w,w'=p.u) hB.1 hs hz (l.take n) 0 a (by omega) (fun j hj=>by rw [hlt] at hj;simp [hj]) (fun j i _ _=>by
  show (Array.replicate (n+(f+1)) false).getD j false=false;rw [Array.getD_eq_getD_getElem?,Array.getElem?_replicate]
  split <;> rfl) (by rw [hlt];have h9:=hB.2;rw [show l.toArray.size=n+(f+1) by simpa using hl] at h9;exact h9) (hmono _ _ h)
 rw [hlt] at this;rw [show l.toArray.size=n+(f+1) by simpa using hl];exact this
end
section
open Go.RowKit
theorem zbX (v1 v2:Value) (l:List Int) (w:World) (h1:z0g w v1 l) (h2:z0g w v2 l) :
  Calls Tryz.prog 13 #[v1,v2] w fun e w'=>e=.returned (.bool true)/\∃ n,w'=w.drewN n:=by
 obtain ⟨a1,cap1,rfl,hlen⟩:=h1.form;obtain ⟨a2,cap2,rfl,_⟩:=h2.form;have hne:((l.length:Int) != (l.length:Int))=false:=(by simp);have H1:=Hd h1;have H2:=Hd h2;clear h1 h2;go_enter Tryz.func13,Tryz.ntmps13;go_wp2_with fail
 go_loopw [5] (fun i W=>∃ k n:Nat,k<=l.length/\i=int i64 k/\W=w.drewN n) (fun i _=>l.length - (intOf i).toNat)
 case atStart=>exact ⟨0,0,Nat.zero_le _,rfl,rfl⟩
 case round =>
  obtain ⟨k,nd,hk,rfl,rfl⟩:=hrel;by_cases hlt:k < l.length
  ·obtain ⟨b1,off1,cap1',e1,hc11,hc12,hbl1,x0⟩:=H1.out.get hlt;simp only [Value.slice.injEq,true_and] at e1;obtain ⟨rfl,rfl⟩:=e1;obtain ⟨b2,z3E,cap2',e2,hc21,hc22,hbl2,y0⟩:=H2.out.get hlt;simp only [Value.slice.injEq,true_and] at e2;obtain ⟨rfl,rfl⟩:=e2;unfold maxLen at hc12 hc22;generalize l.getD k 0=x at x0 y0;have hxx:(x != x)=false:=(by simp);go_wp2_with fail
   go_quiet (fail)
   go_wp2;go_roundw
   case rel=>exact ⟨k+1,nd+nq,by omega,by go_num,rfl⟩
   case measure=>simp [intOf];omega
  ·go_wp2;go_ret;exact ⟨rfl,nd,rfl⟩
theorem z7T {P:Program} {w:World} (base:Nat) (t ty e:TypeId) (i:TypeInfo) (size c:Nat) (ht:P.underlying t=some (.slice e)) (hi:P.info? e=some i)
  (v:Value) (n:Nat) (xs:List Value) (hown:w.ownsRow base e size v n xs):(Builtin.append_ #[t,t] ty #[v,.slice none 0 c]).run P w=.ok v w:=by
 rcases hown.2 with ⟨rfl,rfl⟩ | ⟨g,cap,cur,rfl,_,_,hnc,_⟩
 ·simp [Builtin.append_,run_underlying ht,sizeOf,typeInfo,hi,Builtin.lenOf,Builtin.firstCells]
 ·simp [Builtin.append_,run_underlying ht,sizeOf,typeInfo,hi,Builtin.lenOf,Builtin.firstCells,hnc,storeCells]
theorem z5W {P:Program} (w:World) {o:Oper} {a:Act} {K:Act->World->Prop} {Q:Exit->Act->World->Prop} (s x:Operand) (t:TypeId)
  (ho:o.op=.call { callee:=.builtin .append,args:=#[s,x],argTypes:=#[t,t] })
  (base:Nat) (e:TypeId) (i:TypeInfo) (z:Value) (size bytes:Nat) (ht:P.underlying t=some (.slice e)) (hi:P.info? e=some i) (hz:i.zero=some z)
  (hsize:i.size=size) (hby:i.bytes=bytes) (hzs:z.cells.size=size) (hsz:0 < size)
  (v:Value) (n:Nat) (xs:List Value) (hs:a.eval s=v) (hown:w.ownsRow base e size v n xs)
  (ad:Option Addr) (m c:Nat) (news:List Value) (hx:a.eval x=.slice ad m c) (hm:m ≠ 0->ad ≠ none) (hl:news.length=m * size) (hnews:∀ p,ad=some p->∀ j u,news[j]?=some u->w.cell? (p.add j)=some u) (h1:∀ u ∈ news,u.oneCell'=true)
  (h63:n+m<=maxLen) (hbytes:(n+m) * bytes<=140737488355328) (hbase:base<=w.heap.size)
  (h:∀ v' w',w'.ownsRow base e size v' (n+m) (xs ++ news)->w.grownBy w' v.ownBlock->K (a.put o.dst v') w'):o.wp P a w K Q:=by
 rcases ad with _ | p
 ·obtain rfl:m=0:=by
   rcases Nat.eq_zero_or_pos m with h0 | h0
   ·exact h0
   ·exact absurd rfl (hm (by omega))
  obtain rfl:news=[]:=List.length_eq_zero_iff.1 (by omega);have hr:=z7T (P:=P) (w:=w) base t o.type e i size c ht hi v n xs hown;unfold Oper.wp execOp;simp only [ho,resolve,invoke,builtin,Sem.run_bind,Sem.run_pure,Result.andThen_ok,List.map_toArray,List.map_cons,List.map_nil,hs,hx,hr];exact h v w (by simpa using hown) ⟨rfl,rfl,rfl,Nat.le_refl _,fun _ _ _=>rfl⟩
 ·exact wp_append_own w s x t ho base e i z size bytes ht hi hz hsize hby hzs hsz v n xs hs hown p m c news hx hl (hnews p rfl) h1 h63 hbytes hbase (fun v' w' h1 h2 _=>h v' w' h1 h2)
end
section
open Go.RowKit Go.Lib
theorem zap:(Tryz.prog.info? 55).map (fun i=>(i.zero,i.size,i.bytes))=some (some (Value.agg #[int i64 0,int i64 0]),2,16):=by kernel_rfl
theorem zec (a:Option Addr) (n cap:Nat) (news:List Value) (hl:news.length=n * 2) (hn:n<=1048576) (h1:∀ u ∈ news,u.oneCell'=true) (ha:n ≠ 0->a ≠ none) (w:World)
  (hc:∀ p,a=some p->∀ j u,news[j]?=some u->w.cell? (p.add j)=some u) :
  Calls Tryz.prog 48 #[.slice a n cap] w fun e w'=>∃ v',e=.returned v'/\w'.ownsRow w.heap.size 55 2 v' n news/\Below w.heap.size w w':=by
 rcases a with _ | p
 ·obtain rfl:n=0:=by
   rcases Nat.eq_zero_or_pos n with h | h
   ·exact h
   ·exact absurd rfl (ha (by omega))
  obtain rfl:news=[]:=List.length_eq_zero_iff.1 (by omega);have hq:∀ (w:World),(binOp .eql 23 (.slice none 0 cap) (.slice none 0 0)).run Tryz.prog w=.ok (.bool true) w:=fun w=>Lib.run_eql_slice_nil w _ _ none 0 cap 0 0 Tryz.underlying23;go_enter Tryz.func48,Tryz.ntmps48;go_wp2;go_ret;exact ⟨_,rfl,⟨rfl,.inl ⟨rfl,rfl⟩⟩,Below.refl _ _⟩
 ·obtain ⟨i0,hi0,hz0,hz1,hz2⟩:=info_parts zap;have hq:∀ (w:World),(binOp .eql 23 (.slice (some p) n cap) (.slice none 0 0)).run Tryz.prog w=.ok (.bool false) w:=fun w=>Lib.run_eql_slice_nil w _ _ (some p) n cap 0 0 Tryz.underlying23;have HC:=Hd (hc p rfl);clear hc;go_enter Tryz.func48,Tryz.ntmps48;go_wp2_with (at_builtin;refine wpList_append_own _ rfl _ _ 23 rfl w.heap.size 55 i0 _ 2 16 Tryz.underlying23 hi0 hz0 hz1 hz2 rfl (by decide) _ _ _ rfl (World.ownsRow_made w #[] 0 (Nat.le_refl _) (Nat.zero_le _) (by simp)) p n cap news rfl hl ?qc2 h1 ?qc4 ?qc5 ?qc6 ?_)
  case qc2 =>
   intro j u hj;exact Lib.cell?_alloc_some _ (HC.out j u hj)
  case qc4=>rw [Nat.zero_add];unfold maxLen;omega
  case qc5=>rw [Nat.zero_add];omega
  case qc6=>simp
  intro v' w1 hown hgrow hnil;go_wp2;go_ret;exact ⟨v',rfl,by simpa using hown,((Below.refl _ w).alloc (Nat.le_refl _) _).grown hgrow (by simp) (by intro k hk;simp [Value.ownBlock] at hk;omega)⟩
theorem z74:(Tryz.prog.info? 32).map (fun i=>(i.zero,i.size,i.bytes))=some (some (Value.agg #[.slice none 0 0,.bool false]),2,32):=by kernel_rfl
theorem zed (a:Option Addr) (n cap:Nat) (news:List Value) (hl:news.length=n * 2) (hn:n<=1048576) (h1:∀ u ∈ news,u.oneCell'=true) (ha:n ≠ 0->a ≠ none) (w:World)
  (hc:∀ p,a=some p->∀ j u,news[j]?=some u->w.cell? (p.add j)=some u) :
  Calls Tryz.prog 49 #[.slice a n cap] w fun e w'=>∃ v',e=.returned v'/\w'.ownsRow w.heap.size 32 2 v' n news/\Below w.heap.size w w':=by
 rcases a with _ | p
 ·obtain rfl:n=0:=by
   rcases Nat.eq_zero_or_pos n with h | h
   ·exact h
   ·exact absurd rfl (ha (by omega))
  obtain rfl:news=[]:=List.length_eq_zero_iff.1 (by omega);have hq:∀ (w:World),(binOp .eql 24 (.slice none 0 cap) (.slice none 0 0)).run Tryz.prog w=.ok (.bool true) w:=fun w=>Lib.run_eql_slice_nil w _ _ none 0 cap 0 0 Tryz.underlying24;go_enter Tryz.func49,Tryz.ntmps49;go_wp2;go_ret;exact ⟨_,rfl,⟨rfl,.inl ⟨rfl,rfl⟩⟩,Below.refl _ _⟩
 ·obtain ⟨i0,hi0,hz0,hz1,hz2⟩:=info_parts z74;have hq:∀ (w:World),(binOp .eql 24 (.slice (some p) n cap) (.slice none 0 0)).run Tryz.prog w=.ok (.bool false) w:=fun w=>Lib.run_eql_slice_nil w _ _ (some p) n cap 0 0 Tryz.underlying24;have HC:=Hd (hc p rfl);clear hc;go_enter Tryz.func49,Tryz.ntmps49;go_wp2_with (at_builtin;refine wpList_append_own _ rfl _ _ 24 rfl w.heap.size 32 i0 _ 2 32 Tryz.underlying24 hi0 hz0 hz1 hz2 rfl (by decide) _ _ _ rfl (World.ownsRow_made w #[] 0 (Nat.le_refl _) (Nat.zero_le _) (by simp)) p n cap news rfl hl ?qc2 h1 ?qc4 ?qc5 ?qc6 ?_)
  case qc2 =>
   intro j u hj;exact Lib.cell?_alloc_some _ (HC.out j u hj)
  case qc4=>rw [Nat.zero_add];unfold maxLen;omega
  case qc5=>rw [Nat.zero_add];omega
  case qc6=>simp
  intro v' w1 hown hgrow hnil;go_wp2;go_ret;exact ⟨v',rfl,by simpa using hown,((Below.refl _ w).alloc (Nat.le_refl _) _).grown hgrow (by simp) (by intro k hk;simp [Value.ownBlock] at hk;omega)⟩
theorem z6o:(Tryz.prog.info? 36).map (fun i=>(i.zero,i.size,i.bytes))=some (some (Value.agg #[.string ⟨#[]⟩,int i64 0,int i64 0,int i64 0,int i64 0,int i64 0,int i64 0,int i64 0,int i64 0,int i64 0,int i64 0]),11,96):=by kernel_rfl
theorem zdc (a:Option Addr) (n cap:Nat) (news:List Value) (hl:news.length=n * 11) (hn:n<=1048576) (h1:∀ u ∈ news,u.oneCell'=true) (ha:n ≠ 0->a ≠ none) (w:World)
  (hc:∀ p,a=some p->∀ j u,news[j]?=some u->w.cell? (p.add j)=some u) :
  Calls Tryz.prog 50 #[.slice a n cap] w fun e w'=>∃ v',e=.returned v'/\w'.ownsRow w.heap.size 36 11 v' n news/\Below w.heap.size w w':=by
 rcases a with _ | p
 ·obtain rfl:n=0:=by
   rcases Nat.eq_zero_or_pos n with h | h
   ·exact h
   ·exact absurd rfl (ha (by omega))
  obtain rfl:news=[]:=List.length_eq_zero_iff.1 (by omega);have hq:∀ (w:World),(binOp .eql 30 (.slice none 0 cap) (.slice none 0 0)).run Tryz.prog w=.ok (.bool true) w:=fun w=>Lib.run_eql_slice_nil w _ _ none 0 cap 0 0 Tryz.underlying30;go_enter Tryz.func50,Tryz.ntmps50;go_wp2;go_ret;exact ⟨_,rfl,⟨rfl,.inl ⟨rfl,rfl⟩⟩,Below.refl _ _⟩
 ·obtain ⟨i0,hi0,hz0,hz1,hz2⟩:=info_parts z6o;have hq:∀ (w:World),(binOp .eql 30 (.slice (some p) n cap) (.slice none 0 0)).run Tryz.prog w=.ok (.bool false) w:=fun w=>Lib.run_eql_slice_nil w _ _ (some p) n cap 0 0 Tryz.underlying30;have HC:=Hd (hc p rfl);clear hc;go_enter Tryz.func50,Tryz.ntmps50;go_wp2_with (at_builtin;refine wpList_append_own _ rfl _ _ 30 rfl w.heap.size 36 i0 _ 11 96 Tryz.underlying30 hi0 hz0 hz1 hz2 rfl (by decide) _ _ _ rfl (World.ownsRow_made w #[] 0 (Nat.le_refl _) (Nat.zero_le _) (by simp)) p n cap news rfl hl ?qc2 h1 ?qc4 ?qc5 ?qc6 ?_)
  case qc2 =>
   intro j u hj;exact Lib.cell?_alloc_some _ (HC.out j u hj)
  case qc4=>rw [Nat.zero_add];unfold maxLen;omega
  case qc5=>rw [Nat.zero_add];omega
  case qc6=>simp
  intro v' w1 hown hgrow hnil;go_wp2;go_ret;exact ⟨v',rfl,by simpa using hown,((Below.refl _ w).alloc (Nat.le_refl _) _).grown hgrow (by simp) (by intro k hk;simp [Value.ownBlock] at hk;omega)⟩
end
section
open Go.RowKit
theorem z45 {α:Type} (f:α->List Value) (sz:Nat) (hf:∀ x,(f x).length=sz) (hz:0 < sz) (l:List α) {w:World} {a:Option Addr} (h:∀ i,(hi:i < l.length)->∃ b off,a=some ⟨b,off,none⟩/\∀ m,m < sz->w.cell? ⟨b,off+i * sz+m,none⟩=(f l[i])[m]?) :
  ∀ p,a=some p->∀ j u,(l.flatMap f)[j]?=some u->w.cell? (p.add j)=some u:=by
 intro p hp j u hj;have hl:j < l.length * sz:=(by rw [<-z11 f sz hf];exact (List.getElem?_eq_some_iff.1 hj).1);have h1:j / sz < l.length:=(Nat.div_lt_iff_lt_mul hz).2 hl;have h2:j % sz < sz:=Nat.mod_lt _ hz;have e:j=j / sz * sz+j % sz:=(by rw [Nat.mul_comm];exact (Nat.div_add_mod j sz).symm);obtain ⟨b,off,ha,hc⟩:=h (j / sz) h1;have hpe:p=⟨b,off,none⟩:=Option.some.inj (hp.symm.trans ha);subst hpe;have hb:=z0P f sz hf l (j / sz) h1 (j % sz) h2;rw [<-e,hj] at hb;have hd:(⟨b,off,none⟩:Addr).add j=⟨b,off+j,none⟩:=(by simp [Addr.add]);rw [hd,show off+j=off+j / sz * sz+j % sz by omega,hc (j % sz) h2,<-hb]
theorem zaq (ps:List (Int × Int)):∀ u ∈ ps.flatMap z1t,u.oneCell'=true:=by
 intro u hu;obtain ⟨p,_,hp⟩:=List.mem_flatMap.1 hu;simp only [z1t,List.mem_cons,List.not_mem_nil,or_false] at hp
 rcases hp with rfl | rfl <;> rfl
theorem z92 (cs:List C):∀ u ∈ cs.flatMap z01,u.oneCell'=true:=by
 intro u hu;obtain ⟨p,_,hp⟩:=List.mem_flatMap.1 hu;simp only [z01,List.mem_cons,List.not_mem_nil,or_false] at hp
 rcases hp with rfl | rfl | rfl | rfl | rfl | rfl | rfl | rfl | rfl | rfl | rfl <;> rfl
theorem z5m {w:World} {z n sz:Nat} {a:Option Addr} {cap:Nat} {E:Nat->Nat->Nat->Prop} (h:At w z (.slice a n cap) n sz E):n ≠ 0->a ≠ none:=by
 intro h0 e;obtain ⟨a',cap',hv,_,_,h3⟩:=h;obtain ⟨b,off,ha,_⟩:=h3 0 (by omega);simp only [Value.slice.injEq,true_and] at hv;rw [hv.1,ha] at e
 cases e
theorem zbY (a:Option Addr) (cap:Nat) (ps:List (Int × Int)) (hn:ps.length<=1048576) (w:World) {z:Nat} (h:zY w z (.slice a ps.length cap) ps) :
  Calls Tryz.prog 48 #[.slice a ps.length cap] w fun e w'=>∃ a' c',e=.returned (.slice a' ps.length c')/\zO w' w.heap.size (.slice a' ps.length c') ps/\Below w.heap.size w w':=by
 refine (zec a ps.length cap (ps.flatMap z1t) (z11 z1t 2 (fun _=>rfl) ps) hn (zaq ps) (z5m h) w (z45 z1t 2 (fun _=>rfl) (by decide) ps (fun i hi=>?_))).mono ?_
 ·obtain ⟨b,off,cap',e',_,_,_,h1,h2⟩:=At.get h hi;simp only [Value.slice.injEq,true_and] at e';refine ⟨b,off,e'.1,fun m hm=>?_⟩;rw [zI (0,0) hi] at h1 h2
  match m,hm with
  | 0,_=>exact h1
  | 1,_=>exact h2
 ·rintro e w' ⟨v',rfl,ho,hb⟩;obtain ⟨a',c',rfl,_⟩:=z04 ho;exact ⟨a',c',rfl,ho,hb⟩
theorem zaU (a:Option Addr) (cap:Nat) (cs:List C) (hn:cs.length<=1048576) (w:World) {z:Nat} (h:z0T w z (.slice a cs.length cap) cs) :
  Calls Tryz.prog 50 #[.slice a cs.length cap] w fun e w'=>∃ a' c',e=.returned (.slice a' cs.length c')/\z0a w' w.heap.size (.slice a' cs.length c') cs/\Below w.heap.size w w':=by
 refine (zdc a cs.length cap (cs.flatMap z01) (z11 z01 11 (fun _=>rfl) cs) hn (z92 cs) (z5m h) w (z45 z01 11 (fun _=>rfl) (by decide) cs (fun i hi=>?_))).mono ?_
 ·obtain ⟨b,off,cap',e',_,_,_,hx,_⟩:=At.get h hi;simp only [Value.slice.injEq,true_and] at e';refine ⟨b,off,e'.1,fun m hm=>?_⟩;rw [zI dC hi] at hx;obtain ⟨h0,h1,h2,h3,h4,h5,h6,h7,h8,h9,h10⟩:=hx
  match m,hm with
  | 0,_=>exact h0
  | 1,_=>exact h1
  | 2,_=>exact h2
  | 3,_=>exact h3
  | 4,_=>exact h4
  | 5,_=>exact h5
  | 6,_=>exact h6
  | 7,_=>exact h7
  | 8,_=>exact h8
  | 9,_=>exact h9
  | 10,_=>exact h10
 ·rintro e w' ⟨v',rfl,ho,hb⟩;obtain ⟨a',c',rfl,_⟩:=z04 ho;exact ⟨a',c',rfl,ho,hb⟩
theorem zdd {w:World} {z:Nat} {a:Option Addr} {cap:Nat} {rs:List R} (h:zJ w z (.slice a rs.length cap) rs):∃ us:List Value,us.length=rs.length/\∀ i,(hi:i < rs.length)->∃ b off u,a=some ⟨b,off,none⟩/\us[i]?=some u/\w.cell? ⟨b,off+i * 2,none⟩=some u/\w.cell? ⟨b,off+i * 2+1,none⟩=some (.bool rs[i].whole)/\(∃ au cu,u=.slice au rs[i].cells.length cu):=by
 suffices H:∀ k,k<=rs.length->∃ us:List Value,us.length=k/\∀ i,i < k->∀ hi:i < rs.length,∃ b off u,a=some ⟨b,off,none⟩/\us[i]?=some u/\w.cell? ⟨b,off+i * 2,none⟩=some u/\w.cell? ⟨b,off+i * 2+1,none⟩=some (.bool rs[i].whole)/\(∃ au cu,u=.slice au rs[i].cells.length cu) by
  obtain ⟨us,h1,h2⟩:=H rs.length (Nat.le_refl _);exact ⟨us,h1,fun i hi=>h2 i hi hi⟩
 intro k
 induction k with
 | zero=>intro _;exact ⟨[],rfl,fun i hi=>absurd hi (Nat.not_lt_zero _)⟩
 | succ k ih =>
  intro hk;obtain ⟨us,h1,h2⟩:=ih (by omega);obtain ⟨b,off,cap',e',_,_,_,u,hx0,hx1,hx⟩:=At.get h (i:=k) (by omega);simp only [Value.slice.injEq,true_and] at e';rw [zI dR (by omega:k < rs.length)] at hx1 hx;obtain ⟨au,cu,rfl,_⟩:=At.form hx;refine ⟨us ++ [.slice au rs[k].cells.length cu],by simp [h1],fun i hi hir=>?_⟩
  rcases Nat.lt_or_eq_of_le (Nat.lt_succ_iff.1 hi) with hl | rfl
  ·obtain ⟨b',off',u',p1,p2,p3,p4,p5⟩:=h2 i hl hir;exact ⟨b',off',u',p1,by rw [List.getElem?_append_left (by omega)];exact p2,p3,p4,p5⟩
  ·exact ⟨b,off,_,e'.1,by rw [List.getElem?_append_right (by omega),h1];simp,hx0,hx1,⟨au,cu,rfl⟩⟩
def z5L (us:List Value) (rs:List R):List Value:=(us.zip rs).flatMap zG
theorem zbZ (a:Option Addr) (cap:Nat) (rs:List R) (hn:rs.length<=1048576) (w:World) {z:Nat} (h:zJ w z (.slice a rs.length cap) rs) :
  Calls Tryz.prog 49 #[.slice a rs.length cap] w fun e w'=>∃ us a' c',us.length=rs.length/\e=.returned (.slice a' rs.length c')/\w'.ownsRow w.heap.size 32 2 (.slice a' rs.length c') rs.length (z5L us rs)/\Below w.heap.size w w':=by
 obtain ⟨us,hu,hg⟩:=zdd h;have hz:(us.zip rs).length=rs.length:=(by rw [List.length_zip,hu,Nat.min_self]);have hl:(z5L us rs).length=rs.length * 2:=(by rw [z5L,z11 zG 2 (fun _=>rfl),hz])
 have hone:∀ u ∈ z5L us rs,u.oneCell'=true:=by
  intro u hm;obtain ⟨p,hp,hq⟩:=List.mem_flatMap.1 hm;obtain ⟨i,hi,rfl⟩:=List.mem_iff_getElem.1 hp;rw [hz] at hi;obtain ⟨b,off,u',_,p2,_,_,au,cu,rfl⟩:=hg i hi;have e:us[i]'(by omega)=.slice au rs[i].cells.length cu:=(by rw [List.getElem?_eq_getElem (by omega)] at p2;exact Option.some.inj p2);rw [List.getElem_zip,zG,e] at hq;simp only [List.mem_cons,List.not_mem_nil,or_false] at hq
  rcases hq with rfl | rfl <;> rfl
 refine (zed a rs.length cap (z5L us rs) hl hn hone (z5m h) w (z45 zG 2 (fun _=>rfl) (by decide) (us.zip rs) (fun i hi=>?_))).mono ?_
 ·rw [hz] at hi;obtain ⟨b,off,u',p1,p2,p3,p4,_⟩:=hg i hi;have e:us[i]'(by omega)=u':=(by rw [List.getElem?_eq_getElem (by omega)] at p2;exact Option.some.inj p2);refine ⟨b,off,p1,fun m hm=>?_⟩;rw [List.getElem_zip,e]
  match m,hm with
  | 0,_=>exact p3
  | 1,_=>exact p4
 ·rintro e w' ⟨v',rfl,ho,hb⟩;obtain ⟨a',c',rfl,_⟩:=z04 ho;exact ⟨us,a',c',hu,rfl,ho,hb⟩
theorem zD.push {w w':World} {B:Nat} {U v':Value} {ur:List (Value × R)} (h:zD w B U ur) (k:w.grownBy w' U.ownBlock) {u:Value} {r:R} (hO:w'.ownsRow B 32 2 v' (ur.length+1) (ur.flatMap zG ++ zG (u,r))) (hu:z0a w B u r.cells) (ha:∀ p ∈ ur,p.1.ownBlock=none\/p.1.ownBlock ≠ u.ownBlock):zD w' B v' (ur ++ [(u,r)]):=by
 have hnn:∀ u:Value,u.ownBlock=none\/u.ownBlock ≠ none:=fun u=>by rcases hb:u.ownBlock with _ | b;exact .inl rfl;exact .inr (by simp)
 have K1:Off 0 none U.ownBlock w w':=Off.grown k;refine ⟨by simpa [List.flatMap_append] using hO,fun p hp=>?_,?_⟩
 ·rcases List.mem_append.1 hp with hp | hp
  ·exact z05 (h.cells p hp) K1 (Nat.zero_le _) (hnn _) (z1k (h.cells p hp) h.own (by decide))
  ·rw [List.mem_singleton] at hp;subst hp;exact z05 hu K1 (Nat.zero_le _) (hnn _) (z1k hu h.own (by decide))
 ·rw [List.pairwise_append];refine ⟨h.apart,List.pairwise_singleton _ _,fun p hp q hq=>?_⟩;rw [List.mem_singleton] at hq;subst hq;exact ha p hp
theorem zD.kept {w w':World} {B:Nat} {U:Value} {ur:List (Value × R)} (h:zD w B U ur) (k:Below w.heap.size w w'):zD w' B U ur:=h.since (.of_below k)
theorem zde {w:World} {z:Nat} {a:Option Addr} {cap:Nat} {ps:List (Int × Int)} (h:zY w z (.slice a ps.length cap) ps):∀ p,a=some p->∀ j u,(ps.flatMap z1t)[j]?=some u->w.cell? (p.add j)=some u:=by
 refine z45 z1t 2 (fun _=>rfl) (by decide) ps (fun i hi=>?_);obtain ⟨b,off,cap',e',_,_,_,h1,h2⟩:=At.get h hi;simp only [Value.slice.injEq,true_and] at e';refine ⟨b,off,e'.1,fun m hm=>?_⟩;rw [zI (0,0) hi] at h1 h2
 match m,hm with
 | 0,_=>exact h1
 | 1,_=>exact h2
theorem zc0 {w:World} {z:Nat} {a:Option Addr} {cap:Nat} {cs:List C} (h:z0T w z (.slice a cs.length cap) cs):∀ p,a=some p->∀ j u,(cs.flatMap z01)[j]?=some u->w.cell? (p.add j)=some u:=by
 refine z45 z01 11 (fun _=>rfl) (by decide) cs (fun i hi=>?_);obtain ⟨b,off,cap',e',_,_,_,hx,_⟩:=At.get h hi;simp only [Value.slice.injEq,true_and] at e';refine ⟨b,off,e'.1,fun m hm=>?_⟩;rw [zI dC hi] at hx;obtain ⟨h0,h1,h2,h3,h4,h5,h6,h7,h8,h9,h10⟩:=hx
 match m,hm with
 | 0,_=>exact h0
 | 1,_=>exact h1
 | 2,_=>exact h2
 | 3,_=>exact h3
 | 4,_=>exact h4
 | 5,_=>exact h5
 | 6,_=>exact h6
 | 7,_=>exact h7
 | 8,_=>exact h8
 | 9,_=>exact h9
 | 10,_=>exact h10
theorem z54 {w:World} {base:Nat} {e:TypeId} {sz:Nat} {v:Value} {m:Nat} {xs:List Value} (h:w.ownsRow base e sz v m xs) (o:Obj):(w.alloc o).ownsRow base e sz v m xs:=z1g h (.of_below (ze (Below.refl _ _) o))
theorem z6O {w w':World} {base:Nat} {e e':TypeId} {sz:Nat} {v:Value} {m:Nat} {xs:List Value} (h:w.ownsRow base e sz v m xs) (k:w.grownBy w' v.ownBlock) {g:Nat} {cur:Array Value} (hg:w.heap[g]?=some (.cells cur e')) (he:e ≠ e'):w'.heap[g]?=some (.cells cur e'):=by
 refine (k.block g (bL hg) (fun e1=>?_)).trans hg
 rcases zl h hg he with h4 | h4
 ·rw [h4] at e1;cases e1
 ·exact h4 e1.symm
structure EtJ (xb g h r a n c2 m cu:Nat) (s:ByteArray) (W3:World) (L:Nat->Bool) (W:World) (v4 v5 v6 v7 v8 v9 v10 v11 v12 v13:Value):Prop where
 f0:L 0=true->v4=.pointer (some ⟨xb,3,none⟩)
 f1:L 1=true->v5=.slice (some ⟨g,0,none⟩) n c2
 f2:L 2=true->v6=int i64 r
 f3:L 3=true->v7=.pointer (some ⟨g,r * 2,none⟩)
 f4:L 4=true->v8=.pointer (some ⟨g,r * 2,none⟩)
 f5:L 5=true->v9=.slice (some ⟨h,0,none⟩) m cu
 f6:L 6=true->v10=int i64 a
 f7:L 7=true->v11=.string s
 f8:L 8=true->v12=.pointer (some ⟨h,a * 11,none⟩)
 f9:L 9=true->v13=.pointer (some ⟨h,a * 11,none⟩)
 b:L 10=false->Below W3.heap.size W3 W
 fin:L 10=true->∃ W9,Below W3.heap.size W3 W9/\W=W9.setCell ⟨h,a * 11,none⟩ (.string s)
theorem zee (sb xb rb ab g h r a n c2 m cu:Nat) (a1:Option Addr) (cl c1:Nat) (hd ft gp:Value) (s:ByteArray) (arr cur:Array Value) (w:World)
  (hx:w.heap[xb]?=some (.cells #[.slice a1 cl c1,hd,ft,.slice (some ⟨g,0,none⟩) n c2,gp] 26)) (hsb:w.heap[sb]?=some (.cells #[.string s] 9)) (hrb:w.heap[rb]?=some (.cells #[int i64 (r:Int)] 3)) (hab:w.heap[ab]?=some (.cells #[int i64 (a:Int)] 3))
  (hg:w.heap[g]?=some (.cells arr 32)) (hr:r < n) (hq:arr[r * 2]?=some (.slice (some ⟨h,0,none⟩) m cu)) (hh:w.heap[h]?=some (.cells cur 36)) (ha:a < m) (hm:m<=cu) (hsz:cur.size=cu * 11) :
  Calls Tryz.prog 30 #[.pointer (some ⟨sb,0,none⟩),.pointer (some ⟨xb,0,none⟩),.pointer (some ⟨rb,0,none⟩),.pointer (some ⟨ab,0,none⟩)] w fun e w'=>e=.returned (.tuple #[])/\∃ W9,Below w.heap.size w W9/\w'=W9.setCell ⟨h,a * 11,none⟩ (.string s):=by
 have hmx:Tryz.prog.follows .mixedOrders=true:=(by kernel_rfl);have HX:=Hd hx;have HSb:=Hd hsb;have HRb:=Hd hrb;have HAb:=Hd hab;have HQ:=Hd ((zf hg).trans hq);have HH:=Hd hh;have hlg:=(bL hg);have hlh:=(bL hh);have has:a * 11 < cur.size:=(by omega);clear hx hsb hrb hab hg hq hh;go_enter Tryz.func30,Tryz.ntmps30;go_upto_region 0 with fail
 refine z0q (fun L act W=>∃ v4 v5 v6 v7 v8 v9 v10 v11 v12 v13:Value,act=⟨#[.pointer (some ⟨sb,0,none⟩),.pointer (some ⟨xb,0,none⟩),.pointer (some ⟨rb,0,none⟩),.pointer (some ⟨ab,0,none⟩),v4,v5,v6,v7,v8,v9,v10,v11,v12,v13],[]⟩/\EtJ xb g h r a n c2 m cu s w L W v4 v5 v6 v7 v8 v9 v10 v11 v12 v13) hmx (by kernel_rfl) ?hs ?hd ?h0
 case h0=>exact e10 ⟨rfl,⟨n0,n0,n0,n0,n0,n0,n0,n0,n0,n0,fun _=>z1P (Below.refl _ _),n0⟩⟩
 case hd =>
  intro L act W hJ hall;obtain ⟨v4,v5,v6,v7,v8,v9,v10,v11,v12,v13,ha,J⟩:=hJ;subst ha;obtain ⟨W9,hB9,rfl⟩:=J.fin (hall 10 (by decide));clear J hall;go_wp2
  go_end0
  exact ⟨rfl,W9,hB9,rfl⟩
 case hs =>
  intro L act W i o hJ hcl ho hLi haft K hK;obtain ⟨v4,v5,v6,v7,v8,v9,v10,v11,v12,v13,ha,J⟩:=hJ;subst ha
  have hi':i < 11:=by
   have:=(bL ho)
   simpa using this
  rcases (by omega:i=0\/i=1\/i=2\/i=3\/i=4\/i=5\/i=6\/i=7\/i=8\/i=9\/i=10) with rfl | rfl | rfl | rfl | rfl | rfl | rfl | rfl | rfl | rfl | rfl
  all_goals
   simp only [List.getElem?_toArray,List.getElem?_cons_zero,List.getElem?_cons_succ,Option.some.injEq] at ho;subst ho;clear hi'
  ·have hN:=Pl hcl 10 [9,8,5,4,3,1] hLi;have hB:=J.b hN;go_simp;exact hK _ _ (e10 ⟨rfl,⟨fun _=>rfl,uq J.f1,uq J.f2,uq J.f3,uq J.f4,uq J.f5,uq J.f6,uq J.f7,uq J.f8,uq J.f9,fun _=>hB,ug hN⟩⟩)
  ·have hN:=Pl hcl 10 [9,8,5,4,3] hLi;have hB:=J.b hN;obtain rfl:=J.f0 (Fa haft 0);obtain ⟨q0,q1,q2,q3,q4⟩:=zy ((hB.block _ (bL HX.out)).trans HX.out);have hl:=Nat.lt_of_lt_of_le (bL HX.out) hB.size;go_simp;exact hK _ _ (e10 ⟨rfl,⟨uq J.f0,fun _=>rfl,uq J.f2,uq J.f3,uq J.f4,uq J.f5,uq J.f6,uq J.f7,uq J.f8,uq J.f9,fun _=>hB,ug hN⟩⟩)
  ·have hN:=Pl hcl 10 [9,8,5,4,3] hLi;have hB:=J.b hN;have q0:=zf (p:=0) ((hB.block _ (bL HRb.out)).trans HRb.out);go_simp;exact hK _ _ (e10 ⟨rfl,⟨uq J.f0,uq J.f1,fun _=>rfl,uq J.f3,uq J.f4,uq J.f5,uq J.f6,uq J.f7,uq J.f8,uq J.f9,fun _=>hB,ug hN⟩⟩)
  ·have hN:=Pl hcl 10 [9,8,5,4] hLi;have hB:=J.b hN;obtain rfl:=J.f1 (Fa haft 1);obtain rfl:=J.f2 (Fa haft 2);go_simp;exact hK _ _ (e10 ⟨rfl,⟨uq J.f0,uq J.f1,uq J.f2,fun _=>rfl,uq J.f4,uq J.f5,uq J.f6,uq J.f7,uq J.f8,uq J.f9,fun _=>hB,ug hN⟩⟩)
  ·have hN:=Pl hcl 10 [9,8,5] hLi;have hB:=J.b hN;obtain rfl:=J.f3 (Fa haft 3);go_simp;exact hK _ _ (e10 ⟨rfl,⟨uq J.f0,uq J.f1,uq J.f2,uq J.f3,fun _=>rfl,uq J.f5,uq J.f6,uq J.f7,uq J.f8,uq J.f9,fun _=>hB,ug hN⟩⟩)
  ·have hN:=Pl hcl 10 [9,8] hLi;have hB:=J.b hN;obtain rfl:=J.f4 (Fa haft 4);have hq:=(hB.cell (p:=⟨g,r * 2,none⟩) hlg).trans HQ.out;go_simp;exact hK _ _ (e10 ⟨rfl,⟨uq J.f0,uq J.f1,uq J.f2,uq J.f3,uq J.f4,fun _=>rfl,uq J.f6,uq J.f7,uq J.f8,uq J.f9,fun _=>hB,ug hN⟩⟩)
  ·have hN:=Pl hcl 10 [9,8] hLi;have hB:=J.b hN;have q0:=zf (p:=0) ((hB.block _ (bL HAb.out)).trans HAb.out);go_simp;exact hK _ _ (e10 ⟨rfl,⟨uq J.f0,uq J.f1,uq J.f2,uq J.f3,uq J.f4,uq J.f5,fun _=>rfl,uq J.f7,uq J.f8,uq J.f9,fun _=>hB,ug hN⟩⟩)
  ·have hN:=Qh hcl 10 7 hLi;have hB:=J.b hN;have q0:=zf (p:=0) ((hB.block _ (bL HSb.out)).trans HSb.out);go_simp;exact hK _ _ (e10 ⟨rfl,⟨uq J.f0,uq J.f1,uq J.f2,uq J.f3,uq J.f4,uq J.f5,uq J.f6,fun _=>rfl,uq J.f8,uq J.f9,fun _=>hB,ug hN⟩⟩)
  ·have hN:=Pl hcl 10 [9] hLi;have hB:=J.b hN;obtain rfl:=J.f5 (Fa haft 5);obtain rfl:=J.f6 (Fa haft 6);go_simp;exact hK _ _ (e10 ⟨rfl,⟨uq J.f0,uq J.f1,uq J.f2,uq J.f3,uq J.f4,uq J.f5,uq J.f6,uq J.f7,fun _=>rfl,uq J.f9,fun _=>hB,ug hN⟩⟩)
  ·have hN:=Qh hcl 10 9 hLi;have hB:=J.b hN;obtain rfl:=J.f8 (Fa haft 8);go_simp;exact hK _ _ (e10 ⟨rfl,⟨uq J.f0,uq J.f1,uq J.f2,uq J.f3,uq J.f4,uq J.f5,uq J.f6,uq J.f7,uq J.f8,fun _=>rfl,fun _=>hB,ug hN⟩⟩)
  ·have hN:=hLi;have hB:=J.b hN;obtain rfl:=J.f9 (Fa haft 9);obtain rfl:=J.f7 (Fa haft 7);have hBk:=(hB.block h hlh).trans HH.out;obtain ⟨y0,hy0⟩:=z4b (p:=a * 11) hBk has;have fz:=zr (p:=a * 11) hBk;go_simp;exact hK _ _ (e10 ⟨rfl,⟨uq J.f0,uq J.f1,uq J.f2,uq J.f3,uq J.f4,uq J.f5,uq J.f6,uq J.f7,uq J.f8,uq J.f9,fun h=>absurd (h.symm.trans zB) (by simp),fun _=>⟨W,hB,rfl⟩⟩⟩)
theorem z4a (xb:Nat) (p0 p1 p2 p3:Value) (a0 a3:Option Addr) (n0 c0 n3 c3:Nat) (i1 i2 i4:Int) (w:World) (hx:w.heap[xb]?=some (.cells #[.slice a0 n0 c0,int i64 i1,int i64 i2,.slice a3 n3 c3,int i64 i4] 26)) :
  Calls Tryz.prog 29 #[.pointer (some ⟨xb,0,none⟩),.bool false,.func (.func 30) #[] #[p0,p1,p2,p3]] w fun e w'=>e=.returned (.tuple #[.agg #[.slice a0 n0 c0,int i64 i1,int i64 i2,.slice a3 n3 c3,int i64 i4],.bool false])/\Below w.heap.size w w':=by
 have hX:=(Below.heap_alloc w (.cells #[.slice none 0 0,int i64 0,int i64 0,.slice none 0 0,int i64 0] 26) xb (bL hx)).trans hx;have hZ:=zk w (.cells #[.slice none 0 0,int i64 0,int i64 0,.slice none 0 0,int i64 0] 26);have HK:=Hd (ze (Below.refl w.heap.size w) (.cells #[.slice none 0 0,int i64 0,int i64 0,.slice none 0 0,int i64 0] 26));have HX:=Hd hX;have HZ:=Hd hZ;clear hx hX hZ;go_enter Tryz.func29,Tryz.ntmps29;go_upto_region 1 with fail
 generalize w.alloc (.cells #[.slice none 0 0,int i64 0,int i64 0,.slice none 0 0,int i64 0] 26)=W0 at HK HX HZ |-;obtain ⟨z0,z1,z2,z3,z4⟩:=zy HX.out;obtain ⟨d0,d1,d2,d3,d4⟩:=zy HZ.out;have fz:∀ p,W0.frozen? ⟨w.heap.size,p,none⟩=false:=fun p=>zr HZ.out;go_wp2;exact bodyPost_ret (v:=.tuple #[.agg #[.slice a0 n0 c0,int i64 i1,int i64 i2,.slice a3 n3 c3,int i64 i4],.bool false]) (by simp [results,Tryz.results29,go_sem,d0,d1,d2,d3,d4]) rfl ⟨rfl,zw (zw (zw (zw (zw HK.out (Nat.le_refl _) _) (Nat.le_refl _) _) (Nat.le_refl _) _) (Nat.le_refl _) _) (Nat.le_refl _) _⟩
theorem z8k (xb:Nat) (p0 p1 p2 p3:Value) (a0 a3:Option Addr) (n0 c0 n3 c3:Nat) (i1 i2 i4:Int) (w:World) (P:World->Prop) (hP:∀ W W',P W->(∀ k,k ≠ w.heap.size->W'.heap[k]?=W.heap[k]?)->W'.heap.size=W.heap.size->W'.os=W.os->W'.tape=W.tape->W'.output=W.output->P W')
  (hcl:Calls Tryz.prog 30 #[p0,p1,p2,p3] (w.alloc (.cells #[.slice none 0 0,int i64 0,int i64 0,.slice none 0 0,int i64 0] 26)) fun e w'=>e=.returned (.tuple #[])/\P w'/\w'.heap[xb]?=some (.cells #[.slice a0 n0 c0,int i64 i1,int i64 i2,.slice a3 n3 c3,int i64 i4] 26)/\w'.heap[w.heap.size]?=some (.cells #[.slice none 0 0,int i64 0,int i64 0,.slice none 0 0,int i64 0] 26)) :
  Calls Tryz.prog 29 #[.pointer (some ⟨xb,0,none⟩),.bool true,.func (.func 30) #[] #[p0,p1,p2,p3]] w fun e w'=>e=.returned (.tuple #[.agg #[.slice a0 n0 c0,int i64 i1,int i64 i2,.slice a3 n3 c3,int i64 i4],.bool true])/\P w':=by
 have HC:=Hd hcl;have HP:=Hd hP;clear hcl hP;go_enter Tryz.func29,Tryz.ntmps29;go_upto_region 1 with fail
 generalize w.alloc (.cells #[.slice none 0 0,int i64 0,int i64 0,.slice none 0 0,int i64 0] 26)=W0 at HC |-;go_wp2_with (go_at_call 30;refine HC.out.mono ?_;rintro e w1 ⟨rfl,hP1,hX1,hZ1⟩;have HP1:=Hd hP1;have HX1:=Hd hX1;have HZ1:=Hd hZ1;obtain ⟨z0,z1,z2,z3,z4⟩:=zy hX1;obtain ⟨d0,d1,d2,d3,d4⟩:=zy hZ1;have fz:∀ p,w1.frozen? ⟨w.heap.size,p,none⟩=false:=fun p=>zr hZ1;clear hP1 hX1 hZ1)
 exact bodyPost_ret (v:=.tuple #[.agg #[.slice a0 n0 c0,int i64 i1,int i64 i2,.slice a3 n3 c3,int i64 i4],.bool true]) (by simp [results,Tryz.results29,go_sem,d0,d1,d2,d3,d4]) rfl ⟨rfl,HP.out _ _ HP1.out (fun k hk=>by iterate 5 rw [Below.heap_setCell _ _ _ _ (by dsimp only;exact hk)]) (by iterate 5 rw [z2c]) rfl rfl rfl⟩
end
end Go.Proofs.YtggmjiddadjilalGreat
