/-
  PROVED HERE: what the program's shareUpTo answers at every argument that may be, in memory of its own; nothing that was in memory is turned. Also: 8 more texts of the same proof.
-/
import Derived.Test.YtggmjiddadjilaeGreatC28
import Derived.Test.YtggmjiddadjilaeGreatC23
import Derived.Test.YtggmjiddadjilaeGreatC29
import Derived.Test.YtggmjiddadjilaeGreatC20
import Derived.Test.YtggmjiddadjilaeGreatC12
import Derived.Test.YtggmjiddadjilaeGreatC24
import Derived.Test.YtggmjiddadjilaeGreatC18
import Derived.Test.YtggmjiddadjilaeGreatC19
import Derived.Test.YtggmjiddadjilaeGreatC14
namespace Go.Proofs.YtggmjiddadjilaeGreat
open Go.RowKit
theorem infoU4:(Tryz.prog.info? 3).map (fun i=>(i.zero,i.size,i.bytes))=some (some (Value.int .i64 0),1,8):=by kernel_rfl
set_option maxRecDepth 100000 in
set_option maxHeartbeats 4000000 in
theorem shareUpTo_any (t:Int) (v:Value) (l:List Int) (hok:shrOkB t l=true) (w:World) (h:IntsAt w v l) :
  Calls Tryz.prog 77 #[.int .i64 t,v] w fun e w'=>∃ x,e=.returned (.tuple #[x,.int .i64 (upToN t l)])∧RowI w' w.heap.size w'.heap.size x (upToL t l)∧Below w.heap.size w w':=by
 obtain ⟨i0,hi0,hz0,hz1,hz2⟩:=info_parts infoU4
 obtain ⟨a,cap,rfl,_⟩:=h.form
 have H:=Hd h
 obtain ⟨ht,hl,hw⟩:=shrOk_parts hok
 have hsb:=sum_bound hw
 have HS:=Hd (fun W=>implsumOf_any (.slice a l.length cap) l (by omega) hw W)
 by_cases hs:l.sum≤t
 ·obtain ⟨e1,e2⟩:=upTo_all hok hs
  have E1:=Hd e1
  have E2:=Hd e2
  clear e1 e2 hw
  by_cases h0:0 < l.length
  ·obtain ⟨b,off,cap',e',_,_,hbw,_⟩:=h.get h0
   simp only [Value.slice.injEq,true_and] at e'
   obtain ⟨rfl,rfl⟩:=e'
   clear h
   go_enter Tryz.func77,Tryz.ntmps77
   go_wp2_with fail
   refine (HS.out _ H.out).mono ?_
   rintro e w1 ⟨rfl,ex⟩
   cases ex
   generalize l.sum=s at hs E2 hsb
   go_wp2_with (at_builtin;refine wpList_append_own_at _ rfl _ _ 32 rfl w.heap.size 3 i0 (.int .i64 0) 1 8 Tryz.underlying32 hi0 hz0 hz1 hz2 rfl (by decide) _ 0 [] rfl (World.ownsRow_nil w w.heap.size 3 1) ⟨b,off,none⟩ l.length cap (l.map (Value.int .i64)) rfl ?e1 (map_cells H.out (Below.refl _ _)) (map_one l) ?e4 ?e5 ?e6 ?_)
   case e1=>simp
   case e4=>unfold maxLen;omega
   case e5=>omega
   case e6=>exact Nat.le_refl _
   intro v5 w5 ho5 hg5 _ _
   have R5:=Hd (RowI.of_owns (l:=l) (by simpa using ho5))
   have K5:Hid (Below w.heap.size w w5):=(Below.refl w.heap.size w).grown hg5 (Nat.le_refl _) (fun q hq=>by simp [Value.ownBlock] at hq)
   obtain ⟨a5,c5,rfl⟩:=R5.out.form
   clear ho5 hg5
   go_wp2
   go_ret2
   exact ⟨_,retT E2.out.symm,by rw [E1.out];exact R5.out,K5.out⟩
  ·obtain rfl:l=[]:=List.eq_nil_of_length_eq_zero (by omega)
   clear h
   cases a with
   | none =>
    go_enter Tryz.func77,Tryz.ntmps77
    go_wp2_with fail
    refine (HS.out _ H.out).mono ?_
    rintro e w1 ⟨rfl,ex⟩
    cases ex
    generalize ([]:List Int).sum=s at hs E2 hsb
    go_wp2
    go_ret2
    exact ⟨_,retT E2.out.symm,by rw [E1.out];exact .inl ⟨rfl,rfl⟩,Below.refl _ _⟩
   | some p =>
    go_enter Tryz.func77,Tryz.ntmps77
    go_wp2_with fail
    refine (HS.out _ H.out).mono ?_
    rintro e w1 ⟨rfl,ex⟩
    cases ex
    generalize ([]:List Int).sum=s at hs E2 hsb
    go_wp2
    go_ret2
    exact ⟨_,retT E2.out.symm,by rw [E1.out];exact .inl ⟨rfl,rfl⟩,Below.refl _ _⟩
 ·obtain ⟨e1,e2⟩:=upTo_share hok hs
  have E1:=Hd e1
  have E2:=Hd e2
  have HSh:=Hd (fun W=>shareOut_any t (.slice a l.length cap) l hok W)
  clear e1 e2 hw h
  go_enter Tryz.func77,Tryz.ntmps77
  go_wp2_with fail
  refine (HS.out _ H.out).mono ?_
  rintro e w1 ⟨rfl,ex⟩
  cases ex
  generalize l.sum=s at hs hsb
  go_wp2_with fail
  refine (HSh.out _ H.out).mono ?_
  rintro e w2 ⟨x,rfl,hr,hb⟩
  have R:=Hd (And.intro hr hb)
  clear hr hb
  go_wp2
  go_ret2
  exact ⟨x,retT E2.out.symm,by rw [E1.out];exact R.out.1,R.out.2⟩
theorem implTxtWish (s:ByteArray) (hs:s.size≤maxLen) (w:World):Calls Tryz.prog 53 #[.string s] w fun e w'=>e=.returned (.int .i64 (wishOf s))∧w'=w:=by
 unfold wishOf
 have hm:=hs
 unfold maxLen at hm
 cases hok:txtOkB s
 all_goals
  go_enter Tryz.func53,Tryz.ntmps53
  go_wp2_with (go_at_call 39;refine (implTxtOk _ _ hs).mono ?_;rintro e w' ⟨rfl,rfl⟩;rw [hok])
  go_ret
  exact ⟨rfl,rfl⟩
set_option maxRecDepth 100000 in
set_option maxHeartbeats 1000000 in
theorem implmayBeWide (ac ar:Option Addr) (cc cr:Nat) (t:T) (width:Int) (w:World) {z:Nat} (hc:ColsAt w z (.slice ac t.cols.length cc) t.cols) (hr:RowsAt w z (.slice ar t.rows.length cr) t.rows) :
  Calls Tryz.prog 45 #[.agg #[.slice ac t.cols.length cc,.int .i64 t.head,.int .i64 t.foot,.slice ar t.rows.length cr,.int .i64 t.gap],.int .i64 width] w fun e w'=>e=.returned (.bool (tblB t && inB width 0 300))∧Below w.heap.size w w':=by
 have K0:=k_alloc (Below.refl w.heap.size w) (.cells #[.slice ac t.cols.length cc,.int .i64 t.head,.int .i64 t.foot,.slice ar t.rows.length cr,.int .i64 t.gap] 26)
 have KT:=Hd (implTblOk ac ar cc cr t _ (hc.kept K0) (hr.kept K0))
 have HK0:=Hd K0
 have HI:=Hd (within_any width 0 300)
 clear hc hr K0
 cases htk:tblB t with
 | false =>
  rw [htk] at KT
  clear htk
  go_enter Tryz.func45,Tryz.ntmps45
  go_wp2_with fail
  refine KT.out.mono ?_
  rintro e w1 ⟨rfl,hb1⟩
  have HK1:=Hd (k_trans HK0.out hb1)
  clear hb1 KT HK0
  go_wp2
  go_ret
  exact ⟨rfl,HK1.out⟩
 | true =>
  rw [htk] at KT
  clear htk
  go_enter Tryz.func45,Tryz.ntmps45
  go_wp2_with fail
  refine KT.out.mono ?_
  rintro e w1 ⟨rfl,hb1⟩
  have HK1:=Hd (k_trans HK0.out hb1)
  clear hb1 KT HK0
  go_wp2_with fail
  refine (HI.out _).mono ?_
  rintro e w2 ⟨rfl,rfl⟩
  go_wp2
  go_ret
  exact ⟨by simp,HK1.out⟩
end Go.Proofs.YtggmjiddadjilaeGreat
namespace Go.Proofs.YtggmjiddadjilaeGreat
open Go.RowKit
section
variable {P:Program} {ops:Array Oper} {C:World→Prop}
def listedTo (n:Nat):Nat→Array Bool
 | 0=>Array.replicate n false
 | k+1=>(listedTo n k).setIfInBounds k true
def wpAnyT (P:Program) (ops:Array Oper) (C:World→Prop) (Q:Exit→Act→World→Prop) (z:Nat):Nat→Array Bool→Act→Prop
 | 0,_,_=>False
 | fuel+1,listed,a=>Region.ready .any ops listed ≠ []∧∀ i ∈ Region.ready .any ops listed,if i=z then (∀ w,C w→wpOp P ops Q z (wpAny P .any ops Q fuel (listed.setIfInBounds z true)) a w) else qOp P ops C i (wpAnyT P ops C Q z fuel (listed.setIfInBounds i true)) a
theorem wpAny_of_T {Q:Exit→Act→World→Prop} {z:Nat}:∀ (fuel:Nat) (listed:Array Bool) (a:Act) (w:World),C w→wpAnyT P ops C Q z fuel listed a→wpAny P .any ops Q fuel listed a w
 | 0,_,_,_,_,h=>h.elim
 | fuel+1,listed,a,w,hw,h=>⟨fun h0=>absurd h0 h.1,fun i hi=>by
   have h2:=h.2 i hi
   by_cases hz:i=z
   ·rw [if_pos hz] at h2
    subst hz
    exact h2 w hw
   ·rw [if_neg hz] at h2
    exact wpOp_of_qOp hw (fun a' w' hw'=>wpAny_of_T fuel _ a' w' hw') h2⟩
theorem wpAnyT_first {Q:Exit→Act→World→Prop} {z i:Nat} {oi:Oper} {v:Value} (hs:succB ops z=true) (hi:ops[i]?=some oi) (hiz:i < z) (hsel:∀ (j:Nat) (o:Oper) cs b,ops[j]?=some o→o.op ≠ .select cs b) :
  ∀ (fuel:Nat) (listed:Array Bool) (a:Act),Closed ops (fun k=>listed.getD k false) →
   (∀ j oj,ops[j]?=some oj→j ≠ i→listed.getD j true=false→(∀ e ∈ oj.after,Region.binds .any e=true→e.on ≠ i)→oi.apart ops oj=true) →
   i ∈ Region.ready .any ops listed→YieldsIn P ops C oi v a →
   wpAnyT P ops C Q z fuel (listed.setIfInBounds i true) (a.put oi.dst v)→wpAnyT P ops C Q z (fuel+1) listed a:=by
 intro fuel
 induction fuel with
 | zero=>intro listed a _ _ _ _ H;exact H.elim
 | succ fuel ih =>
  intro listed a hcl hfree hr hy H
  refine ⟨fun h=>(by rw [h] at hr;cases hr),fun j hj=>?_⟩
  by_cases hji:j=i
  ·rw [if_neg (by omega)];subst hji;exact hy.qOp hi H
  ·have hjz:j ≠ z:=fun e=>by
    subst e
    obtain ⟨_,o,ho,ha⟩:=mem_ready.1 hj
    have h1:=all_ahead hs hcl ho ha _ i (Nat.le_refl _) hiz
    have h0:=(mem_ready.1 hr).1
    rcases Nat.lt_or_ge i listed.size with h' | h'
    ·simp [h'] at h0 h1;rw [h0] at h1;cases h1
    ·simp [Array.getElem?_eq_none h'] at h1
   rw [if_neg hjz]
   have h1:=H.2 j (ready_mono hj hji)
   rw [if_neg hjz] at h1
   obtain ⟨hjun,oj,hoj,hall⟩:=mem_ready.1 hj
   have hnot:∀ e ∈ oj.after,Region.binds .any e=true→e.on ≠ i:=fun e he hb heq=>by
    have h1:=hall e he hb
    have h0:=(mem_ready.1 hr).1
    rw [heq] at h1
    rcases Nat.lt_or_ge i listed.size with h' | h'
    ·simp [h'] at h0 h1;rw [h0] at h1;cases h1
    ·simp [Array.getElem?_eq_none h'] at h1
   have h2:=qOp_put hoj (hfree j oj hoj hji hjun hnot) (fun cs b=>hsel i oi cs b hi) (fun cs b=>hsel j oj cs b hoj) hy h1
   have hfree':∀ k ok,ops[k]?=some ok→k ≠ i→(listed.setIfInBounds j true).getD k true=false →
     (∀ e ∈ ok.after,Region.binds .any e=true→e.on ≠ i)→oi.apart ops ok=true:=fun k ok hk hki hun hno=>by
    refine hfree k ok hk hki ?_ hno
    by_cases hjk:j=k
    ·subst hjk;exact hjun
    ·rw [getD_set_ne true hjk] at hun;exact hun
   refine qOp_mono (fun a' h3=>ih (listed.setIfInBounds j true) a' (closed_set hcl hj) hfree' (ready_mono hr (Ne.symm hji)) h3.1 ?_) h2
   rw [Array.setIfInBounds_comm _ _ hji]
   exact h3.2
theorem wpAnyT_lex {Q:Exit→Act→World→Prop} {n z f:Nat} (hns:Region.noSelect ops=true) (hs:succB ops z=true) (hz:Region.ready .any ops (listedTo n z)=[z]):∀ (l:List Oper) (k:Nat) (a:Act),k+l.length=z→(∀ j,j < l.length→l[j]?=ops[k+j]?)→Closed ops (fun j=>(listedTo n k).getD j false) →
  Region.lexFrom .any ops (l.length+(f+1)) k (listedTo n k)=true→wpQuiet P ops C (fun a'=>∀ w',C w'→wpOp P ops Q z (wpAny P .any ops Q f (listedTo n (z+1))) a' w') l a→wpAnyT P ops C Q z (l.length+(f+1)) (listedTo n k) a
 | [],k,a,hk,_,_,_,h=>by
  have hk':k=z:=by simpa using hk
  subst hk'
  rw [List.length_nil,Nat.zero_add]
  refine ⟨by rw [hz];simp,fun i hi=>?_⟩
  rw [hz] at hi
  have hik:i=k:=by simpa using hi
  rw [if_pos hik]
  exact h
 | o :: l,k,a,hk,hl,hcl,hB,h=>by
  have h0:ops[k]?=some o:=by simpa using (hl 0 (by simp)).symm
  simp only [List.length_cons] at hk hB ⊢
  rw [show l.length+1+(f+1)=(l.length+(f+1))+1 by omega] at hB ⊢
  rw [Region.lexFrom] at hB
  simp only [Bool.and_eq_true] at hB
  obtain ⟨⟨hr,hf⟩,hB'⟩:=hB
  have hr':k ∈ Region.ready .any ops (listedTo n k):=by simpa using hr
  have hst:qOp P ops C k (wpQuiet P ops C (fun a'=>∀ w',C w'→wpOp P ops Q z (wpAny P .any ops Q f (listedTo n (z+1))) a' w') l) a:=by unfold qOp;simp only [h0];exact h
  obtain ⟨v,hy,hK⟩:=yieldsIn_of_qOp h0 hst
  exact wpAnyT_first hs h0 (by omega) (Region.noSelect_spec hns) (l.length+(f+1)) (listedTo n k) a hcl (Region.free_spec h0 hf) hr' hy
   (wpAnyT_lex hns hs hz l (k+1) _ (by omega) (fun j hj=>by have:=hl (j+1) (by simpa using hj);simpa [Nat.add_assoc,Nat.add_comm 1 j] using this) (closed_set hcl hr') hB' hK)
end
theorem wp_region_tail {P:Program} {id:Nat} {Q:Exit→Act→World→Prop} {a:Act} {w:World} {l:List Oper} (n f:Nat) {o:Oper} (hm:P.follows .mixedOrders=true) (hl:l.length=n+(f+1)) (ho:l[n]?=some o) (hB:Region.lexB .any l.toArray=true) (hs:succB l.toArray n=true) (hz:Region.ready .any l.toArray (listedTo (n+(f+1)) n)=[n])
  (h:wpQuiet P l.toArray (fun w'=>∃ p:BW w,w'=p.u) (fun a'=>∀ w',(∃ p:BW w,w'=p.u)→if Region.wanted o (yielded l.toArray a'.tmps)=true then o.wp P a' w' (wpAny P .any l.toArray Q f (listedTo (n+(f+1)) (n+1))) Q else wpAny P .any l.toArray Q f (listedTo (n+(f+1)) (n+1)) (a'.put o.dst undef) w') (l.take n) a):(Code.region id l.toArray true).wp P Q a w:=by
 simp only [Region.lexB,Bool.and_eq_true] at hB
 have hlt:(l.take n).length=n:=by rw [List.length_take];omega
 refine wp_region_any hm (wpAny_of_T (C:=fun w'=>∃ p:BW w,w'=p.u) (z:=n) _ _ _ _ ⟨⟨_,k_drew (Below.refl _ _)⟩,rfl⟩ ?_)
 have hcv:∀ a',(∀ w',(∃ p:BW w,w'=p.u)→if Region.wanted o (yielded l.toArray a'.tmps)=true then o.wp P a' w' (wpAny P .any l.toArray Q f (listedTo (n+(f+1)) (n+1))) Q else wpAny P .any l.toArray Q f (listedTo (n+(f+1)) (n+1)) (a'.put o.dst undef) w')→∀ w',(∃ p:BW w,w'=p.u)→wpOp P l.toArray Q n (wpAny P .any l.toArray Q f (listedTo (n+(f+1)) (n+1))) a' w':=by
  intro a' hR w' hw'
  have h1:=hR w' hw'
  unfold wpOp
  rw [show l.toArray[n]?=some o by simpa using ho]
  dsimp only
  split
  ·rename_i hw;rw [if_pos hw] at h1;exact .inl h1
  ·rename_i hw;rw [if_neg hw] at h1;exact h1
 have hmono:∀ (q:List Oper) (b:Act),wpQuiet P l.toArray (fun w'=>∃ p:BW w,w'=p.u) (fun a'=>∀ w',(∃ p:BW w,w'=p.u)→if Region.wanted o (yielded l.toArray a'.tmps)=true then o.wp P a' w' (wpAny P .any l.toArray Q f (listedTo (n+(f+1)) (n+1))) Q else wpAny P .any l.toArray Q f (listedTo (n+(f+1)) (n+1)) (a'.put o.dst undef) w') q b→wpQuiet P l.toArray (fun w'=>∃ p:BW w,w'=p.u) (fun a'=>∀ w',(∃ p:BW w,w'=p.u)→wpOp P l.toArray Q n (wpAny P .any l.toArray Q f (listedTo (n+(f+1)) (n+1))) a' w') q b:=by
  intro q
  induction q with
  | nil=>intro b hb;exact hcv b hb
  | cons o q ih =>
   intro b hb
   simp only [wpQuiet] at hb ⊢
   split
   ·rename_i hw;rw [if_pos hw] at hb;exact Oper.quiet_mono ih hb
   ·rename_i hw;rw [if_neg hw] at hb;exact ih _ hb
 have:=wpAnyT_lex (P:=P) (Q:=Q) (n:=n+(f+1)) (f:=f) (C:=fun w'=>∃ p:BW w,w'=p.u) hB.1 hs hz (l.take n) 0 a (by omega) (fun j hj=>by rw [hlt] at hj;simp [hj]) (fun j i _ _=>by
  show (Array.replicate (n+(f+1)) false).getD j false=false
  rw [Array.getD_eq_getD_getElem?,Array.getElem?_replicate]
  split <;> rfl) (by rw [hlt];have h9:=hB.2;rw [show l.toArray.size=n+(f+1) by simpa using hl] at h9;exact h9) (hmono _ _ h)
 rw [hlt] at this
 rw [show l.toArray.size=n+(f+1) by simpa using hl]
 exact this
end Go.Proofs.YtggmjiddadjilaeGreat
namespace Go.Proofs.YtggmjiddadjilaeGreat
open Go.RowKit
theorem row_lit (w:World) (B:Nat) (hB:B≤w.heap.size):RowI (w.alloc (.cells #[] 3)) B (w.alloc (.cells #[] 3)).heap.size (.slice (some ⟨w.heap.size,0,none⟩) 0 0) [] :=
 .inr ⟨w.heap.size,0,#[],rfl,hB,by simp,newestB _ _,Nat.le_refl _,Nat.zero_le _,rfl,fun i hi=>absurd hi (Nat.not_lt_zero _)⟩
set_option maxRecDepth 100000 in
set_option maxHeartbeats 4000000 in
theorem l4Share_nil (t:Int) (ht:0≤t∧t≤100000) (a:Option Addr) (cap:Nat) (w:World) :
  Calls Tryz.prog 87 #[.int .i64 t,.slice a 0 cap] w fun e w'=>∃ x,e=.returned x∧RowI w' w.heap.size w'.heap.size x []∧Below w.heap.size w w':=by
 have hmk:∀ u:World,(Instr.makeSlice 144 (.int .i64 0) (.int .i64 0)).run Tryz.prog u=.ok (.slice (some ⟨u.heap.size,0,none⟩) 0 0) (u.alloc (.cells (newBo 0) 4)):=fun u=>makeBo 0 (by omega) u
 have CS:=Hd (fun (v:Value) (W:World) (h:IntsAt W v [])=>specl1Sum_any v [] (by simp) rfl W h)
 have emp:∀ (W:World) (aa:Option Addr),IntsAt W (.slice aa 0 0) []:=fun W aa=>⟨aa,0,rfl,Nat.le_refl _,Nat.zero_le _,fun i hi=>absurd hi (Nat.not_lt_zero _)⟩
 have EM:=Hd emp
 clear emp
 cases a with
 | none =>
  go_enter Tryz.func87,Tryz.ntmps87
  go_wp2_with (go_at_call 33;refine (CS.out _ _ (EM.out _ _)).mono ?_;rintro e wx ⟨rfl,ex⟩;cases ex)
  go_loopw [6] (fun s6 W=>s6=.int .i64 0∧Hid (Below w.heap.size w W)) (fun _ _=>0)
  case atStart=>exact ⟨rfl,k_alloc (Below.refl _ _) _⟩
  case round =>
   obtain ⟨rfl,HB⟩:=hrel
   have hwr:=HB.out.size
   go_wp2_with (go_at_call 33;refine (CS.out _ _ (EM.out _ _)).mono ?_;rintro e wx ⟨rfl,ex⟩;cases ex)
   have R0:=Hd (((row_lit wr w.heap.size hwr).below (k_alloc (k_alloc (Below.refl _ _) (.cells #[] 3)) (.cells (newBo 0) 4)) (Nat.le_refl _)).base (Nat.le_refl _) (Nat.le_trans (by simp) (Nat.le_refl ((((wr.alloc (.cells #[] 3)).alloc (.cells #[] 3)).alloc (.cells (newBo 0) 4)).heap.size))))
   have B0:=Hd (k_alloc (k_alloc (k_alloc HB.out (.cells #[] 3)) (.cells #[] 3)) (.cells (newBo 0) 4))
   go_loopw [8,9,11] (fun s8 s9 s11 W=>(∃ a8,s8=.slice a8 0 0)∧(∃ a9,s9=.slice a9 0 0)∧s11=.int .i64 0∧Hid (RowI W w.heap.size W.heap.size s8 [])∧Hid (Below w.heap.size w W)) (fun _ _ _ _=>0)
   case atStart=>exact ⟨⟨_,rfl⟩,⟨_,rfl⟩,rfl,R0,B0⟩
   case round =>
    clear R0 B0
    obtain ⟨⟨a8,rfl⟩,⟨a9,rfl⟩,rfl,HR,HB2⟩:=hrel
    go_wp2_with (go_at_call 33;refine (CS.out _ _ (EM.out _ _)).mono ?_;rintro e wx ⟨rfl,ex⟩;cases ex)
    go_loopw [12] (fun s12 W=>s12=.int .i64 t∧Hid (RowI W w.heap.size W.heap.size (.slice a8 0 0) [])∧Hid (Below w.heap.size w W)) (fun _ _=>0)
    case atStart=>exact ⟨by simp,HR,HB2⟩
    case round =>
     clear HR HB2
     obtain ⟨rfl,HR,HB2⟩:=hrel
     by_cases h0:0 < t
     ·go_wp2
      go_ret
      exact ⟨_,rfl,HR.out,HB2.out⟩
     ·go_wp2
      go_ret
      exact ⟨_,rfl,HR.out,HB2.out⟩
 | some p =>
  go_enter Tryz.func87,Tryz.ntmps87
  go_wp2_with (go_at_call 33;refine (CS.out _ _ (EM.out _ _)).mono ?_;rintro e wx ⟨rfl,ex⟩;cases ex)
  go_loopw [6] (fun s6 W=>s6=.int .i64 0∧Hid (Below w.heap.size w W)) (fun _ _=>0)
  case atStart=>exact ⟨rfl,k_alloc (Below.refl _ _) _⟩
  case round =>
   obtain ⟨rfl,HB⟩:=hrel
   have hwr:=HB.out.size
   go_wp2_with (go_at_call 33;refine (CS.out _ _ (EM.out _ _)).mono ?_;rintro e wx ⟨rfl,ex⟩;cases ex)
   have R0:=Hd (((row_lit wr w.heap.size hwr).below (k_alloc (k_alloc (Below.refl _ _) (.cells #[] 3)) (.cells (newBo 0) 4)) (Nat.le_refl _)).base (Nat.le_refl _) (Nat.le_trans (by simp) (Nat.le_refl ((((wr.alloc (.cells #[] 3)).alloc (.cells #[] 3)).alloc (.cells (newBo 0) 4)).heap.size))))
   have B0:=Hd (k_alloc (k_alloc (k_alloc HB.out (.cells #[] 3)) (.cells #[] 3)) (.cells (newBo 0) 4))
   go_loopw [8,9,11] (fun s8 s9 s11 W=>(∃ a8,s8=.slice a8 0 0)∧(∃ a9,s9=.slice a9 0 0)∧s11=.int .i64 0∧Hid (RowI W w.heap.size W.heap.size s8 [])∧Hid (Below w.heap.size w W)) (fun _ _ _ _=>0)
   case atStart=>exact ⟨⟨_,rfl⟩,⟨_,rfl⟩,rfl,R0,B0⟩
   case round =>
    clear R0 B0
    obtain ⟨⟨a8,rfl⟩,⟨a9,rfl⟩,rfl,HR,HB2⟩:=hrel
    go_wp2_with (go_at_call 33;refine (CS.out _ _ (EM.out _ _)).mono ?_;rintro e wx ⟨rfl,ex⟩;cases ex)
    go_loopw [12] (fun s12 W=>s12=.int .i64 t∧Hid (RowI W w.heap.size W.heap.size (.slice a8 0 0) [])∧Hid (Below w.heap.size w W)) (fun _ _=>0)
    case atStart=>exact ⟨by simp,HR,HB2⟩
    case round =>
     clear HR HB2
     obtain ⟨rfl,HR,HB2⟩:=hrel
     by_cases h0:0 < t
     ·go_wp2
      go_ret
      exact ⟨_,rfl,HR.out,HB2.out⟩
     ·go_wp2
      go_ret
      exact ⟨_,rfl,HR.out,HB2.out⟩
set_option maxRecDepth 100000 in
set_option maxHeartbeats 2000000 in
theorem specl4Share (t:Int) (v:Value) (l:List Int) (hok:shrOkB t l=true) (w:World) (h:IntsAt w v l) :
  Calls Tryz.prog 87 #[.int .i64 t,v] w fun e w'=>∃ x,e=.returned x∧RowI w' w.heap.size w'.heap.size x (shareL t l)∧Below w.heap.size w w':=by
 by_cases h0:0 < l.length
 ·exact l4Share_any t v l hok h0 w h
 ·obtain rfl:l=[]:=List.eq_nil_of_length_eq_zero (by omega)
  obtain ⟨a,cap,rfl,_⟩:=h.form
  rw [shareL_none (by simp)]
  exact l4Share_nil t (shrOk_parts hok).1 a cap w
set_option maxRecDepth 100000 in
set_option maxHeartbeats 4000000 in
theorem specl4UpTo (t:Int) (v:Value) (l:List Int) (hok:shrOkB t l=true) (w:World) (h:IntsAt w v l) :
  Calls Tryz.prog 83 #[.int .i64 t,v] w fun e w'=>∃ x,e=.returned (.tuple #[x,.int .i64 (upToN t l)])∧RowI w' w.heap.size w'.heap.size x (upToL t l)∧Below w.heap.size w w':=by
 obtain ⟨i0,hi0,hz0,hz1,hz2⟩:=info_parts infoI4
 obtain ⟨a,cap,rfl,_⟩:=h.form
 have H:=Hd h
 obtain ⟨ht,hl,hw⟩:=shrOk_parts hok
 have hsb:=sum_bound hw
 have HS:=Hd (fun W=>specl1Sum_any (.slice a l.length cap) l (by omega) hw W)
 by_cases hs:l.sum≤t
 ·obtain ⟨e1,e2⟩:=upTo_all hok hs
  have E1:=Hd e1
  have E2:=Hd e2
  clear e1 e2 hw
  by_cases h0:0 < l.length
  ·obtain ⟨b,off,cap',e',_,_,hbw,_⟩:=h.get h0
   simp only [Value.slice.injEq,true_and] at e'
   obtain ⟨rfl,rfl⟩:=e'
   clear h
   go_enter Tryz.func83,Tryz.ntmps83
   go_wp2_with fail
   refine (HS.out _ H.out).mono ?_
   rintro e w1 ⟨rfl,ex⟩
   cases ex
   generalize l.sum=s at hs E2 hsb
   go_wp2_with (at_builtin;refine wpList_append_own_at _ rfl _ _ 32 rfl w.heap.size 3 i0 (.int .i64 0) 1 8 Tryz.underlying32 hi0 hz0 hz1 hz2 rfl (by decide) _ 0 [] rfl (World.ownsRow_made (base:=w.heap.size) (e:=3) (size:=1) w #[] 0 (Nat.le_refl _) (Nat.zero_le _) rfl) ⟨b,off,none⟩ l.length cap (l.map (Value.int .i64)) rfl ?e1 (map_cells H.out (k_alloc (Below.refl _ _) _)) (map_one l) ?e4 ?e5 ?e6 ?_)
   case e1=>simp
   case e4=>unfold maxLen;omega
   case e5=>omega
   case e6=>simp
   intro v5 w5 ho5 hg5 _ _
   have R5:=Hd (RowI.of_owns (l:=l) (by simpa using ho5))
   have K5:Hid (Below w.heap.size w w5):=(k_alloc (Below.refl w.heap.size w) (.cells #[] 3)).grown hg5 (by simp) (fun q hq=>by
    have:q=w.heap.size:=by simpa [Value.ownBlock] using hq.symm
    omega)
   obtain ⟨a5,c5,rfl⟩:=R5.out.form
   clear ho5 hg5
   go_wp2
   go_ret2
   exact ⟨_,retT E2.out.symm,by rw [E1.out];exact R5.out,K5.out⟩
  ·obtain rfl:l=[]:=List.eq_nil_of_length_eq_zero (by omega)
   clear h
   cases a with
   | none =>
    go_enter Tryz.func83,Tryz.ntmps83
    go_wp2_with fail
    refine (HS.out _ H.out).mono ?_
    rintro e w1 ⟨rfl,ex⟩
    cases ex
    generalize ([]:List Int).sum=s at hs E2 hsb
    go_wp2
    go_ret2
    exact ⟨_,retT E2.out.symm,by rw [E1.out];exact row_lit w _ (Nat.le_refl _),k_alloc (Below.refl _ _) _⟩
   | some p =>
    go_enter Tryz.func83,Tryz.ntmps83
    go_wp2_with fail
    refine (HS.out _ H.out).mono ?_
    rintro e w1 ⟨rfl,ex⟩
    cases ex
    generalize ([]:List Int).sum=s at hs E2 hsb
    go_wp2
    go_ret2
    exact ⟨_,retT E2.out.symm,by rw [E1.out];exact row_lit w _ (Nat.le_refl _),k_alloc (Below.refl _ _) _⟩
 ·obtain ⟨e1,e2⟩:=upTo_share hok hs
  have E1:=Hd e1
  have E2:=Hd e2
  have HSh:=Hd (fun W=>specl4Share t (.slice a l.length cap) l hok W)
  clear e1 e2 hw h
  go_enter Tryz.func83,Tryz.ntmps83
  go_wp2_with fail
  refine (HS.out _ H.out).mono ?_
  rintro e w1 ⟨rfl,ex⟩
  cases ex
  generalize l.sum=s at hs hsb
  go_wp2_with fail
  refine (HSh.out _ H.out).mono ?_
  rintro e w2 ⟨x,rfl,hr,hb⟩
  have R:=Hd (And.intro hr hb)
  clear hr hb
  go_wp2
  go_ret2
  exact ⟨x,retT E2.out.symm,by rw [E1.out];exact R.out.1,R.out.2⟩
theorem at3n (n:Nat) (hn:n≤9) (k:Int) (h0:0≤k) (h1:k < 3):∃ v:Int,(#[.int .i64 (-1),.int .i64 9,.int .i64 (n:Int)]:Array Value)[k.toNat]?=some (.int .i64 v)∧-1≤v∧v≤9:=by
 rcases (by omega:k=0∨k=1∨k=2) with rfl | rfl | rfl
 ·exact ⟨-1,rfl,by omega,by omega⟩
 ·exact ⟨9,rfl,by omega,by omega⟩
 ·exact ⟨n,rfl,by omega,by omega⟩
def hdRCnt (L:Nat→Bool):Nat:=(if L 5=true then 1 else 0)
theorem hdRCnt_le (L:Nat→Bool):hdRCnt L≤1:=by unfold hdRCnt;(repeat (first | omega | split))
theorem hdRCnt_5 {L:Nat→Bool} (h:L 5=false):hdRCnt (upd L 5)=hdRCnt L+1:=by simp [hdRCnt,upd,h]
theorem hdRCnt_same {L:Nat→Bool} {i:Nat} (h:i ≠ 5):hdRCnt (upd L i)=hdRCnt L:=by
 have k5:(5:Nat) ≠ i:=fun e=>(h) e.symm
 simp [hdRCnt,upd,k5]
structure hdRJ (r B n0:Nat) (w0:World) (F:World→Prop) (tb:Nat) (tc:Array Value) (ra:Option Addr) (rn rc:Nat)  (L:Nat→Bool) (w:World) (v33 v34 v35 v36 v37 v38 v39 v40 v41:Value):Prop where
 f0:L 0=true→v33=.pointer (some ⟨tb,3,none⟩)
 f1:L 1=true→v34=.slice ra rn rc
 f2:L 2=true→v35=.int .i64 (rn:Int)
 f3:L 3=true→L 9=false→PB n0 w 3 3 (fun arr=>arr=#[.int .i64 (-1),.int .i64 9,.int .i64 (rn:Int)]) v36
 f4:L 4=true→v37=.pointer (some ⟨r,0,none⟩)
 f5:L 5=true→PI 0 2 v38
 f6:L 6=true→L 9=false→PP n0 w 3 (fun arr k=>∃ v:Int,arr[k]?=some (.int .i64 v)∧-1≤v∧v≤9) v39
 f7:L 7=true→PI (-1) 9 v40
 f8:L 8=true→v41=.pointer (some ⟨tb,1,none⟩)
 rd:Rd w r (B+hdRCnt L)
 bk:Bk r w0 w
 fr:F w
 tb0:L 9=false→w.heap[tb]?=some (.cells tc 26)
 tb1:L 9=true→∃ v:Int,(-1≤v∧v≤9)∧w.heap[tb]?=some (.cells (tc.setIfInBounds 1 (.int .i64 v)) 26)
def hdR (r B n0:Nat) (w0:World) (F:World→Prop) (tb:Nat) (tc:Array Value) (ra:Option Addr) (rn rc:Nat)  (mk:Value→Value→Value→Value→Value→Value→Value→Value→Value→Act) (L:Nat→Bool) (a:Act) (w:World):Prop:=∃ v33 v34 v35 v36 v37 v38 v39 v40 v41:Value,a=mk v33 v34 v35 v36 v37 v38 v39 v40 v41∧hdRJ r B n0 w0 F tb tc ra rn rc L w v33 v34 v35 v36 v37 v38 v39 v40 v41
def ftRCnt (L:Nat→Bool):Nat:=(if L 5=true then 1 else 0)
theorem ftRCnt_le (L:Nat→Bool):ftRCnt L≤1:=by unfold ftRCnt;(repeat (first | omega | split))
theorem ftRCnt_5 {L:Nat→Bool} (h:L 5=false):ftRCnt (upd L 5)=ftRCnt L+1:=by simp [ftRCnt,upd,h]
theorem ftRCnt_same {L:Nat→Bool} {i:Nat} (h:i ≠ 5):ftRCnt (upd L i)=ftRCnt L:=by
 have k5:(5:Nat) ≠ i:=fun e=>(h) e.symm
 simp [ftRCnt,upd,k5]
structure ftRJ (r B n0:Nat) (w0:World) (F:World→Prop) (tb:Nat) (tc:Array Value) (ra:Option Addr) (rn rc:Nat)  (L:Nat→Bool) (w:World) (v44 v45 v46 v47 v48 v49 v50 v51 v52:Value):Prop where
 f0:L 0=true→v44=.pointer (some ⟨tb,3,none⟩)
 f1:L 1=true→v45=.slice ra rn rc
 f2:L 2=true→v46=.int .i64 (rn:Int)
 f3:L 3=true→L 9=false→PB n0 w 3 3 (fun arr=>arr=#[.int .i64 (-1),.int .i64 9,.int .i64 (rn:Int)]) v47
 f4:L 4=true→v48=.pointer (some ⟨r,0,none⟩)
 f5:L 5=true→PI 0 2 v49
 f6:L 6=true→L 9=false→PP n0 w 3 (fun arr k=>∃ v:Int,arr[k]?=some (.int .i64 v)∧-1≤v∧v≤9) v50
 f7:L 7=true→PI (-1) 9 v51
 f8:L 8=true→v52=.pointer (some ⟨tb,2,none⟩)
 rd:Rd w r (B+ftRCnt L)
 bk:Bk r w0 w
 fr:F w
 tb0:L 9=false→w.heap[tb]?=some (.cells tc 26)
 tb1:L 9=true→∃ v:Int,(-1≤v∧v≤9)∧w.heap[tb]?=some (.cells (tc.setIfInBounds 2 (.int .i64 v)) 26)
def ftR (r B n0:Nat) (w0:World) (F:World→Prop) (tb:Nat) (tc:Array Value) (ra:Option Addr) (rn rc:Nat)  (mk:Value→Value→Value→Value→Value→Value→Value→Value→Value→Act) (L:Nat→Bool) (a:Act) (w:World):Prop:=∃ v44 v45 v46 v47 v48 v49 v50 v51 v52:Value,a=mk v44 v45 v46 v47 v48 v49 v50 v51 v52∧ftRJ r B n0 w0 F tb tc ra rn rc L w v44 v45 v46 v47 v48 v49 v50 v51 v52
def acRCnt (L:Nat→Bool):Nat:=(if L 3=true then 1 else 0)+(if L 6=true then 1 else 0)
theorem acRCnt_le (L:Nat→Bool):acRCnt L≤2:=by unfold acRCnt;(repeat (first | omega | split))
theorem acRCnt_3 {L:Nat→Bool} (h:L 3=false):acRCnt (upd L 3)=acRCnt L+1:=by simp [acRCnt,upd,h];omega
theorem acRCnt_6 {L:Nat→Bool} (h:L 6=false):acRCnt (upd L 6)=acRCnt L+1:=by simp [acRCnt,upd,h]
theorem acRCnt_same {L:Nat→Bool} {i:Nat} (h:i ≠ 3∧i ≠ 6):acRCnt (upd L i)=acRCnt L:=by
 have k3:(3:Nat) ≠ i:=fun e=>(h.1) e.symm
 have k6:(6:Nat) ≠ i:=fun e=>(h.2) e.symm
 simp [acRCnt,upd,k3,k6]
structure acRJ (r B n0:Nat) (w0:World) (F:World→Prop) (base:Nat) (U:Value) (nn:Nat) (xs:List Value) (tb:Nat) (tc:Array Value)  (L:Nat→Bool) (w:World) (v63 v64 v65 v66 v67 v68 v69 v70 v71 v72 v73 v74 v75:Value):Prop where
 f0:L 0=true→v63=.pointer (some ⟨tb,0,none⟩)
 f1:L 1=true→v64=U
 f2:L 2=true→v65=.pointer (some ⟨r,0,none⟩)
 f3:L 3=true→PI 0 3 v66
 f4:L 4=true→L 11=false→PB n0 w 3 4 (fun arr=>arr=#[.int .i64 (-1),.int .i64 0,.int .i64 61,.int .i64 101]) v67
 f5:L 5=true→v68=.pointer (some ⟨r,0,none⟩)
 f6:L 6=true→PI 0 3 v69
 f7:L 7=true→L 11=false→PP n0 w 3 (fun arr k=>∃ v:Int,arr[k]?=some (.int .i64 v)) v70
 f8:L 8=true→∃ v:Int,v71=.int .i64 v
 f9:L 9=true→∃ x y:Int,v72=.agg #[.int .i64 x,.int .i64 y]
 f10:L 10=true→L 11=false→PB n0 w 45 1 (fun arr=>∃ x y:Int,arr=#[.int .i64 x,.int .i64 y]) v73
 f12:L 12=true→v75=.pointer (some ⟨tb,0,none⟩)
 rd:Rd w r (B+acRCnt L)
 bk:Bk r w0 w
 fr:F w
 own:L 11=false→w.ownsRow base 45 2 U nn xs
 ownA:L 11=true→∃ nw,(∃ p,nw=colVs p)∧w.ownsRow base 45 2 v74 (nn+1) (xs ++ nw)
 tb0:L 13=false→w.heap[tb]?=some (.cells tc 26)
 tb1:L 13=true→w.heap[tb]?=some (.cells (tc.setIfInBounds (0) v74) 26)
def acR (r B n0:Nat) (w0:World) (F:World→Prop) (base:Nat) (U:Value) (nn:Nat) (xs:List Value) (tb:Nat) (tc:Array Value)  (mk:Value→Value→Value→Value→Value→Value→Value→Value→Value→Value→Value→Value→Value→Act) (L:Nat→Bool) (a:Act) (w:World):Prop:=∃ v63 v64 v65 v66 v67 v68 v69 v70 v71 v72 v73 v74 v75:Value,a=mk v63 v64 v65 v66 v67 v68 v69 v70 v71 v72 v73 v74 v75∧acRJ r B n0 w0 F base U nn xs tb tc L w v63 v64 v65 v66 v67 v68 v69 v70 v71 v72 v73 v74 v75
def crRCnt (L:Nat→Bool):Nat:=(if L 10=true then 50 else 0)
theorem crRCnt_le (L:Nat→Bool):crRCnt L≤50:=by unfold crRCnt;(repeat (first | omega | split))
theorem crRCnt_10 {L:Nat→Bool} (h:L 10=false):crRCnt (upd L 10)=crRCnt L+50:=by simp [crRCnt,upd,h]
theorem crRCnt_same {L:Nat→Bool} {i:Nat} (h:i ≠ 10):crRCnt (upd L i)=crRCnt L:=by
 have k10:(10:Nat) ≠ i:=fun e=>(h) e.symm
 simp [crRCnt,upd,k10]
structure crRJ (r B n0:Nat) (w0:World) (F:World→Prop) (base:Nat) (U:Value) (nn:Nat) (xs:List Value) (tb:Nat) (tc:Array Value) (t5 kk rn rc:Nat)  (L:Nat→Bool) (w:World) (v78 v79 v80 v81 v82 v83 v84 v85 v86 v87 v88 v89 v90 v91 v92:Value):Prop where
 f0:L 0=true→v78=.pointer (some ⟨t5,3,none⟩)
 f1:L 1=true→v79=.slice (some ⟨tb,0,none⟩) rn rc
 f2:L 2=true→v80=.int .i64 (kk:Int)
 f3:L 3=true→v81=.pointer (some ⟨t5,3,none⟩)
 f4:L 4=true→v82=.slice (some ⟨tb,0,none⟩) rn rc
 f5:L 5=true→v83=.int .i64 (kk:Int)
 f6:L 6=true→v84=.pointer (some ⟨tb,kk * 2,none⟩)
 f7:L 7=true→v85=.pointer (some ⟨tb,kk * 2,none⟩)
 f8:L 8=true→v86=U
 f9:L 9=true→v87=.pointer (some ⟨r,0,none⟩)
 f10:L 10=true→∃ x:C,v88=.agg #[.string x.s,.int .i64 x.c,.int .i64 x.r,.int .i64 x.a1,.int .i64 x.b1,.int .i64 x.a2,.int .i64 x.b2,.int .i64 x.a3,.int .i64 x.b3,.int .i64 x.a4,.int .i64 x.b4]∧Cx x
 f11:L 11=true→L 12=false→PB n0 w 70 1 (fun arr=>∃ x:C,arr=(cellVs x).toArray∧Cx x) v89
 f13:L 13=true→v91=.pointer (some ⟨tb,kk * 2,none⟩)
 f14:L 14=true→v92=.pointer (some ⟨tb,kk * 2,none⟩)
 rd:Rd w r (B+crRCnt L)
 bk:Bk r w0 w
 fr:F w
 own:L 12=false→w.ownsRow base 70 11 U nn xs
 ownA:L 12=true→∃ nw,(∃ x,nw=cellVs x∧Cx x)∧w.ownsRow base 70 11 v90 (nn+1) (xs ++ nw)
 tb0:L 15=false→w.heap[tb]?=some (.cells tc 65)
 tb1:L 15=true→w.heap[tb]?=some (.cells (tc.setIfInBounds (kk * 2) v90) 65)
def crR (r B n0:Nat) (w0:World) (F:World→Prop) (base:Nat) (U:Value) (nn:Nat) (xs:List Value) (tb:Nat) (tc:Array Value) (t5 kk rn rc:Nat)  (mk:Value→Value→Value→Value→Value→Value→Value→Value→Value→Value→Value→Value→Value→Value→Value→Act) (L:Nat→Bool) (a:Act) (w:World):Prop:=∃ v78 v79 v80 v81 v82 v83 v84 v85 v86 v87 v88 v89 v90 v91 v92:Value,a=mk v78 v79 v80 v81 v82 v83 v84 v85 v86 v87 v88 v89 v90 v91 v92∧crRJ r B n0 w0 F base U nn xs tb tc t5 kk rn rc L w v78 v79 v80 v81 v82 v83 v84 v85 v86 v87 v88 v89 v90 v91 v92
def AnyPost (r B:Nat) (w:World) (e:Ending) (w':World):Prop :=
 ∃ (ac ar:Option Addr) (cc cr:Nat) (t:T),e=.returned (.agg #[.slice ac t.cols.length cc,.int .i64 t.head,.int .i64 t.foot,.slice ar t.rows.length cr,.int .i64 t.gap])∧Drawn t∧ColsAt w' w.heap.size (.slice ac t.cols.length cc) t.cols∧RowsAt w' w.heap.size (.slice ar t.rows.length cr) t.rows∧Rd w' r (B+3000)∧Bk r w w'
theorem own_st5' {w:World} {base g:Nat} {cur:Array Value} {vc vr:Value} {ps:List (Int × Int)} {ur:List (Value × R)} (h1:OwnCol w base vc ps) (h2:w.ownsRow base 65 2 vr ur.length (ur.flatMap rowVs)) (h3:∀ p ∈ ur,OwnC w base p.1 p.2.cells) (hg:w.heap[g]?=some (.cells cur 26)) (y0 y1 y2 y3 y4:Value) :
  OwnCol (st5 w g y0 y1 y2 y3 y4) base vc ps∧(st5 w g y0 y1 y2 y3 y4).ownsRow base 65 2 vr ur.length (ur.flatMap rowVs)∧∀ p ∈ ur,OwnC (st5 w g y0 y1 y2 y3 y4) base p.1 p.2.cells:=by
 have ho:Off base (some g) none w (st5 w g y0 y1 y2 y3 y4):=Off.ofBk (st5_bk w g y0 y1 y2 y3 y4)
 have hnn:∀ x:Value,x.ownBlock=none∨x.ownBlock ≠ none:=fun x=>by cases x.ownBlock <;> simp
 exact ⟨row_off h1 ho (Nat.le_refl _) (row_ne_block h1 hg (by decide)) (hnn _),row_off h2 ho (Nat.le_refl _) (row_ne_block h2 hg (by decide)) (hnn _),fun p hp=>row_off (h3 p hp) ho (Nat.le_refl _) (row_ne_block (h3 p hp) hg (by decide)) (hnn _)⟩
theorem AnyPost.mk' {r B:Nat} {w w':World} {ac ar:Option Addr} {cc cr:Nat} {ps:List (Int × Int)} {ur:List (Value × R)} {hd ft gp:Int} (hD:Drawn ⟨ps,hd,ft,ur.map (·.2),gp⟩) (h1:ColsAt w' w.heap.size (.slice ac ps.length cc) ps) (h2:RowsAt w' w.heap.size (.slice ar ur.length cr) (ur.map (·.2)))
  (h3:Rd w' r (B+3000)) (h4:Bk r w w'):AnyPost r B w (.returned (.agg #[.slice ac ps.length cc,.int .i64 hd,.int .i64 ft,.slice ar ur.length cr,.int .i64 gp])) w' :=
 ⟨ac,ar,cc,cr,⟨ps,hd,ft,ur.map (·.2),gp⟩,by simp,hD,h1,by simpa using h2,h3,h4⟩
def FA (w:World) (vc vr:Value) (ps:List (Int × Int)) (ur:List (Value × R)) (W:World):Prop:=OwnCol W w.heap.size vc ps∧OwnR W w.heap.size vr ur∧W.heap[w.heap.size]?=some (.cells #[.slice none 0 0,.int .i64 0,.int .i64 0,.slice none 0 0,.int .i64 0] 26)
def FB (w:World) (vr:Value) (ur:List (Value × R)) (W:World):Prop:=OwnR W w.heap.size vr ur∧W.heap[w.heap.size]?=some (.cells #[.slice none 0 0,.int .i64 0,.int .i64 0,.slice none 0 0,.int .i64 0] 26)
theorem nn' (x:Value):x.ownBlock=none∨x.ownBlock ≠ none:=by cases x.ownBlock <;> simp
theorem FA.stays {w:World} {tb:Nat} {vc vr:Value} {ps:List (Int × Int)} {ur:List (Value × R)} (hz:w.heap.size < tb) (h1:vc.ownBlock=none∨vc.ownBlock ≠ some tb) (h2:vr.ownBlock=none∨vr.ownBlock ≠ some tb) (h3:∀ p ∈ ur,p.1.ownBlock=none∨p.1.ownBlock ≠ some tb):Stays w.heap.size tb (.slice none 0 0) (FA w vc vr ps ur) :=
 fun _ _ ⟨a1,a2,a3⟩ ho=>⟨row_off a1 ho (Nat.le_refl _) h1 (nn' _),a2.off ho (Nat.le_refl _) h2 (nn' _) (fun p hp=>⟨h3 p hp,nn' _⟩),(ho.block _ (Nat.le_refl _) (bL a3) (by simp;omega) (by simp [Value.ownBlock])).trans a3⟩
theorem FB.stays {w:World} {tb:Nat} {vc vr:Value} {ur:List (Value × R)} (hz:w.heap.size < tb) (h2:vr.ownBlock=none∨vr.ownBlock ≠ some tb) (h3:∀ p ∈ ur,p.1.ownBlock=none∨p.1.ownBlock ≠ some tb) (h4:vr.ownBlock=none∨vr.ownBlock ≠ vc.ownBlock) (h5:∀ p ∈ ur,p.1.ownBlock=none∨p.1.ownBlock ≠ vc.ownBlock) (h6:some w.heap.size ≠ vc.ownBlock):Stays w.heap.size tb vc (FB w vr ur) :=
 fun _ _ ⟨a2,a3⟩ ho=>⟨a2.off ho (Nat.le_refl _) h2 h4 (fun p hp=>⟨h3 p hp,h5 p hp⟩),(ho.block _ (Nat.le_refl _) (bL a3) (by simp;omega) h6).trans a3⟩
def FC (w:World) (t5:Nat) (tc:Array Value) (vc:Value) (ps:List (Int × Int)) (ur:List (Value × R)) (kk:Nat) (W:World):Prop :=
 W.heap[t5]?=some (.cells tc 26)∧OwnCol W w.heap.size vc ps∧W.heap[w.heap.size]?=some (.cells #[.slice none 0 0,.int .i64 0,.int .i64 0,.slice none 0 0,.int .i64 0] 26)∧∀ i (hi:i < ur.length),i ≠ kk→OwnC W w.heap.size ur[i].1 ur[i].2.cells
theorem FC.stays {w:World} {t5 rb:Nat} {tc:Array Value} {vc u:Value} {ps:List (Int × Int)} {ur:List (Value × R)} {kk:Nat} (ht:w.heap.size≤t5) (h1:some t5 ≠ some rb) (h2:some t5 ≠ u.ownBlock) (h3:vc.ownBlock=none∨vc.ownBlock ≠ some rb) (h4:vc.ownBlock=none∨vc.ownBlock ≠ u.ownBlock)
  (h5:some w.heap.size ≠ some rb) (h6:some w.heap.size ≠ u.ownBlock) (h7:∀ i (hi:i < ur.length),i ≠ kk→OffV ur[i].1 (some rb) u.ownBlock):Stays w.heap.size rb u (FC w t5 tc vc ps ur kk) :=
 fun _ _ ⟨a1,a2,a3,a4⟩ ho=>⟨(ho.block _ ht (bL a1) h1 h2).trans a1,row_off a2 ho (Nat.le_refl _) h3 h4,(ho.block _ (Nat.le_refl _) (bL a3) h5 h6).trans a3,fun i hi hk=>row_off (a4 i hi hk) ho (Nat.le_refl _) (h7 i hi hk).1 (h7 i hi hk).2⟩
theorem flat_set2 (v:Value) (cs:List C):∀ (l:List (Value × R)) (k:Nat) (hk:k < l.length),(l.set k (v,⟨cs,l[k].2.whole⟩)).flatMap rowVs=(l.flatMap rowVs).set (k * 2) v
 | a :: t,0,_=>by simp [rowVs]
 | a :: t,k+1,hk=>by
  have ih:=flat_set2 v cs t k (by simpa using hk)
  have e:(k+1) * 2=k * 2+2:=by omega
  simp only [List.set_cons_succ,List.flatMap_cons,List.getElem_cons_succ]
  rw [ih,e]
  simp [rowVs]
theorem OwnR.other {w:World} {base:Nat} {v:Value} {ur:List (Value × R)} (h:OwnR w base v ur) {i k:Nat} (hi:i < ur.length) (hk:k < ur.length) (hne:i ≠ k):ur[i].1.ownBlock=none∨ur[i].1.ownBlock ≠ ur[k].1.ownBlock:=by
 have hp:=List.pairwise_iff_getElem.1 h.apart
 rcases Nat.lt_or_gt_of_ne hne with h1 | h1
 ·exact hp i k hi hk h1
 ·rcases hp k i hk hi h1 with h2 | h2
  ·rw [h2]
   cases ur[i].1.ownBlock <;> simp
  ·exact .inr (fun e=>h2 e.symm)
theorem more_cell {w:World} {base rb cap kk:Nat} {cur:Array Value} {ur:List (Value × R)} {v:Value} {x:C} (hk:kk < ur.length) (hb:base≤rb) (hn:ur.length≤cap) (hcm:cap≤maxLen) (hc:cur.size=cap * 2) (ht:cur.toList.take (ur.length * 2)=ur.flatMap rowVs)
  (hT:w.heap[rb]?=some (.cells (cur.setIfInBounds (kk * 2) v) 65)) (hO:OwnC w base v (ur[kk].2.cells ++ [x])) (hothers:∀ i (hi:i < ur.length),i ≠ kk→OwnC w base ur[i].1 ur[i].2.cells) :
  w.ownsRow base 65 2 (.slice (some ⟨rb,0,none⟩) (ur.set kk (v,⟨ur[kk].2.cells ++ [x],ur[kk].2.whole⟩)).length cap) (ur.set kk (v,⟨ur[kk].2.cells ++ [x],ur[kk].2.whole⟩)).length ((ur.set kk (v,⟨ur[kk].2.cells ++ [x],ur[kk].2.whole⟩)).flatMap rowVs)∧∀ p ∈ ur.set kk (v,⟨ur[kk].2.cells ++ [x],ur[kk].2.whole⟩),OwnC w base p.1 p.2.cells:=by
 refine ⟨⟨flat_len rowVs 2 (fun _=>rfl) _,.inr ⟨rb,cap,_,rfl,hb,hT,by rw [List.length_set];exact hn,hcm,by rw [Array.size_setIfInBounds];exact hc,?_⟩⟩,fun p hp=>?_⟩
 ·rw [flat_set2,List.length_set,Array.toList_setIfInBounds,List.take_set,ht]
 ·obtain ⟨i,hi,rfl⟩:=List.mem_iff_getElem.1 hp
  rw [List.length_set] at hi
  by_cases h:kk=i
  ·subst h
   rw [List.getElem_set_self]
   exact hO
  ·rw [List.getElem_set_ne h]
   exact hothers i hi (fun e=>h e.symm)
theorem more_facts {kk:Nat} {ur:List (Value × R)} {v:Value} {x:C} (hk:kk < ur.length) (hs:∀ p ∈ ur,p.2.cells.length≤4∧∀ x ∈ p.2.cells,Cx x) (hx:Cx x) :
  (∀ p ∈ ur.set kk (v,⟨ur[kk].2.cells ++ [x],ur[kk].2.whole⟩),∀ y ∈ p.2.cells,Cx y)∧∃ k,∀ i,(((ur.set kk (v,⟨ur[kk].2.cells ++ [x],ur[kk].2.whole⟩)).map (·.2)).getD i dR).cells.length≤if i=k then 5 else 4:=by
 constructor
 ·intro p hp y hy
  obtain ⟨i,hi,rfl⟩:=List.mem_iff_getElem.1 hp
  rw [List.length_set] at hi
  by_cases h:kk=i
  ·subst h
   rw [List.getElem_set_self] at hy
   rcases List.mem_append.1 hy with hy | hy
   ·exact (hs _ (List.getElem_mem hk)).2 y hy
   ·simp at hy
    subst hy
    exact hx
  ·rw [List.getElem_set_ne h] at hy
   exact (hs _ (List.getElem_mem hi)).2 y hy
 ·refine ⟨kk,fun i=>?_⟩
  by_cases hi:i < ur.length
  ·rw [getD_get dR (by simpa using hi),List.getElem_map]
   by_cases h:kk=i
   ·subst h
    rw [List.getElem_set_self,if_pos rfl]
    have:=(hs _ (List.getElem_mem hk)).1
    simp
    omega
   ·rw [List.getElem_set_ne h,if_neg (fun e=>h e.symm)]
    exact (hs _ (List.getElem_mem hi)).1
  ·simp [List.getD,hi,dR]
theorem wd3 (k:Int) (h0:0≤k) (h1:k < 3):∃ v:Int,(-1≤v∧v≤301)∧(#[Value.int .i64 (-1),.int .i64 301,.int .i64 300]:Array Value)[k.toNat]?=some (.int .i64 v):=by
 rcases (by omega:k=0∨k=1∨k=2) with rfl | rfl | rfl
 ·exact ⟨-1,by omega,rfl⟩
 ·exact ⟨301,by omega,rfl⟩
 ·exact ⟨300,by omega,rfl⟩
theorem wd8 (x k:Int) (hx:0≤x∧x < 100) (h0:0≤k) (h1:k < 8):∃ v:Int,(-1≤v∧v≤301)∧(#[Value.int .i64 0,.int .i64 10,.int .i64 25,.int .i64 40,.int .i64 60,.int .i64 80,.int .i64 120,.int .i64 x]:Array Value)[k.toNat]?=some (.int .i64 v):=by
 rcases (by omega:k=0∨k=1∨k=2∨k=3∨k=4∨k=5∨k=6∨k=7) with rfl | rfl | rfl | rfl | rfl | rfl | rfl | rfl
 ·exact ⟨0,by omega,rfl⟩
 ·exact ⟨10,by omega,rfl⟩
 ·exact ⟨25,by omega,rfl⟩
 ·exact ⟨40,by omega,rfl⟩
 ·exact ⟨60,by omega,rfl⟩
 ·exact ⟨80,by omega,rfl⟩
 ·exact ⟨120,by omega,rfl⟩
 ·exact ⟨x,by omega,rfl⟩
set_option maxRecDepth 100000 in
set_option maxHeartbeats 1000000 in
theorem l20Width_any (r B:Nat) (w:World) (h:Rd w r B) (hB:B≤900000) :
  Calls Tryz.prog 81 #[.pointer (some ⟨r,0,none⟩),.int .i64 16] w fun e w'=>∃ x:Int,e=.returned (.int .i64 x)∧(-1≤x∧x≤301)∧Rd w' r (B+3)∧Bk r w w':=by
 have hlt:=h.lt
 have HR:Hid (Rd w r B):=h
 clear h
 go_enter Tryz.func81,Tryz.ntmps81
 go_wp2_with fail
 refine (pick_any r B _ _ HR.out (by omega)).mono ?_
 rintro e w1 ⟨k1,rfl,hk1,hR1,hb1⟩
 have hz1:=hb1.size
 by_cases h0:k1=0
 ·subst h0
  clear hk1
  have A1:=newest w1 (.cells #[.int .i64 (-1),.int .i64 301,.int .i64 300] 3)
  go_wp2_with fail
  refine (pick_any r (B+1) _ _ (hR1.alloc _) (by omega)).mono ?_
  rintro e w2 ⟨k2,rfl,hk2,hR2,hb2⟩
  obtain ⟨ka,kb⟩:=hk2 (by omega)
  obtain ⟨v,hv,hvl⟩:=wd3 k2 ka kb
  have A2:=(hb2.block w1.heap.size (by simp) (by omega)).trans A1
  have hc:w2.cell? ⟨w1.heap.size,k2.toNat,none⟩=some (.int .i64 v):=(cellB A2).trans hvl
  have HK:=Hd ((hb1.trans (Bk.alloc (Bk.refl _ _) _)).trans hb2)
  have HRr:=Hd (hR2.mono (show B+1+1≤B+3 by omega))
  clear A1 A2 hb1 hb2 hR1 hR2 hvl hk2
  go_wp2
  go_ret
  exact ⟨v,rfl,hv,HRr.out,HK.out⟩
 ·have hne:(k1 == 0)=false:=beq_eq_false_iff_ne.2 h0
  clear h0 hk1
  go_wp2_with fail
  refine (pick_any r (B+1) _ _ hR1 (by omega)).mono ?_
  rintro e w2 ⟨x,rfl,hx,hR2,hb2⟩
  have hxb:=hx (by omega)
  have hz2:=hb2.size
  have A1:=newest w2 (.cells #[.int .i64 0,.int .i64 10,.int .i64 25,.int .i64 40,.int .i64 60,.int .i64 80,.int .i64 120,.int .i64 x] 3)
  go_wp2_with fail
  refine (pick_any r (B+2) _ _ (hR2.alloc _) (by omega)).mono ?_
  rintro e w3 ⟨k3,rfl,hk3,hR3,hb3⟩
  obtain ⟨ka,kb⟩:=hk3 (by omega)
  obtain ⟨v,hv,hvl⟩:=wd8 x k3 hxb ka kb
  have A2:=(hb3.block w2.heap.size (by simp) (by omega)).trans A1
  have hc:w3.cell? ⟨w2.heap.size,k3.toNat,none⟩=some (.int .i64 v):=(cellB A2).trans hvl
  have HK:=Hd (((hb1.trans hb2).trans (Bk.alloc (Bk.refl _ _) _)).trans hb3)
  have HRr:=Hd (hR3.mono (show B+2+1≤B+3 by omega))
  clear A1 A2 hb1 hb2 hb3 hR1 hR2 hR3 hvl hk3 hx
  go_wp2
  go_ret
  exact ⟨v,rfl,hv,HRr.out,HK.out⟩
end Go.Proofs.YtggmjiddadjilaeGreat
