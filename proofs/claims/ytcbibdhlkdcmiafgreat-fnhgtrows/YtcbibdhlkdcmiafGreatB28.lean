/-
  PROVED HERE: the program's mayBeWide: a table that is ok, and a width that may be; nothing that was in memory is turned. Also: a region that draws its order, whose first operations only read (their callees turn nothing that was in memory), and whose next one waits for all of them: the first ones may be walked once, in the text's order; what follows is walked in every order. Also: what the model's TxtWish answers. Also: what the model's sum answers of lists of numbers in memory; nothing that was in memory is turned. Also: what the model's l4Next answers of lists in memory; the four rows that the model's l4Share keeps.
-/
import Derived.Test.YtcbibdhlkdcmiafGreatB16
import Derived.Test.YtcbibdhlkdcmiafGreatB5
import Derived.Test.YtcbibdhlkdcmiafGreatB23
import Derived.Test.YtcbibdhlkdcmiafGreatB21
import Derived.Test.YtcbibdhlkdcmiafGreatB2
import Derived.Test.YtcbibdhlkdcmiafGreatB19
import Derived.Test.YtcbibdhlkdcmiafGreatB20
import Derived.Deep.RegionWith
import Derived.Deep.QuietTactic
import Derived.BigQuiet
import Derived.Maps.AppendAt
namespace Go.Proofs.YtcbibdhlkdcmiafGreat
open Go.RowKit

set_option maxRecDepth 100000 in
set_option maxHeartbeats 1000000 in
theorem implmayBeWide (ac ar:Option Addr) (cc cr:Nat) (t:T) (width:Int) (w:World) {z:Nat} (hc:ColsAt w z (.slice ac t.cols.length cc) t.cols) (hr:RowsAt w z (.slice ar t.rows.length cr) t.rows) :
  Calls Tryz.prog 35 #[.agg #[.slice ac t.cols.length cc,.int .i64 t.head,.int .i64 t.foot,.slice ar t.rows.length cr,.int .i64 t.gap],.int .i64 width] w fun e w'=>e=.returned (.bool (tblB t && inB width 0 300))∧Below w.heap.size w w':=by
 have K0:=k_alloc (Below.refl w.heap.size w) (.cells #[.slice ac t.cols.length cc,.int .i64 t.head,.int .i64 t.foot,.slice ar t.rows.length cr,.int .i64 t.gap] 26)
 have KT:=Hid.intro (implTblOk ac ar cc cr t _ (hc.kept K0) (hr.kept K0))
 have HK0:=Hid.intro K0
 have HI:=Hid.intro (within_any width 0 300)
 clear hc hr K0
 cases htk:tblB t with
 | false =>
  rw [htk] at KT
  clear htk
  go_enter Tryz.func35,Tryz.ntmps35
  go_wp2_with fail
  refine KT.out.mono ?_
  rintro e w1 ⟨rfl,hb1⟩
  have HK1:=Hid.intro (k_trans HK0.out hb1)
  clear hb1 KT HK0
  go_wp2
  go_ret
  exact ⟨rfl,HK1.out⟩
 | true =>
  rw [htk] at KT
  clear htk
  go_enter Tryz.func35,Tryz.ntmps35
  go_wp2_with fail
  refine KT.out.mono ?_
  rintro e w1 ⟨rfl,hb1⟩
  have HK1:=Hid.intro (k_trans HK0.out hb1)
  clear hb1 KT HK0
  go_wp2_with fail
  refine (HI.out _).mono ?_
  rintro e w2 ⟨rfl,rfl⟩
  go_wp2
  go_ret
  exact ⟨by simp,HK1.out⟩
end Go.Proofs.YtcbibdhlkdcmiafGreat
namespace Go.Proofs.YtcbibdhlkdcmiafGreat
open Go.RowKit

section
variable {P:Program} {ops:Array Oper} {C:World→Prop}
/-- the first k operations have come up -/
def listedTo (n:Nat):Nat→Array Bool
 | 0=>Array.replicate n false
 | k+1=>(listedTo n k).setIfInBounds k true
def wpAnyT (P:Program) (ops:Array Oper) (C:World→Prop) (Q:Exit→Act→World→Prop) (z:Nat):Nat→Array Bool→Act→Prop
 | 0,_,_=>False
 | fuel+1,listed,a=>Region.ready .any ops listed ≠ []∧∀ i ∈ Region.ready .any ops listed,if i=z then (∀ w,C w→wpOp P ops Q z (wpAny P .any ops Q fuel (listed.setIfInBounds z true)) a w) else qOp P ops C i (wpAnyT P ops C Q z fuel (listed.setIfInBounds i true)) a
theorem wpAny_of_T {Q:Exit→Act→World→Prop} {z:Nat}:∀ (fuel:Nat) (listed:Array Bool) (a:Act) (w:World),C w→wpAnyT P ops C Q z fuel listed a→wpAny P .any ops Q fuel listed a w
 | 0,_,_,_,_,h=>h.elim
 | fuel+1,listed,a,w,hw,h=>⟨fun h0=>absurd h0 h.1,fun i hi=>by
   have h2:=h.2 i hi
   by_cases hz:i=z
   ·rw [if_pos hz] at h2
    subst hz
    exact h2 w hw
   ·rw [if_neg hz] at h2
    exact wpOp_of_qOp hw (fun a' w' hw'=>wpAny_of_T fuel _ a' w' hw') h2⟩
theorem wpAnyT_first {Q:Exit→Act→World→Prop} {z i:Nat} {oi:Oper} {v:Value} (hs:succB ops z=true) (hi:ops[i]?=some oi) (hiz:i < z) (hsel:∀ (j:Nat) (o:Oper) cs b,ops[j]?=some o→o.op ≠ .select cs b) :
  ∀ (fuel:Nat) (listed:Array Bool) (a:Act),Closed ops (fun k=>listed.getD k false) →
   (∀ j oj,ops[j]?=some oj→j ≠ i→listed.getD j true=false→(∀ e ∈ oj.after,Region.binds .any e=true→e.on ≠ i)→oi.apart ops oj=true) →
   i ∈ Region.ready .any ops listed→YieldsIn P ops C oi v a →
   wpAnyT P ops C Q z fuel (listed.setIfInBounds i true) (a.put oi.dst v)→wpAnyT P ops C Q z (fuel+1) listed a:=by
 intro fuel
 induction fuel with
 | zero=>intro listed a _ _ _ _ H;exact H.elim
 | succ fuel ih =>
  intro listed a hcl hfree hr hy H
  refine ⟨fun h=>(by rw [h] at hr;cases hr),fun j hj=>?_⟩
  by_cases hji:j=i
  ·rw [if_neg (by omega)];subst hji;exact hy.qOp hi H
  ·have hjz:j ≠ z:=fun e=>by
    subst e
    obtain ⟨_,o,ho,ha⟩:=mem_ready.1 hj
    have h1:=all_ahead hs hcl ho ha _ i (Nat.le_refl _) hiz
    have h0:=(mem_ready.1 hr).1
    rcases Nat.lt_or_ge i listed.size with h' | h'
    ·simp [h'] at h0 h1;rw [h0] at h1;cases h1
    ·simp [Array.getElem?_eq_none h'] at h1
   rw [if_neg hjz]
   have h1:=H.2 j (ready_mono hj hji)
   rw [if_neg hjz] at h1
   obtain ⟨hjun,oj,hoj,hall⟩:=mem_ready.1 hj
   have hnot:∀ e ∈ oj.after,Region.binds .any e=true→e.on ≠ i:=fun e he hb heq=>by
    have h1:=hall e he hb
    have h0:=(mem_ready.1 hr).1
    rw [heq] at h1
    rcases Nat.lt_or_ge i listed.size with h' | h'
    ·simp [h'] at h0 h1;rw [h0] at h1;cases h1
    ·simp [Array.getElem?_eq_none h'] at h1
   have h2:=qOp_put hoj (hfree j oj hoj hji hjun hnot) (fun cs b=>hsel i oi cs b hi) (fun cs b=>hsel j oj cs b hoj) hy h1
   have hfree':∀ k ok,ops[k]?=some ok→k ≠ i→(listed.setIfInBounds j true).getD k true=false →
     (∀ e ∈ ok.after,Region.binds .any e=true→e.on ≠ i)→oi.apart ops ok=true:=fun k ok hk hki hun hno=>by
    refine hfree k ok hk hki ?_ hno
    by_cases hjk:j=k
    ·subst hjk;exact hjun
    ·rw [getD_set_ne true hjk] at hun;exact hun
   refine qOp_mono (fun a' h3=>ih (listed.setIfInBounds j true) a' (closed_set hcl hj) hfree' (ready_mono hr (Ne.symm hji)) h3.1 ?_) h2
   rw [Array.setIfInBounds_comm _ _ hji]
   exact h3.2
theorem wpAnyT_lex {Q:Exit→Act→World→Prop} {n z f:Nat} (hns:Region.noSelect ops=true) (hs:succB ops z=true) (hz:Region.ready .any ops (listedTo n z)=[z]):∀ (l:List Oper) (k:Nat) (a:Act),k+l.length=z→(∀ j,j < l.length→l[j]?=ops[k+j]?)→Closed ops (fun j=>(listedTo n k).getD j false) →
  Region.lexFrom .any ops (l.length+(f+1)) k (listedTo n k)=true→wpQuiet P ops C (fun a'=>∀ w',C w'→wpOp P ops Q z (wpAny P .any ops Q f (listedTo n (z+1))) a' w') l a→wpAnyT P ops C Q z (l.length+(f+1)) (listedTo n k) a
 | [],k,a,hk,_,_,_,h=>by
  have hk':k=z:=by simpa using hk
  subst hk'
  rw [List.length_nil,Nat.zero_add]
  refine ⟨by rw [hz];simp,fun i hi=>?_⟩
  rw [hz] at hi
  have hik:i=k:=by simpa using hi
  rw [if_pos hik]
  exact h
 | o :: l,k,a,hk,hl,hcl,hB,h=>by
  have h0:ops[k]?=some o:=by simpa using (hl 0 (by simp)).symm
  simp only [List.length_cons] at hk hB ⊢
  rw [show l.length+1+(f+1)=(l.length+(f+1))+1 by omega] at hB ⊢
  rw [Region.lexFrom] at hB
  simp only [Bool.and_eq_true] at hB
  obtain ⟨⟨hr,hf⟩,hB'⟩:=hB
  have hr':k ∈ Region.ready .any ops (listedTo n k):=by simpa using hr
  have hst:qOp P ops C k (wpQuiet P ops C (fun a'=>∀ w',C w'→wpOp P ops Q z (wpAny P .any ops Q f (listedTo n (z+1))) a' w') l) a:=by unfold qOp;simp only [h0];exact h
  obtain ⟨v,hy,hK⟩:=yieldsIn_of_qOp h0 hst
  exact wpAnyT_first hs h0 (by omega) (Region.noSelect_spec hns) (l.length+(f+1)) (listedTo n k) a hcl (Region.free_spec h0 hf) hr' hy
   (wpAnyT_lex hns hs hz l (k+1) _ (by omega) (fun j hj=>by have:=hl (j+1) (by simpa using hj);simpa [Nat.add_assoc,Nat.add_comm 1 j] using this) (closed_set hcl hr') hB' hK)
end
/-- the walk: what only reads in the text's order, then the rest -/
theorem wp_region_tail {P:Program} {id:Nat} {Q:Exit→Act→World→Prop} {a:Act} {w:World} {l:List Oper} (n f:Nat) {o:Oper} (hm:P.follows .mixedOrders=true) (hl:l.length=n+(f+1)) (ho:l[n]?=some o) (hB:Region.lexB .any l.toArray=true) (hs:succB l.toArray n=true) (hz:Region.ready .any l.toArray (listedTo (n+(f+1)) n)=[n])
  (h:wpQuiet P l.toArray (fun w'=>∃ p:BW w,w'=p.u) (fun a'=>∀ w',(∃ p:BW w,w'=p.u)→if Region.wanted o (yielded l.toArray a'.tmps)=true then o.wp P a' w' (wpAny P .any l.toArray Q f (listedTo (n+(f+1)) (n+1))) Q else wpAny P .any l.toArray Q f (listedTo (n+(f+1)) (n+1)) (a'.put o.dst undef) w') (l.take n) a):(Code.region id l.toArray true).wp P Q a w:=by
 simp only [Region.lexB,Bool.and_eq_true] at hB
 have hlt:(l.take n).length=n:=by rw [List.length_take];omega
 refine wp_region_any hm (wpAny_of_T (C:=fun w'=>∃ p:BW w,w'=p.u) (z:=n) _ _ _ _ ⟨⟨_,k_drew (Below.refl _ _)⟩,rfl⟩ ?_)
 have hcv:∀ a',(∀ w',(∃ p:BW w,w'=p.u)→if Region.wanted o (yielded l.toArray a'.tmps)=true then o.wp P a' w' (wpAny P .any l.toArray Q f (listedTo (n+(f+1)) (n+1))) Q else wpAny P .any l.toArray Q f (listedTo (n+(f+1)) (n+1)) (a'.put o.dst undef) w')→∀ w',(∃ p:BW w,w'=p.u)→wpOp P l.toArray Q n (wpAny P .any l.toArray Q f (listedTo (n+(f+1)) (n+1))) a' w':=by
  intro a' hR w' hw'
  have h1:=hR w' hw'
  unfold wpOp
  rw [show l.toArray[n]?=some o by simpa using ho]
  dsimp only
  split
  ·rename_i hw;rw [if_pos hw] at h1;exact .inl h1
  ·rename_i hw;rw [if_neg hw] at h1;exact h1
 have hmono:∀ (q:List Oper) (b:Act),wpQuiet P l.toArray (fun w'=>∃ p:BW w,w'=p.u) (fun a'=>∀ w',(∃ p:BW w,w'=p.u)→if Region.wanted o (yielded l.toArray a'.tmps)=true then o.wp P a' w' (wpAny P .any l.toArray Q f (listedTo (n+(f+1)) (n+1))) Q else wpAny P .any l.toArray Q f (listedTo (n+(f+1)) (n+1)) (a'.put o.dst undef) w') q b→wpQuiet P l.toArray (fun w'=>∃ p:BW w,w'=p.u) (fun a'=>∀ w',(∃ p:BW w,w'=p.u)→wpOp P l.toArray Q n (wpAny P .any l.toArray Q f (listedTo (n+(f+1)) (n+1))) a' w') q b:=by
  intro q
  induction q with
  | nil=>intro b hb;exact hcv b hb
  | cons o q ih =>
   intro b hb
   simp only [wpQuiet] at hb ⊢
   split
   ·rename_i hw;rw [if_pos hw] at hb;exact Oper.quiet_mono ih hb
   ·rename_i hw;rw [if_neg hw] at hb;exact ih _ hb
 have:=wpAnyT_lex (P:=P) (Q:=Q) (n:=n+(f+1)) (f:=f) (C:=fun w'=>∃ p:BW w,w'=p.u) hB.1 hs hz (l.take n) 0 a (by omega) (fun j hj=>by rw [hlt] at hj;simp [hj]) (fun j i _ _=>by
  show (Array.replicate (n+(f+1)) false).getD j false=false
  rw [Array.getD_eq_getD_getElem?,Array.getElem?_replicate]
  split <;> rfl) (by rw [hlt];have h9:=hB.2;rw [show l.toArray.size=n+(f+1) by simpa using hl] at h9;exact h9) (hmono _ _ h)
 rw [hlt] at this
 rw [show l.toArray.size=n+(f+1) by simpa using hl]
 exact this
end Go.Proofs.YtcbibdhlkdcmiafGreat
namespace Go.Proofs.YtcbibdhlkdcmiafGreat
open Go.RowKit

theorem specTxtWish (s:ByteArray) (hs:s.size≤maxLen) (w:World):Calls Tryz.prog 132 #[.string s] w fun e w'=>e=.returned (.int .i64 (wishOf s))∧w'=w:=by
 unfold wishOf
 have hm:=hs
 unfold maxLen at hm
 cases hok:txtOkB s
 all_goals
  go_enter Tryz.func132,Tryz.ntmps132
  go_wp2_with (go_at_call 87;refine (specTxtOk _ _ hs).mono ?_;rintro e w' ⟨rfl,rfl⟩;rw [hok])
  go_ret
  exact ⟨rfl,rfl⟩
end Go.Proofs.YtcbibdhlkdcmiafGreat
namespace Go.Proofs.YtcbibdhlkdcmiafGreat
open Go.RowKit

set_option maxRecDepth 100000 in
set_option maxHeartbeats 1000000 in
theorem specl1Sum_any (v:Value) (l:List Int) (hl:l.length≤1000) (hw:l.all wtB=true) (w:World) (h:IntsAt w v l) :
  Calls Tryz.prog 49 #[v] w fun e w'=>e=.returned (.int .i64 l.sum)∧w'=w:=by
 obtain ⟨a,cap,rfl,_⟩:=h.form
 have H:=Hid.intro h
 have HW:=Hid.intro (sumTo_bound hw)
 have HG:=Hid.intro (fun i hi=>wt_get (i:=i) hw hi)
 clear h hw
 go_enter Tryz.func49,Tryz.ntmps49
 go_wp2_with fail
 go_loop [3,4] (fun s i=>∃ k:Nat,k≤l.length∧i=.int .i64 k∧s=.int .i64 (sumTo l k)) (fun _ i=>l.length - (intOf i).toNat)
 case atStart=>exact ⟨0,Nat.zero_le _,rfl,by simp [sumTo]⟩
 case round =>
  obtain ⟨k,hk,rfl,rfl⟩:=hrel
  by_cases hlt:k < l.length
  ·obtain ⟨b,off,cap',e',hc1,hc2,hbl,hx⟩:=H.out.get hlt
   simp only [Value.slice.injEq,true_and] at e'
   obtain ⟨rfl,rfl⟩:=e'
   have hb1:=HW.out k hk
   have hb2:=HG.out k hlt
   have HS:=Hid.intro (sumTo_succ hlt)
   generalize l.getD k 0=x at hx HS hb2
   generalize sumTo l k=s at HS hb1
   unfold maxLen at hc2
   go_wp2
   go_round
   case rel=>exact ⟨k+1,by omega,by go_num,by rw [HS.out]⟩
   case measure=>simp [intOf];omega
  ·obtain rfl:k=l.length:=by omega
   have HE:=Hid.intro (sumTo_all l)
   go_wp2
   go_ret
   exact ⟨by rw [← HE.out];rfl,rfl⟩
end Go.Proofs.YtcbibdhlkdcmiafGreat
namespace Go.Proofs.YtcbibdhlkdcmiafGreat
open Go.RowKit

/-- a list of Bools, in the block gb -/
def BoolsAt (w:World) (gb:Nat) (bl:List Bool):Prop:=∃ bs,w.heap[gb]?=some (.cells bs 4)∧bs.size=bl.length∧∀ i,i < bl.length→bs[i]?=some (.bool (bl.getD i false))
theorem BoolsAt.get {w:World} {gb:Nat} {bl:List Bool} (h:BoolsAt w gb bl) {i:Nat} (hi:i < bl.length):w.cell? ⟨gb,i,none⟩=some (.bool (bl.getD i false))∧w.frozen? ⟨gb,i,none⟩=false:=by
 obtain ⟨bs,h1,h2,h3⟩:=h
 exact ⟨(cellB h1).trans (h3 i hi),freeB h1⟩
theorem BoolsAt.kept {w w':World} {gb:Nat} {bl:List Bool} (h:BoolsAt w gb bl) (hb:w'.heap[gb]?=w.heap[gb]?):BoolsAt w' gb bl:=by
 obtain ⟨bs,h1,h2⟩:=h
 exact ⟨bs,hb.trans h1,h2⟩
theorem BoolsAt.set {w:World} {gb:Nat} {bl:List Bool} (h:BoolsAt w gb bl) (i:Nat) (hi:i < bl.length) (x:Bool):BoolsAt (w.setCell ⟨gb,i,none⟩ (.bool x)) gb (bl.set i x):=by
 obtain ⟨bs,h1,h2,h3⟩:=h
 refine ⟨_,setB h1 _,by simpa using h2,fun j hj=>?_⟩
 rw [List.length_set] at hj
 by_cases e:i=j
 ·subst e
  simp [List.getD,hj,show i < bs.size by omega]
 ·rw [Array.getElem?_setIfInBounds_ne e,h3 j hj]
  simp [List.getD,e]

set_option maxRecDepth 100000 in
set_option maxHeartbeats 2000000 in
theorem l4Next_any (v:Value) (lr:List Int) (gb cap:Nat) (bl:List Bool) (hl:bl.length=lr.length) (w:World) (h:IntsAt w v lr) (hb:BoolsAt w gb bl) :
  Calls Tryz.prog 113 #[v,.slice (some ⟨gb,0,none⟩) lr.length cap] w fun e w'=>∃ k:Int,e=.returned (.int .i64 k)∧NextP lr bl lr.length k∧∃ q,w'=w.drewN q:=by
 obtain ⟨a,ca,rfl,_⟩:=h.form
 have H:=Hid.intro h
 have HBo:=Hid.intro hb
 have HL:=Hid.intro hl
 clear h hb hl
 go_enter Tryz.func113,Tryz.ntmps113
 go_wp2_with fail
 go_loopw [5,6] (fun s5 s6 W=>∃ (m nd:Nat) (k:Int),m≤lr.length∧s6=.int .i64 m∧s5=.int .i64 k∧Hid (NextP lr bl m k)∧W=w.drewN nd) (fun _ s6 _=>lr.length - (intOf s6).toNat)
 case atStart=>exact ⟨0,0,-1,Nat.zero_le _,rfl,rfl,NextP.zero lr bl,rfl⟩
 case round =>
  obtain ⟨m,nd,k,hm,rfl,rfl,HN,rfl⟩:=hrel
  by_cases hlt:m < lr.length
  ·obtain ⟨cb,fb⟩:=HBo.out.get (i:=m) (by rw [HL.out];exact hlt)
   obtain ⟨b,off,cap',e',hc1,hc2,hbl,hx⟩:=H.out.get hlt
   simp only [Value.slice.injEq,true_and] at e'
   obtain ⟨rfl,rfl⟩:=e'
   unfold maxLen at hc2
   cases hbm:bl.getD m false with
   | true =>
    rw [hbm] at cb
    have HN2:=Hid.intro (HN.out.got hbm)
    clear hbm
    go_wp2_with fail
    go_quiet (fail)
    go_wp2
    go_roundw
    case rel=>exact ⟨m+1,nd+nq,k,by omega,by go_num,rfl,HN2,rfl⟩
    case measure=>simp [intOf];omega
   | false =>
    rw [hbm] at cb
    rcases HN.out with ⟨hk,h2⟩ | ⟨j,hk,h2,h3,h4⟩
    ·have HN2:=Hid.intro (NextP.first (lr:=lr) h2 hbm)
     subst hk
     clear hbm h2
     go_wp2_with fail
     go_quiet (fail)
     go_wp2
     go_roundw
     case rel=>exact ⟨m+1,nd+nq,m,by omega,by go_num,rfl,HN2,rfl⟩
     case measure=>simp [intOf];omega
    ·obtain ⟨b2,off2,cap2,e2,_,_,_,hy⟩:=H.out.get (i:=j) (by omega)
     simp only [Value.slice.injEq,Option.some.injEq,Addr.mk.injEq,and_true,true_and] at e2
     obtain ⟨⟨q1,q2⟩,q3⟩:=e2
     subst q1
     subst q2
     subst hk
     have hj0:(0:Int)≤(j:Int):=by omega
     have hj1:(j:Int) < (lr.length:Int):=by omega
     have hj2:¬ (j:Int) < 0:=by omega
     have hj3:decide ((j:Int) < 0)=false:=decide_eq_false hj2
     by_cases hgt:lr.getD j 0 < lr.getD m 0
     ·have HN2:=Hid.intro (NextP.more h4 hbm hgt)
      generalize lr.getD j 0=y at hy hgt
      generalize lr.getD m 0=x at hx hgt
      clear hbm h4 h3 q3
      go_wp2_with fail
      go_quiet (fail)
      go_wp2
      go_roundw
      case rel=>exact ⟨m+1,nd+nq,m,by omega,by go_num,rfl,HN2,rfl⟩
      case measure=>simp [intOf];omega
     ·have HN2:=Hid.intro (NextP.less h2 h3 h4 hgt)
      generalize lr.getD j 0=y at hy hgt
      generalize lr.getD m 0=x at hx hgt
      clear hbm h4 h3 q3
      go_wp2_with fail
      go_quiet (fail)
      go_wp2
      go_roundw
      case rel=>exact ⟨m+1,nd+nq,j,by omega,by go_num,rfl,HN2,rfl⟩
      case measure=>simp [intOf];omega
  ·obtain rfl:m=lr.length:=by omega
   go_wp2
   go_ret
   exact ⟨k,rfl,HN.out,nd,rfl⟩

/-- the rows of l4Share: the weights, what each gets, what is left over of each, who has got one of the rest -/
structure Q4 (w W:World) (v5 v8 v9:Value) (gb:Nat) (u lo lr:List Int) (bl:List Bool):Prop where
 o5:W.ownsRow w.heap.size 3 1 v5 u.length (u.map (Value.int .i64))
 o8:W.ownsRow w.heap.size 3 1 v8 lo.length (lo.map (Value.int .i64))
 o9:W.ownsRow w.heap.size 3 1 v9 lr.length (lr.map (Value.int .i64))
 bo:BoolsAt W gb bl
 hb:w.heap.size≤gb
 n58:v5.ownBlock ≠ v8.ownBlock
 n59:v5.ownBlock ≠ v9.ownBlock
 n89:v8.ownBlock ≠ v9.ownBlock
 nb5:v5.ownBlock ≠ some gb
 nb8:v8.ownBlock ≠ some gb
 nb9:v9.ownBlock ≠ some gb
 below:Below w.heap.size w W
theorem BoolsAt.lt {w:World} {gb:Nat} {bl:List Bool} (h:BoolsAt w gb bl):gb < w.heap.size:=by
 obtain ⟨bs,h1,_⟩:=h
 exact (Array.getElem?_eq_some_iff.1 h1).1
theorem Q4.alloc {w W:World} {v5 v8 v9:Value} {gb:Nat} {u lo lr:List Int} {bl:List Bool} (h:Q4 w W v5 v8 v9 gb u lo lr bl) (o:Obj):Q4 w (W.alloc o) v5 v8 v9 gb u lo lr bl :=
 { h with o5:=h.o5.alloc o,o8:=h.o8.alloc o,o9:=h.o9.alloc o,bo:=h.bo.kept (Below.heap_alloc _ _ _ h.bo.lt),below:=h.below.alloc h.below.size o }
theorem Q4.drewN {w W:World} {v5 v8 v9:Value} {gb:Nat} {u lo lr:List Int} {bl:List Bool} (h:Q4 w W v5 v8 v9 gb u lo lr bl) (n:Nat):Q4 w (W.drewN n) v5 v8 v9 gb u lo lr bl :=
 { h with o5:=h.o5,o8:=h.o8,o9:=h.o9,bo:=h.bo.kept rfl,below:=k_drewN h.below n }
theorem own_some {w:World} {v:Value} {B n:Nat} {e:TypeId} {xs:List Value} (h:w.ownsRow B e 1 v n xs) (k:Nat) (hk:w.heap.size≤k):v.ownBlock ≠ some k:=fun e=>by have:=(h.lt k e).2;omega
theorem Q4.app8 {w W W':World} {v5 v8 v9 v':Value} {gb:Nat} {u lo lr:List Int} {bl:List Bool} (h:Q4 w W v5 v8 v9 gb u lo lr bl) {x:Int}
  (ho:W'.ownsRow w.heap.size 3 1 v' (lo.length+1) (lo.map (Value.int .i64) ++ [.int .i64 x])) (hg:W.grownBy W' v8.ownBlock) (hat:v'.ownBlock=v8.ownBlock∨v'.ownBlock=some W.heap.size):Q4 w W' v5 v' v9 gb u (lo ++ [x]) lr bl where
 o5:=h.o5.kept hg (.inr h.n58)
 o8:=by rw [List.length_append,List.map_append];exact ho
 o9:=h.o9.kept hg (.inr (Ne.symm h.n89))
 bo:=h.bo.kept (hg.block gb h.bo.lt (Ne.symm h.nb8))
 hb:=h.hb
 n58:=by rcases hat with e | e <;> rw [e];exact h.n58;exact own_some h.o5 _ (Nat.le_refl _)
 n59:=h.n59
 n89:=by rcases hat with e | e <;> rw [e];exact h.n89;exact (own_some h.o9 _ (Nat.le_refl _)).symm
 nb5:=h.nb5
 nb8:=by rcases hat with e | e <;> rw [e];exact h.nb8;exact fun e=>by have:=h.bo.lt;simp at e;omega
 nb9:=h.nb9
 below:=h.below.grown hg h.below.size (fun b hb=>(h.o8.lt b hb).1)
theorem Q4.app9 {w W W':World} {v5 v8 v9 v':Value} {gb:Nat} {u lo lr:List Int} {bl:List Bool} (h:Q4 w W v5 v8 v9 gb u lo lr bl) {x:Int}
  (ho:W'.ownsRow w.heap.size 3 1 v' (lr.length+1) (lr.map (Value.int .i64) ++ [.int .i64 x])) (hg:W.grownBy W' v9.ownBlock) (hat:v'.ownBlock=v9.ownBlock∨v'.ownBlock=some W.heap.size):Q4 w W' v5 v8 v' gb u lo (lr ++ [x]) bl where
 o5:=h.o5.kept hg (.inr h.n59)
 o8:=h.o8.kept hg (.inr h.n89)
 o9:=by rw [List.length_append,List.map_append];exact ho
 bo:=h.bo.kept (hg.block gb h.bo.lt (Ne.symm h.nb9))
 hb:=h.hb
 n58:=h.n58
 n59:=by rcases hat with e | e <;> rw [e];exact h.n59;exact own_some h.o5 _ (Nat.le_refl _)
 n89:=by rcases hat with e | e <;> rw [e];exact h.n89;exact own_some h.o8 _ (Nat.le_refl _)
 nb5:=h.nb5
 nb8:=h.nb8
 nb9:=by rcases hat with e | e <;> rw [e];exact h.nb9;exact fun e=>by have:=h.bo.lt;simp at e;omega
 below:=h.below.grown hg h.below.size (fun b hb=>(h.o9.lt b hb).1)
theorem grow_set (W:World) (p:Addr) (v:Value):W.grownBy (W.setCell p v) (some p.block) :=
 ⟨rfl,rfl,rfl,by simp [World.setCell],fun k _ hne=>Below.heap_setCell _ _ _ _ (fun e=>hne (by rw [e]))⟩
theorem Q4.set8 {w W:World} {v5 v9:Value} {g8 n c gb:Nat} {u lo lr:List Int} {bl:List Bool} (h:Q4 w W v5 (.slice (some ⟨g8,0,none⟩) n c) v9 gb u lo lr bl) (i:Nat) (hi:i < lo.length) (x:Int) :
  Q4 w (W.setCell ⟨g8,i,none⟩ (.int .i64 x)) v5 (.slice (some ⟨g8,0,none⟩) n c) v9 gb u (lo.set i x) lr bl where
 o5:=h.o5.kept (grow_set W ⟨g8,i,none⟩ (.int .i64 x)) (.inr h.n58)
 o8:=((RowI.of_owns h.o8).set hi x).owns
 o9:=h.o9.kept (grow_set W ⟨g8,i,none⟩ (.int .i64 x)) (.inr (Ne.symm h.n89))
 bo:=h.bo.kept ((grow_set W ⟨g8,i,none⟩ (.int .i64 x)).block gb h.bo.lt (Ne.symm h.nb8))
 hb:=h.hb
 n58:=h.n58
 n59:=h.n59
 n89:=h.n89
 nb5:=h.nb5
 nb8:=h.nb8
 nb9:=h.nb9
 below:=h.below.setCell (h.o8.lt g8 rfl).1 _
theorem Q4.setb {w W:World} {v5 v8 v9:Value} {gb:Nat} {u lo lr:List Int} {bl:List Bool} (h:Q4 w W v5 v8 v9 gb u lo lr bl) (i:Nat) (hi:i < bl.length) (x:Bool) :
  Q4 w (W.setCell ⟨gb,i,none⟩ (.bool x)) v5 v8 v9 gb u lo lr (bl.set i x) where
 o5:=h.o5.kept (grow_set W ⟨gb,i,none⟩ (.bool x)) (.inr h.nb5)
 o8:=h.o8.kept (grow_set W ⟨gb,i,none⟩ (.bool x)) (.inr h.nb8)
 o9:=h.o9.kept (grow_set W ⟨gb,i,none⟩ (.bool x)) (.inr h.nb9)
 bo:=h.bo.set i hi x
 hb:=h.hb
 n58:=h.n58
 n59:=h.n59
 n89:=h.n89
 nb5:=h.nb5
 nb8:=h.nb8
 nb9:=h.nb9
 below:=h.below.setCell h.hb _
def newBo (n:Nat):Array Value:=madeCells (Value.bool false).cells (n * 1)
theorem infoBo:(Tryz.prog.info? 4).map (fun i=>(i.zero,i.size,i.bytes))=some (some (Value.bool false),1,1):=by kernel_rfl
theorem makeBo (n:Nat) (hn:n≤1048576) (u:World):(Instr.makeSlice 144 (.int .i64 (n:Int)) (.int .i64 (n:Int))).run Tryz.prog u=.ok (.slice (some ⟨u.heap.size,0,none⟩) n n) (u.alloc (.cells (newBo n) 4)):=by
 obtain ⟨i0,hi,hz0,hz1,hz2⟩:=info_parts infoBo
 have h:=run_make (P:=Tryz.prog) u 144 4 i0 _ Tryz.underlying144 hi hz0 .i64 .i64 (n:Int) (n:Int) (by omega) (Int.le_refl _) (by rw [hz2];omega) (by omega)
 rw [hz1,Int.toNat_natCast] at h
 exact h
theorem bools_new (w:World) (n:Nat):BoolsAt (w.alloc (.cells (newBo n) 4)) w.heap.size (List.replicate n false):=by
 refine ⟨newBo n,newestB _ _,by rw [newBo,size_madeCells];simp,fun i hi=>?_⟩
 rw [List.length_replicate] at hi
 unfold newBo
 rw [Nat.mul_one,← Array.getElem?_toList,show (Value.bool false).cells=#[Value.bool false] from rfl,toList_madeCells_one]
 simp [List.getD,hi]
theorem Q4.start {w W:World} {g5 n c5:Nat} {u:List Int} (h5:W.ownsRow w.heap.size 3 1 (.slice (some ⟨g5,0,none⟩) n c5) u.length (u.map (Value.int .i64))) (hb:Below w.heap.size w W) (m:Nat) :
  Q4 w (((W.alloc (.cells #[] 3)).alloc (.cells #[] 3)).alloc (.cells (newBo m) 4)) (.slice (some ⟨g5,0,none⟩) n c5) (.slice (some ⟨W.heap.size,0,none⟩) 0 0) (.slice (some ⟨W.heap.size+1,0,none⟩) 0 0) (W.heap.size+2) u [] [] (List.replicate m false) where
 o5:=((h5.alloc _).alloc _).alloc _
 o8:=((World.ownsRow_made (base:=w.heap.size) (e:=3) (size:=1) W #[] 0 hb.size (Nat.zero_le _) rfl).alloc _).alloc _
 o9:=by
  have:=World.ownsRow_made (base:=w.heap.size) (e:=3) (size:=1) (W.alloc (.cells #[] 3)) #[] 0 (by have:=hb.size;simp;omega) (Nat.zero_le _) rfl
  have e:(W.alloc (.cells #[] 3)).heap.size=W.heap.size+1:=by simp
  rw [e] at this
  exact this.alloc _
 bo:=by
  have:=bools_new ((W.alloc (.cells #[] 3)).alloc (.cells #[] 3)) m
  have e:((W.alloc (.cells #[] 3)).alloc (.cells #[] 3)).heap.size=W.heap.size+2:=by simp
  rw [e] at this
  exact this
 hb:=by have:=hb.size;omega
 n58:=own_some h5 _ (Nat.le_refl _)
 n59:=own_some h5 (W.heap.size+1) (by omega)
 n89:=fun e=>by simp [Value.ownBlock] at e
 nb5:=own_some h5 (W.heap.size+2) (by omega)
 nb8:=fun e=>by simp [Value.ownBlock] at e
 nb9:=fun e=>by simp [Value.ownBlock] at e
 below:=k_alloc (k_alloc (k_alloc hb _) _) _
end Go.Proofs.YtcbibdhlkdcmiafGreat
