/-
  PROVED HERE: a region that draws its order, whose first operations only read (their callees turn nothing that was in memory), and whose next one waits for all of them: the first ones may be walked once, in the text's order; what follows is walked in every order. Also: 9 more texts of the same proof.
-/
import Derived.Test.YtojogjlblgcioanGreatC26
import Derived.Test.YtojogjlblgcioanGreatC25
import Derived.Test.YtojogjlblgcioanGreatC31
import Derived.Test.YtojogjlblgcioanGreatC30
import Derived.Test.YtojogjlblgcioanGreatC24
import Derived.Test.YtojogjlblgcioanGreatC2
import Derived.Test.YtojogjlblgcioanGreatC14
import Derived.Test.YtojogjlblgcioanGreatC12
import Derived.Deep.RegionWith
import Derived.Deep.QuietTactic
import Derived.BigQuiet
namespace Go.Proofs.YtojogjlblgcioanGreat
open Go.RowKit
section
variable {P:Program} {ops:Array Oper} {C:World→Prop}
def listedTo (n:Nat):Nat→Array Bool
 | 0=>Array.replicate n false
 | k+1=>(listedTo n k).setIfInBounds k true
def wpAnyT (P:Program) (ops:Array Oper) (C:World→Prop) (Q:Exit→Act→World→Prop) (z:Nat):Nat→Array Bool→Act→Prop
 | 0,_,_=>False
 | fuel+1,listed,a=>Region.ready .any ops listed ≠ []∧∀ i ∈ Region.ready .any ops listed,if i=z then (∀ w,C w→wpOp P ops Q z (wpAny P .any ops Q fuel (listed.setIfInBounds z true)) a w) else qOp P ops C i (wpAnyT P ops C Q z fuel (listed.setIfInBounds i true)) a
theorem wpAny_of_T {Q:Exit→Act→World→Prop} {z:Nat}:∀ (fuel:Nat) (listed:Array Bool) (a:Act) (w:World),C w→wpAnyT P ops C Q z fuel listed a→wpAny P .any ops Q fuel listed a w
 | 0,_,_,_,_,h=>h.elim
 | fuel+1,listed,a,w,hw,h=>⟨fun h0=>absurd h0 h.1,fun i hi=>by
   have h2:=h.2 i hi
   by_cases hz:i=z
   ·rw [if_pos hz] at h2
    subst hz
    exact h2 w hw
   ·rw [if_neg hz] at h2
    exact wpOp_of_qOp hw (fun a' w' hw'=>wpAny_of_T fuel _ a' w' hw') h2⟩
theorem wpAnyT_first {Q:Exit→Act→World→Prop} {z i:Nat} {oi:Oper} {v:Value} (hs:succB ops z=true) (hi:ops[i]?=some oi) (hiz:i < z) (hsel:∀ (j:Nat) (o:Oper) cs b,ops[j]?=some o→o.op ≠ .select cs b) :
  ∀ (fuel:Nat) (listed:Array Bool) (a:Act),Closed ops (fun k=>listed.getD k false) →
   (∀ j oj,ops[j]?=some oj→j ≠ i→listed.getD j true=false→(∀ e ∈ oj.after,Region.binds .any e=true→e.on ≠ i)→oi.apart ops oj=true) →
   i ∈ Region.ready .any ops listed→YieldsIn P ops C oi v a →
   wpAnyT P ops C Q z fuel (listed.setIfInBounds i true) (a.put oi.dst v)→wpAnyT P ops C Q z (fuel+1) listed a:=by
 intro fuel
 induction fuel with
 | zero=>intro listed a _ _ _ _ H;exact H.elim
 | succ fuel ih =>
  intro listed a hcl hfree hr hy H
  refine ⟨fun h=>(by rw [h] at hr;cases hr),fun j hj=>?_⟩
  by_cases hji:j=i
  ·rw [if_neg (by omega)];subst hji;exact hy.qOp hi H
  ·have hjz:j ≠ z:=fun e=>by
    subst e
    obtain ⟨_,o,ho,ha⟩:=mem_ready.1 hj
    have h1:=all_ahead hs hcl ho ha _ i (Nat.le_refl _) hiz
    have h0:=(mem_ready.1 hr).1
    rcases Nat.lt_or_ge i listed.size with h' | h'
    ·simp [h'] at h0 h1;rw [h0] at h1;cases h1
    ·simp [Array.getElem?_eq_none h'] at h1
   rw [if_neg hjz]
   have h1:=H.2 j (ready_mono hj hji)
   rw [if_neg hjz] at h1
   obtain ⟨hjun,oj,hoj,hall⟩:=mem_ready.1 hj
   have hnot:∀ e ∈ oj.after,Region.binds .any e=true→e.on ≠ i:=fun e he hb heq=>by
    have h1:=hall e he hb
    have h0:=(mem_ready.1 hr).1
    rw [heq] at h1
    rcases Nat.lt_or_ge i listed.size with h' | h'
    ·simp [h'] at h0 h1;rw [h0] at h1;cases h1
    ·simp [Array.getElem?_eq_none h'] at h1
   have h2:=qOp_put hoj (hfree j oj hoj hji hjun hnot) (fun cs b=>hsel i oi cs b hi) (fun cs b=>hsel j oj cs b hoj) hy h1
   have hfree':∀ k ok,ops[k]?=some ok→k ≠ i→(listed.setIfInBounds j true).getD k true=false →
     (∀ e ∈ ok.after,Region.binds .any e=true→e.on ≠ i)→oi.apart ops ok=true:=fun k ok hk hki hun hno=>by
    refine hfree k ok hk hki ?_ hno
    by_cases hjk:j=k
    ·subst hjk;exact hjun
    ·rw [getD_set_ne true hjk] at hun;exact hun
   refine qOp_mono (fun a' h3=>ih (listed.setIfInBounds j true) a' (closed_set hcl hj) hfree' (ready_mono hr (Ne.symm hji)) h3.1 ?_) h2
   rw [Array.setIfInBounds_comm _ _ hji]
   exact h3.2
theorem wpAnyT_lex {Q:Exit→Act→World→Prop} {n z f:Nat} (hns:Region.noSelect ops=true) (hs:succB ops z=true) (hz:Region.ready .any ops (listedTo n z)=[z]):∀ (l:List Oper) (k:Nat) (a:Act),k+l.length=z→(∀ j,j < l.length→l[j]?=ops[k+j]?)→Closed ops (fun j=>(listedTo n k).getD j false) →
  Region.lexFrom .any ops (l.length+(f+1)) k (listedTo n k)=true→wpQuiet P ops C (fun a'=>∀ w',C w'→wpOp P ops Q z (wpAny P .any ops Q f (listedTo n (z+1))) a' w') l a→wpAnyT P ops C Q z (l.length+(f+1)) (listedTo n k) a
 | [],k,a,hk,_,_,_,h=>by
  have hk':k=z:=by simpa using hk
  subst hk'
  rw [List.length_nil,Nat.zero_add]
  refine ⟨by rw [hz];simp,fun i hi=>?_⟩
  rw [hz] at hi
  have hik:i=k:=by simpa using hi
  rw [if_pos hik]
  exact h
 | o :: l,k,a,hk,hl,hcl,hB,h=>by
  have h0:ops[k]?=some o:=by simpa using (hl 0 (by simp)).symm
  simp only [List.length_cons] at hk hB ⊢
  rw [show l.length+1+(f+1)=(l.length+(f+1))+1 by omega] at hB ⊢
  rw [Region.lexFrom] at hB
  simp only [Bool.and_eq_true] at hB
  obtain ⟨⟨hr,hf⟩,hB'⟩:=hB
  have hr':k ∈ Region.ready .any ops (listedTo n k):=by simpa using hr
  have hst:qOp P ops C k (wpQuiet P ops C (fun a'=>∀ w',C w'→wpOp P ops Q z (wpAny P .any ops Q f (listedTo n (z+1))) a' w') l) a:=by unfold qOp;simp only [h0];exact h
  obtain ⟨v,hy,hK⟩:=yieldsIn_of_qOp h0 hst
  exact wpAnyT_first hs h0 (by omega) (Region.noSelect_spec hns) (l.length+(f+1)) (listedTo n k) a hcl (Region.free_spec h0 hf) hr' hy
   (wpAnyT_lex hns hs hz l (k+1) _ (by omega) (fun j hj=>by have:=hl (j+1) (by simpa using hj);simpa [Nat.add_assoc,Nat.add_comm 1 j] using this) (closed_set hcl hr') hB' hK)
end
theorem wp_region_tail {P:Program} {id:Nat} {Q:Exit→Act→World→Prop} {a:Act} {w:World} {l:List Oper} (n f:Nat) {o:Oper} (hm:P.follows .mixedOrders=true) (hl:l.length=n+(f+1)) (ho:l[n]?=some o) (hB:Region.lexB .any l.toArray=true) (hs:succB l.toArray n=true) (hz:Region.ready .any l.toArray (listedTo (n+(f+1)) n)=[n])
  (h:wpQuiet P l.toArray (fun w'=>∃ p:BW w,w'=p.u) (fun a'=>∀ w',(∃ p:BW w,w'=p.u)→if Region.wanted o (yielded l.toArray a'.tmps)=true then o.wp P a' w' (wpAny P .any l.toArray Q f (listedTo (n+(f+1)) (n+1))) Q else wpAny P .any l.toArray Q f (listedTo (n+(f+1)) (n+1)) (a'.put o.dst undef) w') (l.take n) a):(Code.region id l.toArray true).wp P Q a w:=by
 simp only [Region.lexB,Bool.and_eq_true] at hB
 have hlt:(l.take n).length=n:=by rw [List.length_take];omega
 refine wp_region_any hm (wpAny_of_T (C:=fun w'=>∃ p:BW w,w'=p.u) (z:=n) _ _ _ _ ⟨⟨_,k_drew (Below.refl _ _)⟩,rfl⟩ ?_)
 have hcv:∀ a',(∀ w',(∃ p:BW w,w'=p.u)→if Region.wanted o (yielded l.toArray a'.tmps)=true then o.wp P a' w' (wpAny P .any l.toArray Q f (listedTo (n+(f+1)) (n+1))) Q else wpAny P .any l.toArray Q f (listedTo (n+(f+1)) (n+1)) (a'.put o.dst undef) w')→∀ w',(∃ p:BW w,w'=p.u)→wpOp P l.toArray Q n (wpAny P .any l.toArray Q f (listedTo (n+(f+1)) (n+1))) a' w':=by
  intro a' hR w' hw'
  have h1:=hR w' hw'
  unfold wpOp
  rw [show l.toArray[n]?=some o by simpa using ho]
  dsimp only
  split
  ·rename_i hw;rw [if_pos hw] at h1;exact .inl h1
  ·rename_i hw;rw [if_neg hw] at h1;exact h1
 have hmono:∀ (q:List Oper) (b:Act),wpQuiet P l.toArray (fun w'=>∃ p:BW w,w'=p.u) (fun a'=>∀ w',(∃ p:BW w,w'=p.u)→if Region.wanted o (yielded l.toArray a'.tmps)=true then o.wp P a' w' (wpAny P .any l.toArray Q f (listedTo (n+(f+1)) (n+1))) Q else wpAny P .any l.toArray Q f (listedTo (n+(f+1)) (n+1)) (a'.put o.dst undef) w') q b→wpQuiet P l.toArray (fun w'=>∃ p:BW w,w'=p.u) (fun a'=>∀ w',(∃ p:BW w,w'=p.u)→wpOp P l.toArray Q n (wpAny P .any l.toArray Q f (listedTo (n+(f+1)) (n+1))) a' w') q b:=by
  intro q
  induction q with
  | nil=>intro b hb;exact hcv b hb
  | cons o q ih =>
   intro b hb
   simp only [wpQuiet] at hb ⊢
   split
   ·rename_i hw;rw [if_pos hw] at hb;exact Oper.quiet_mono ih hb
   ·rename_i hw;rw [if_neg hw] at hb;exact ih _ hb
 have:=wpAnyT_lex (P:=P) (Q:=Q) (n:=n+(f+1)) (f:=f) (C:=fun w'=>∃ p:BW w,w'=p.u) hB.1 hs hz (l.take n) 0 a (by omega) (fun j hj=>by rw [hlt] at hj;simp [hj]) (fun j i _ _=>by
  show (Array.replicate (n+(f+1)) false).getD j false=false
  rw [Array.getD_eq_getD_getElem?,Array.getElem?_replicate]
  split <;> rfl) (by rw [hlt];have h9:=hB.2;rw [show l.toArray.size=n+(f+1) by simpa using hl] at h9;exact h9) (hmono _ _ h)
 rw [hlt] at this
 rw [show l.toArray.size=n+(f+1) by simpa using hl]
 exact this
end Go.Proofs.YtojogjlblgcioanGreat
namespace Go.Proofs.YtojogjlblgcioanGreat
open Go.RowKit
set_option maxRecDepth 100000 in
set_option maxHeartbeats 1000000 in
theorem implWidAt (v:Value) (l:List Int) (gap col:Int) (w:World) (h:IntsAt w v l) :
  Calls Tryz.prog 15 #[v,.int .i64 gap,.int .i64 col] w fun e w'=>e=.returned (.int .i64 (atV l gap col))∧w'=w:=by
 obtain ⟨a,cap,rfl,hlen⟩:=h.form
 have hcap:l.length≤cap∧cap≤9223372036854775807:=by
  obtain ⟨_,_,hv,h1,h2,_⟩:=h
  simp only [Value.slice.injEq] at hv
  obtain ⟨_,_,rfl⟩:=hv
  unfold maxLen at h2
  omega
 have HT:=Hd (fun m (hm:m≤l.length)=>h.take hm)
 have HV:Hid (∀ m:Nat,aheadN l col=m→atV l gap col=wrap64 (wrap64 (l.take m).sum+wrap64 (gap * (m:Nat)))):=fun m hm=>by rw [W_addl,W_addr,atV,hm];rfl
 clear h
 by_cases h0:col < 0
 ·have HV0:=Hd (HV.out 0 (by unfold aheadN;omega))
  have H:=Hd (HT.out 0 (Nat.zero_le _))
  clear HV HT
  have hm1:max col 0=0:=by omega
  have hm2:min 0 (l.length:Int)=0:=by omega
  go_enter Tryz.func15,Tryz.ntmps15
  go_wp2_with fail
  refine (implsumOfW _ _ _ H.out).mono ?_
  rintro e w1 ⟨rfl,rfl⟩
  go_wp2
  go_ret
  exact ⟨by rw [HV0.out];simp [W_eq],rfl⟩
 ·obtain ⟨k,rfl⟩:=Int.eq_ofNat_of_zero_le (show 0≤col by omega)
  by_cases h1:(k:Int)≤(l.length:Int)
  ·have HV0:=Hd (HV.out k (by unfold aheadN;omega))
   have H:=Hd (HT.out k (by omega))
   clear HV HT
   have hm1:max (k:Int) 0=(k:Int):=by omega
   have hm2:min (k:Int) (l.length:Int)=(k:Int):=by omega
   go_enter Tryz.func15,Tryz.ntmps15
   go_wp2_with fail
   refine (implsumOfW _ _ _ H.out).mono ?_
   rintro e w1 ⟨rfl,rfl⟩
   go_wp2
   go_ret
   exact ⟨by rw [HV0.out];first | rfl | simp,rfl⟩
  ·have HV0:=Hd (HV.out l.length (by unfold aheadN;omega))
   have H:=Hd (HT.out l.length (Nat.le_refl _))
   clear HV HT
   have hm1:max (k:Int) 0=(k:Int):=by omega
   have hm2:min (k:Int) (l.length:Int)=(l.length:Int):=by omega
   go_enter Tryz.func15,Tryz.ntmps15
   go_wp2_with fail
   refine (implsumOfW _ _ _ H.out).mono ?_
   rintro e w1 ⟨rfl,rfl⟩
   go_wp2
   go_ret
   exact ⟨by rw [HV0.out];first | rfl | simp,rfl⟩
set_option maxRecDepth 100000 in
theorem implHgtAt (v:Value) (l:List Int) (row:Int) (w:World) (h:IntsAt w v l) :
  Calls Tryz.prog 16 #[v,.int .i64 row] w fun e w'=>e=.returned (.int .i64 (atV l 0 row))∧w'=w:=by
 obtain ⟨a,cap,rfl,hlen⟩:=h.form
 have H:=Hd h
 clear h
 go_enter Tryz.func16,Tryz.ntmps16
 go_wp2_with fail
 refine (implWidAt _ l 0 row _ H.out).mono ?_
 rintro e w1 ⟨rfl,rfl⟩
 go_wp2
 go_ret
 exact ⟨rfl,rfl⟩
set_option maxRecDepth 100000 in
theorem implQryIn (X Y W H x y:Int) (hX:I64 X) (hY:I64 Y) (hW:I64 W) (hH:I64 H) (hx:I64 x) (hy:I64 y) (w:World) :
  Calls Tryz.prog 56 #[.agg #[.int .i64 X,.int .i64 Y,.int .i64 W,.int .i64 H],.int .i64 x,.int .i64 y] w fun e w'=>e=.returned (.bool (qinB X Y W H x y))∧Below w.heap.size w w':=by
 unfold qinB
 have H1:=Hd (reaches_any x X W hx hX hW)
 have H2:=Hd (reaches_any y Y H hy hY hH)
 generalize amongB x X W=p at H1 ⊢
 generalize amongB y Y H=q at H2 ⊢
 cases p with
 | false =>
  go_enter Tryz.func56,Tryz.ntmps56
  go_wp2_with fail
  refine (H1.out _).mono ?_
  rintro e w1 ⟨rfl,rfl⟩
  go_wp2
  go_ret
  exact ⟨rfl,k_alloc (Below.refl _ _) _⟩
 | true =>
  go_enter Tryz.func56,Tryz.ntmps56
  go_wp2_with fail
  refine (H1.out _).mono ?_
  rintro e w1 ⟨rfl,rfl⟩
  go_wp2_with fail
  refine (H2.out _).mono ?_
  rintro e w1 ⟨rfl,rfl⟩
  go_wp2
  go_ret
  exact ⟨by cases q <;> rfl,k_alloc (Below.refl _ _) _⟩
theorem row_lit (w:World) (B:Nat) (hB:B≤w.heap.size):RowI (w.alloc (.cells #[] 3)) B (w.alloc (.cells #[] 3)).heap.size (.slice (some ⟨w.heap.size,0,none⟩) 0 0) [] :=
 .inr ⟨w.heap.size,0,#[],rfl,hB,by simp,newestB _ _,Nat.le_refl _,Nat.zero_le _,rfl,fun i hi=>absurd hi (Nat.not_lt_zero _)⟩
set_option maxRecDepth 100000 in
set_option maxHeartbeats 4000000 in
theorem l4Share_nil (t:Int) (ht:0≤t∧t≤100000) (a:Option Addr) (cap:Nat) (w:World) :
  Calls Tryz.prog 94 #[.int .i64 t,.slice a 0 cap] w fun e w'=>∃ x,e=.returned x∧RowI w' w.heap.size w'.heap.size x []∧Below w.heap.size w w':=by
 have hmk:∀ u:World,(Instr.makeSlice 190 (.int .i64 0) (.int .i64 0)).run Tryz.prog u=.ok (.slice (some ⟨u.heap.size,0,none⟩) 0 0) (u.alloc (.cells (newBo 0) 4)):=fun u=>makeBo 0 (by omega) u
 have CS:=Hd (fun (v:Value) (W:World) (h:IntsAt W v [])=>specl1Sum_any v [] (by simp) rfl W h)
 have emp:∀ (W:World) (aa:Option Addr),IntsAt W (.slice aa 0 0) []:=fun W aa=>⟨aa,0,rfl,Nat.le_refl _,Nat.zero_le _,fun i hi=>absurd hi (Nat.not_lt_zero _)⟩
 have EM:=Hd emp
 clear emp
 cases a with
 | none =>
  go_enter Tryz.func94,Tryz.ntmps94
  go_wp2_with (go_at_call 41;refine (CS.out _ _ (EM.out _ _)).mono ?_;rintro e wx ⟨rfl,ex⟩;cases ex)
  go_loopw [6] (fun s6 W=>s6=.int .i64 0∧Hid (Below w.heap.size w W)) (fun _ _=>0)
  case atStart=>exact ⟨rfl,k_alloc (Below.refl _ _) _⟩
  case round =>
   obtain ⟨rfl,HB⟩:=hrel
   have hwr:=HB.out.size
   go_wp2_with (go_at_call 41;refine (CS.out _ _ (EM.out _ _)).mono ?_;rintro e wx ⟨rfl,ex⟩;cases ex)
   have R0:=Hd (((row_lit wr w.heap.size hwr).below (k_alloc (k_alloc (Below.refl _ _) (.cells #[] 3)) (.cells (newBo 0) 4)) (Nat.le_refl _)).base (Nat.le_refl _) (Nat.le_trans (by simp) (Nat.le_refl ((((wr.alloc (.cells #[] 3)).alloc (.cells #[] 3)).alloc (.cells (newBo 0) 4)).heap.size))))
   have B0:=Hd (k_alloc (k_alloc (k_alloc HB.out (.cells #[] 3)) (.cells #[] 3)) (.cells (newBo 0) 4))
   go_loopw [8,9,11] (fun s8 s9 s11 W=>(∃ a8,s8=.slice a8 0 0)∧(∃ a9,s9=.slice a9 0 0)∧s11=.int .i64 0∧Hid (RowI W w.heap.size W.heap.size s8 [])∧Hid (Below w.heap.size w W)) (fun _ _ _ _=>0)
   case atStart=>exact ⟨⟨_,rfl⟩,⟨_,rfl⟩,rfl,R0,B0⟩
   case round =>
    clear R0 B0
    obtain ⟨⟨a8,rfl⟩,⟨a9,rfl⟩,rfl,HR,HB2⟩:=hrel
    go_wp2_with (go_at_call 41;refine (CS.out _ _ (EM.out _ _)).mono ?_;rintro e wx ⟨rfl,ex⟩;cases ex)
    go_loopw [12] (fun s12 W=>s12=.int .i64 t∧Hid (RowI W w.heap.size W.heap.size (.slice a8 0 0) [])∧Hid (Below w.heap.size w W)) (fun _ _=>0)
    case atStart=>exact ⟨by simp,HR,HB2⟩
    case round =>
     clear HR HB2
     obtain ⟨rfl,HR,HB2⟩:=hrel
     by_cases h0:0 < t
     ·go_wp2
      go_ret
      exact ⟨_,rfl,HR.out,HB2.out⟩
     ·go_wp2
      go_ret
      exact ⟨_,rfl,HR.out,HB2.out⟩
 | some p =>
  go_enter Tryz.func94,Tryz.ntmps94
  go_wp2_with (go_at_call 41;refine (CS.out _ _ (EM.out _ _)).mono ?_;rintro e wx ⟨rfl,ex⟩;cases ex)
  go_loopw [6] (fun s6 W=>s6=.int .i64 0∧Hid (Below w.heap.size w W)) (fun _ _=>0)
  case atStart=>exact ⟨rfl,k_alloc (Below.refl _ _) _⟩
  case round =>
   obtain ⟨rfl,HB⟩:=hrel
   have hwr:=HB.out.size
   go_wp2_with (go_at_call 41;refine (CS.out _ _ (EM.out _ _)).mono ?_;rintro e wx ⟨rfl,ex⟩;cases ex)
   have R0:=Hd (((row_lit wr w.heap.size hwr).below (k_alloc (k_alloc (Below.refl _ _) (.cells #[] 3)) (.cells (newBo 0) 4)) (Nat.le_refl _)).base (Nat.le_refl _) (Nat.le_trans (by simp) (Nat.le_refl ((((wr.alloc (.cells #[] 3)).alloc (.cells #[] 3)).alloc (.cells (newBo 0) 4)).heap.size))))
   have B0:=Hd (k_alloc (k_alloc (k_alloc HB.out (.cells #[] 3)) (.cells #[] 3)) (.cells (newBo 0) 4))
   go_loopw [8,9,11] (fun s8 s9 s11 W=>(∃ a8,s8=.slice a8 0 0)∧(∃ a9,s9=.slice a9 0 0)∧s11=.int .i64 0∧Hid (RowI W w.heap.size W.heap.size s8 [])∧Hid (Below w.heap.size w W)) (fun _ _ _ _=>0)
   case atStart=>exact ⟨⟨_,rfl⟩,⟨_,rfl⟩,rfl,R0,B0⟩
   case round =>
    clear R0 B0
    obtain ⟨⟨a8,rfl⟩,⟨a9,rfl⟩,rfl,HR,HB2⟩:=hrel
    go_wp2_with (go_at_call 41;refine (CS.out _ _ (EM.out _ _)).mono ?_;rintro e wx ⟨rfl,ex⟩;cases ex)
    go_loopw [12] (fun s12 W=>s12=.int .i64 t∧Hid (RowI W w.heap.size W.heap.size (.slice a8 0 0) [])∧Hid (Below w.heap.size w W)) (fun _ _=>0)
    case atStart=>exact ⟨by simp,HR,HB2⟩
    case round =>
     clear HR HB2
     obtain ⟨rfl,HR,HB2⟩:=hrel
     by_cases h0:0 < t
     ·go_wp2
      go_ret
      exact ⟨_,rfl,HR.out,HB2.out⟩
     ·go_wp2
      go_ret
      exact ⟨_,rfl,HR.out,HB2.out⟩
set_option maxRecDepth 100000 in
set_option maxHeartbeats 2000000 in
theorem specl4Share (t:Int) (v:Value) (l:List Int) (hok:shrOkB t l=true) (w:World) (h:IntsAt w v l) :
  Calls Tryz.prog 94 #[.int .i64 t,v] w fun e w'=>∃ x,e=.returned x∧RowI w' w.heap.size w'.heap.size x (shareL t l)∧Below w.heap.size w w':=by
 by_cases h0:0 < l.length
 ·exact l4Share_any t v l hok h0 w h
 ·obtain rfl:l=[]:=List.eq_nil_of_length_eq_zero (by omega)
  obtain ⟨a,cap,rfl,_⟩:=h.form
  rw [shareL_none (by simp)]
  exact l4Share_nil t (shrOk_parts hok).1 a cap w
set_option maxRecDepth 100000 in
set_option maxHeartbeats 4000000 in
theorem specl4UpTo (t:Int) (v:Value) (l:List Int) (hok:shrOkB t l=true) (w:World) (h:IntsAt w v l) :
  Calls Tryz.prog 90 #[.int .i64 t,v] w fun e w'=>∃ x,e=.returned (.tuple #[x,.int .i64 (upToN t l)])∧RowI w' w.heap.size w'.heap.size x (upToL t l)∧Below w.heap.size w w':=by
 obtain ⟨i0,hi0,hz0,hz1,hz2⟩:=info_parts infoI4
 obtain ⟨a,cap,rfl,_⟩:=h.form
 have H:=Hd h
 obtain ⟨ht,hl,hw⟩:=shrOk_parts hok
 have hsb:=sum_bound hw
 have HS:=Hd (fun W=>specl1Sum_any (.slice a l.length cap) l (by omega) hw W)
 by_cases hs:l.sum≤t
 ·obtain ⟨e1,e2⟩:=upTo_all hok hs
  have E1:=Hd e1
  have E2:=Hd e2
  clear e1 e2 hw
  by_cases h0:0 < l.length
  ·obtain ⟨b,off,cap',e',_,_,hbw,_⟩:=h.get h0
   simp only [Value.slice.injEq,true_and] at e'
   obtain ⟨rfl,rfl⟩:=e'
   clear h
   go_enter Tryz.func90,Tryz.ntmps90
   go_wp2_with fail
   refine (HS.out _ H.out).mono ?_
   rintro e w1 ⟨rfl,ex⟩
   cases ex
   generalize l.sum=s at hs E2 hsb
   go_wp2_with (at_builtin;refine wpList_append_own_at _ rfl _ _ 30 rfl w.heap.size 3 i0 (.int .i64 0) 1 8 Tryz.underlying30 hi0 hz0 hz1 hz2 rfl (by decide) _ 0 [] rfl (World.ownsRow_made (base:=w.heap.size) (e:=3) (size:=1) w #[] 0 (Nat.le_refl _) (Nat.zero_le _) rfl) ⟨b,off,none⟩ l.length cap (l.map (Value.int .i64)) rfl ?e1 (map_cells H.out (k_alloc (Below.refl _ _) _)) (map_one l) ?e4 ?e5 ?e6 ?_)
   case e1=>simp
   case e4=>unfold maxLen;omega
   case e5=>omega
   case e6=>simp
   intro v5 w5 ho5 hg5 _ _
   have R5:=Hd (RowI.of_owns (l:=l) (by simpa using ho5))
   have K5:Hid (Below w.heap.size w w5):=(k_alloc (Below.refl w.heap.size w) (.cells #[] 3)).grown hg5 (by simp) (fun q hq=>by
    have:q=w.heap.size:=by simpa [Value.ownBlock] using hq.symm
    omega)
   obtain ⟨a5,c5,rfl⟩:=R5.out.form
   clear ho5 hg5
   go_wp2
   go_ret2
   exact ⟨_,retT E2.out.symm,by rw [E1.out];exact R5.out,K5.out⟩
  ·obtain rfl:l=[]:=List.eq_nil_of_length_eq_zero (by omega)
   clear h
   cases a with
   | none =>
    go_enter Tryz.func90,Tryz.ntmps90
    go_wp2_with fail
    refine (HS.out _ H.out).mono ?_
    rintro e w1 ⟨rfl,ex⟩
    cases ex
    generalize ([]:List Int).sum=s at hs E2 hsb
    go_wp2
    go_ret2
    exact ⟨_,retT E2.out.symm,by rw [E1.out];exact row_lit w _ (Nat.le_refl _),k_alloc (Below.refl _ _) _⟩
   | some p =>
    go_enter Tryz.func90,Tryz.ntmps90
    go_wp2_with fail
    refine (HS.out _ H.out).mono ?_
    rintro e w1 ⟨rfl,ex⟩
    cases ex
    generalize ([]:List Int).sum=s at hs E2 hsb
    go_wp2
    go_ret2
    exact ⟨_,retT E2.out.symm,by rw [E1.out];exact row_lit w _ (Nat.le_refl _),k_alloc (Below.refl _ _) _⟩
 ·obtain ⟨e1,e2⟩:=upTo_share hok hs
  have E1:=Hd e1
  have E2:=Hd e2
  have HSh:=Hd (fun W=>specl4Share t (.slice a l.length cap) l hok W)
  clear e1 e2 hw h
  go_enter Tryz.func90,Tryz.ntmps90
  go_wp2_with fail
  refine (HS.out _ H.out).mono ?_
  rintro e w1 ⟨rfl,ex⟩
  cases ex
  generalize l.sum=s at hs hsb
  go_wp2_with fail
  refine (HSh.out _ H.out).mono ?_
  rintro e w2 ⟨x,rfl,hr,hb⟩
  have R:=Hd (And.intro hr hb)
  clear hr hb
  go_wp2
  go_ret2
  exact ⟨x,retT E2.out.symm,by rw [E1.out];exact R.out.1,R.out.2⟩
set_option maxRecDepth 100000 in
set_option maxHeartbeats 1000000 in
theorem lawspwSum_any (v:Value) (l:List Int) (hl:l.length≤1000) (hw:l.all wtB=true) (w:World) (h:IntsAt w v l) :
  Calls Tryz.prog 17 #[v] w fun e w'=>e=.returned (.int .i64 l.sum)∧w'=w:=by
 obtain ⟨a,cap,rfl,_⟩:=h.form
 have H:=Hd h
 have HW:=Hd (sumTo_bound hw)
 have HG:=Hd (fun i hi=>wt_get (i:=i) hw hi)
 clear h hw
 go_enter Tryz.func17,Tryz.ntmps17
 go_wp2_with fail
 go_loop [3,4] (fun s i=>∃ k:Nat,k≤l.length∧i=.int .i64 k∧s=.int .i64 (sumTo l k)) (fun _ i=>l.length - (intOf i).toNat)
 case atStart=>exact ⟨0,Nat.zero_le _,rfl,by simp [sumTo]⟩
 case round =>
  obtain ⟨k,hk,rfl,rfl⟩:=hrel
  by_cases hlt:k < l.length
  ·obtain ⟨b,off,cap',e',hc1,hc2,hbl,hx⟩:=H.out.get hlt
   simp only [Value.slice.injEq,true_and] at e'
   obtain ⟨rfl,rfl⟩:=e'
   have hb1:=HW.out k hk
   have hb2:=HG.out k hlt
   have HS:=Hd (sumTo_succ hlt)
   generalize l.getD k 0=x at hx HS hb2
   generalize sumTo l k=s at HS hb1
   unfold maxLen at hc2
   go_wp2
   go_round
   case rel=>exact ⟨k+1,by omega,by go_num,by rw [HS.out]⟩
   case measure=>simp [intOf];omega
  ·obtain rfl:k=l.length:=by omega
   have HE:=Hd (sumTo_all l)
   go_wp2
   go_ret
   exact ⟨by rw [← HE.out];rfl,rfl⟩
theorem abcOk:txtOkB ⟨#[97,98,32,99]⟩=true:=by decide +kernel
theorem pwOk_any (w:World):Calls Tryz.prog 18 #[] w fun e w'=>e=.returned (.bool true)∧w'=w:=by
 go_enter Tryz.func18,Tryz.ntmps18
 go_wp2_with fail
 refine (implTxtOk _ _ (by unfold maxLen;decide)).mono ?_
 rw [abcOk]
 rintro e w1 ⟨rfl,rfl⟩
 go_wp2
 go_ret
 exact ⟨rfl,rfl⟩
theorem wd3 (k:Int) (h0:0≤k) (h1:k < 3):∃ v:Int,(-1≤v∧v≤301)∧(#[Value.int .i64 (-1),.int .i64 301,.int .i64 300]:Array Value)[k.toNat]?=some (.int .i64 v):=by
 rcases (by omega:k=0∨k=1∨k=2) with rfl | rfl | rfl
 ·exact ⟨-1,by omega,rfl⟩
 ·exact ⟨301,by omega,rfl⟩
 ·exact ⟨300,by omega,rfl⟩
theorem wd8 (x k:Int) (hx:0≤x∧x < 100) (h0:0≤k) (h1:k < 8):∃ v:Int,(-1≤v∧v≤301)∧(#[Value.int .i64 0,.int .i64 10,.int .i64 25,.int .i64 40,.int .i64 60,.int .i64 80,.int .i64 120,.int .i64 x]:Array Value)[k.toNat]?=some (.int .i64 v):=by
 rcases (by omega:k=0∨k=1∨k=2∨k=3∨k=4∨k=5∨k=6∨k=7) with rfl | rfl | rfl | rfl | rfl | rfl | rfl | rfl
 ·exact ⟨0,by omega,rfl⟩
 ·exact ⟨10,by omega,rfl⟩
 ·exact ⟨25,by omega,rfl⟩
 ·exact ⟨40,by omega,rfl⟩
 ·exact ⟨60,by omega,rfl⟩
 ·exact ⟨80,by omega,rfl⟩
 ·exact ⟨120,by omega,rfl⟩
 ·exact ⟨x,by omega,rfl⟩
set_option maxRecDepth 100000 in
set_option maxHeartbeats 1000000 in
theorem l20Width_any (r B:Nat) (w:World) (h:Rd w r B) (hB:B≤900000) :
  Calls Tryz.prog 82 #[.pointer (some ⟨r,0,none⟩),.int .i64 16] w fun e w'=>∃ x:Int,e=.returned (.int .i64 x)∧(-1≤x∧x≤301)∧Rd w' r (B+3)∧Bk r w w':=by
 have hlt:=h.lt
 have HR:Hid (Rd w r B):=h
 clear h
 go_enter Tryz.func82,Tryz.ntmps82
 go_wp2_with fail
 refine (pick_any r B _ _ HR.out (by omega)).mono ?_
 rintro e w1 ⟨k1,rfl,hk1,hR1,hb1⟩
 have hz1:=hb1.size
 by_cases h0:k1=0
 ·subst h0
  clear hk1
  have A1:=newest w1 (.cells #[.int .i64 (-1),.int .i64 301,.int .i64 300] 3)
  go_wp2_with fail
  refine (pick_any r (B+1) _ _ (hR1.alloc _) (by omega)).mono ?_
  rintro e w2 ⟨k2,rfl,hk2,hR2,hb2⟩
  obtain ⟨ka,kb⟩:=hk2 (by omega)
  obtain ⟨v,hv,hvl⟩:=wd3 k2 ka kb
  have A2:=(hb2.block w1.heap.size (by simp) (by omega)).trans A1
  have hc:w2.cell? ⟨w1.heap.size,k2.toNat,none⟩=some (.int .i64 v):=(cellB A2).trans hvl
  have HK:=Hd ((hb1.trans (Bk.alloc (Bk.refl _ _) _)).trans hb2)
  have HRr:=Hd (hR2.mono (show B+1+1≤B+3 by omega))
  clear A1 A2 hb1 hb2 hR1 hR2 hvl hk2
  go_wp2
  go_ret
  exact ⟨v,rfl,hv,HRr.out,HK.out⟩
 ·have hne:(k1 == 0)=false:=beq_eq_false_iff_ne.2 h0
  clear h0 hk1
  go_wp2_with fail
  refine (pick_any r (B+1) _ _ hR1 (by omega)).mono ?_
  rintro e w2 ⟨x,rfl,hx,hR2,hb2⟩
  have hxb:=hx (by omega)
  have hz2:=hb2.size
  have A1:=newest w2 (.cells #[.int .i64 0,.int .i64 10,.int .i64 25,.int .i64 40,.int .i64 60,.int .i64 80,.int .i64 120,.int .i64 x] 3)
  go_wp2_with fail
  refine (pick_any r (B+2) _ _ (hR2.alloc _) (by omega)).mono ?_
  rintro e w3 ⟨k3,rfl,hk3,hR3,hb3⟩
  obtain ⟨ka,kb⟩:=hk3 (by omega)
  obtain ⟨v,hv,hvl⟩:=wd8 x k3 hxb ka kb
  have A2:=(hb3.block w2.heap.size (by simp) (by omega)).trans A1
  have hc:w3.cell? ⟨w2.heap.size,k3.toNat,none⟩=some (.int .i64 v):=(cellB A2).trans hvl
  have HK:=Hd (((hb1.trans hb2).trans (Bk.alloc (Bk.refl _ _) _)).trans hb3)
  have HRr:=Hd (hR3.mono (show B+2+1≤B+3 by omega))
  clear A1 A2 hb1 hb2 hb3 hR1 hR2 hR3 hvl hk3 hx
  go_wp2
  go_ret
  exact ⟨v,rfl,hv,HRr.out,HK.out⟩
set_option maxRecDepth 100000 in
set_option maxHeartbeats 1000000 in
theorem implGrdAt (a b:Int) (ac:Option Addr) (cc:Nat) (gs:List GC) (row col:Int) (hr:I64 row) (hc:I64 col) (w:World) {z:Nat} (h:GsAt w z (.slice ac gs.length cc) gs) :
  Calls Tryz.prog 13 #[.agg #[.int .i64 a,.int .i64 b,.slice ac gs.length cc],.int .i64 row,.int .i64 col] w fun e w'=>e=.returned (.int .i64 (findTo (holdsB row col) gs))∧Below w.heap.size w w':=by
 obtain ⟨_,_,_,hlen⟩:=At.form h
 unfold maxLen at hlen
 have H:=Hd h
 clear h
 go_enter Tryz.func13,Tryz.ntmps13
 go_wp2_with fail
 go_loopw [12] (fun i W=>∃ k:Nat,k≤gs.length∧i=.int .i64 k∧Hid (∀ j,j < k→holdsB row col (gs.getD j dG)=false)∧Hid (Below w.heap.size w W)) (fun i _=>gs.length - (intOf i).toNat)
 case atStart=>exact ⟨0,Nat.zero_le _,rfl,fun j hj=>absurd hj (Nat.not_lt_zero _),k_alloc (Below.refl _ _) _⟩
 case round =>
  obtain ⟨k,hk,rfl,HA,HB⟩:=hrel
  by_cases hlt:k < gs.length
  ·obtain ⟨q,off,cap',e',hc1,hc2,hbl,hx,hs⟩:=At.get (H.out.kept HB.out) hlt
   simp only [Value.slice.injEq,true_and] at e'
   obtain ⟨rfl,rfl⟩:=e'
   have HH:Hid (holdsB row col (gs.getD k dG)=true→findTo (holdsB row col) gs=(k:Int)):=fun hp=>findTo_hit hlt HA.out hp
   have HN:Hid (holdsB row col (gs.getD k dG)=false→∀ j,j < k+1→holdsB row col (gs.getD j dG)=false):=fun hp j hj=>by
    rcases Nat.lt_or_eq_of_le (Nat.lt_succ_iff.1 hj) with h1 | rfl
    ·exact HA.out j h1
    ·exact hp
   generalize gs.getD k dG=x at hx hs HH HN
   obtain ⟨x0,x1,x2,x3,x4⟩:=hx
   obtain ⟨b0,b1,b2,b3,_⟩:=hs
   have H1:=Hd (reaches_any row x.row x.rows hr b0 b2)
   have H2:=Hd (reaches_any col x.col x.cols hc b1 b3)
   unfold maxLen at hc2
   clear b0 b1 b2 b3
   cases h1:amongB row x.row x.rows with
   | false =>
    have HF:=Hd (HN.out (by simp only [holdsB,h1,Bool.false_and]))
    rw [h1] at H1
    clear HH HN HA
    go_wp2_with fail
    refine (H1.out _).mono ?_
    rintro e w1 ⟨rfl,rfl⟩
    go_wp2
    go_roundw
    case rel=>exact ⟨k+1,by omega,by go_num,HF,k_alloc HB.out _⟩
    case measure=>simp [intOf];omega
   | true =>
    rw [h1] at H1
    cases h2:amongB col x.col x.cols with
    | false =>
     have HF:=Hd (HN.out (by simp only [holdsB,h2,Bool.and_false]))
     rw [h2] at H2
     clear HH HN HA
     go_wp2_with fail
     refine (H1.out _).mono ?_
     rintro e w1 ⟨rfl,rfl⟩
     go_wp2_with fail
     refine (H2.out _).mono ?_
     rintro e w1 ⟨rfl,rfl⟩
     go_wp2
     go_roundw
     case rel=>exact ⟨k+1,by omega,by go_num,HF,k_alloc HB.out _⟩
     case measure=>simp [intOf];omega
    | true =>
     have HF:=Hd (HH.out (by simp only [holdsB,h1,h2,Bool.and_self]))
     rw [h2] at H2
     clear HH HN HA
     go_wp2_with fail
     refine (H1.out _).mono ?_
     rintro e w1 ⟨rfl,rfl⟩
     go_wp2_with fail
     refine (H2.out _).mono ?_
     rintro e w1 ⟨rfl,rfl⟩
     go_wp2
     go_ret
     exact ⟨by rw [HF.out];rfl,k_alloc HB.out _⟩
  ·obtain rfl:k=gs.length:=by omega
   have HF:=Hd (findTo_none HA.out)
   clear HA
   go_wp2
   go_ret
   exact ⟨by rw [HF.out];rfl,HB.out⟩
end Go.Proofs.YtojogjlblgcioanGreat
