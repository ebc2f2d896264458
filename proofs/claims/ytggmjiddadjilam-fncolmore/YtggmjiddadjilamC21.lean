/-
  PROVED HERE: what the program's sumOf answers of any list of numbers in memory; nothing in memory is turned. Also: 7 more texts of the same proof.
-/
import Derived.Test.YtggmjiddadjilamC20
import Derived.Test.YtggmjiddadjilamC15
set_option maxRecDepth 1000000
set_option maxHeartbeats 40000000
namespace Go.Proofs.Ytggmjiddadjilam
section
open Go.RowKit
theorem z7N (v:Value) (l:List Int) (w:World) (h:z0x w v l) :
  Calls Try.prog 108 #[v] w fun e w'=>e=.returned (.int .i64 (wrap64 l.sum))∧w'=w:=by
 obtain ⟨a,cap,rfl,hlen⟩:=h.form;have H:=Hd h;clear h;go_enter Try.func108,Try.ntmps108;go_wp2_with fail
 go_loop [3,8] (fun s i=>∃ k:Nat,k≤l.length∧i=.int .i64 k∧s=.int .i64 (wrap64 (z0C l k))) (fun _ i=>l.length - (intOf i).toNat)
 case atStart=>exact ⟨0,Nat.zero_le _,rfl,by simp [z0C,z7r]⟩
 case round =>
  obtain ⟨k,hk,rfl,rfl⟩:=hrel;by_cases hlt:k < l.length
  ·obtain ⟨b,off,cap',e',hc1,hc2,hbl,hx⟩:=H.out.get hlt;simp only [Value.slice.injEq,true_and] at e';obtain ⟨rfl,rfl⟩:=e';have HS:Hid (wrap64 (wrap64 (z0C l k)+l.getD k 0)=wrap64 (z0C l (k+1))):=(by rw [Hid,z1n hlt,z82]);generalize l.getD k 0=x at hx HS;generalize wrap64 (z0C l k)=s at HS ⊢;unfold maxLen at hc2;go_wp2
   go_round
   case rel=>exact ⟨k+1,by omega,by go_num,by rw [← HS.out]⟩
   case measure=>simp [intOf];omega
  ·obtain rfl:k=l.length:=by omega
   have HE:=Hd (z2o l);go_wp2;go_ret;exact ⟨by rw [← HE.out];rfl,rfl⟩
theorem z5P (v:Value) (l:List Int) (gap:Int) (w:World) (h:z0x w v l) :
  Calls Try.prog 97 #[v,.int .i64 gap] w fun e w'=>e=.returned (.int .i64 (z2c l gap))∧w'=w:=by
 obtain ⟨a,cap,rfl,hlen⟩:=h.form;have H:=Hd h;clear h;by_cases h0:l.length=0
 ·have HV:=Hd (z90 h0 gap);rw [h0] at H ⊢;clear h0;go_enter Try.func97,Try.ntmps97;go_wp2;go_ret;exact ⟨by rw [HV.out];rfl,rfl⟩
 ·have HV:Hid (z2c l gap=wrap64 (wrap64 l.sum+wrap64 (gap * ((l.length:Int) - 1)))):=(by rw [Hid,z5m h0,z82,zae]);have h0':((l.length:Int) == 0)=false:=beq_eq_false_iff_ne.2 (by omega);have KS:=Hd (z7N _ l w H.out);go_enter Try.func97,Try.ntmps97;go_wp2_with fail
  refine KS.out.mono ?_;rintro e w1 ⟨rfl,rfl⟩;go_wp2;go_ret;exact ⟨by rw [HV.out];rfl,rfl⟩
theorem z01.sub {w:World} {B D g n cap:Nat} {l:List Int} (h:z01 w B D (.slice (some ⟨g,0,none⟩) n cap) l) {c m:Nat} (hc:c+m≤l.length) (hm:1≤m):z0x w (.slice (some ⟨g,c,none⟩) m (cap - c)) (z0d l c m):=by
 have hlen:=z0Z hc
 rcases h with ⟨hv,_⟩ | ⟨g',cap',cur,hv,hb,hd,hg,h1,h2,h3,h4⟩
 ·simp at hv
 ·simp only [Value.slice.injEq,Option.some.injEq,Addr.mk.injEq,and_true] at hv;obtain ⟨rfl,rfl,rfl⟩:=hv;refine ⟨_,cap - c,by rw [hlen],by rw [hlen];omega,by omega,fun i hi=>⟨g,c,rfl,(bL hg),?_⟩⟩;rw [hlen] at hi;rw [z3i hc hi];exact (zc hg).trans (h4 (c+i) (by omega))
theorem z01.bk {w w':World} {B D g:Nat} {v:Value} {l:List Int} (h:z01 w B D v l) (k:Bk g w w') (hg:g < B∨D≤g):z01 w' B D v l:=h.kept (fun j h0 h1 h2=>k.block j h0 (by omega))
theorem z8K {l:List Int} {c m:Nat} {gap:Int} (hb:UpB l 50000) (hc:c+m≤l.length) (hm:1≤m∧m≤4) (hg:0≤gap∧gap≤3):z2c (z0d l c m) gap=(z0d l c m).sum+gap * ((m:Int) - 1)∧0≤z2c (z0d l c m) gap∧z2c (z0d l c m) gap≤300000:=by
 have hs:=z51 (fun x (hx:x ∈ z0d l c m)=>hb.mem (z4c hx));rw [z0Z hc] at hs;have hgm:0≤gap * ((m:Int) - 1):=Int.mul_nonneg hg.1 (by omega);have hgm2:gap * ((m:Int) - 1)≤9:=Int.le_trans (Int.mul_le_mul hg.2 (show (m:Int) - 1≤3 by omega) (by omega) (by omega)) (by omega)
 have e:z2c (z0d l c m) gap=(z0d l c m).sum+gap * ((m:Int) - 1):=by
  rw [z5m (by rw [z0Z hc];omega),z0Z hc,z78 (by omega)]
 rw [e];omega
theorem z8L (B D g n cap:Nat) (l:List Int) (hb:UpB l 50000) (c m:Nat) (hc:c+m≤l.length) (hm:1≤m∧m≤4) (gap need:Int) (hg:0≤gap∧gap≤3) (hn:0≤need∧need≤30) (w:World) (h:z01 w B D (.slice (some ⟨g,0,none⟩) n cap) l) (hgw:g < w.heap.size) :
  Calls Try.prog 80 #[.slice (some ⟨g,c,none⟩) m (cap - c),.int .i64 gap,.int .i64 need] w fun e w'=>e=.returned (.tuple #[])∧z01 w' B D (.slice (some ⟨g,0,none⟩) n cap) (z1H l c m gap need)∧Bk g w w':=by
 have hI:=h.sub hc hm.1;obtain ⟨ha,ha0,ha1⟩:=z8K hb hc hm hg;have KA:=Hd (z5P _ _ gap w hI);have HLk:Hid (z0h l c m gap need=need - z2c (z0d l c m) gap):=(by rw [Hid,ha];rfl);have HH:=Hd h;clear h;by_cases hl:z0h l c m gap need≤0
 ·have HV:Hid (z1H l c m gap need=l):=(by rw [Hid,z1H,if_pos hl]);rw [HLk.out] at hl;clear hI ha HLk;generalize z2c (z0d l c m) gap=y at KA hl ha0 ha1
  have hcap:m≤cap - c∧cap - c≤9223372036854775807:=by
   rcases HH.out with ⟨hv,_⟩ | ⟨g',cap',cur,hv,_,_,_,h1,h2,_,_⟩
   ·simp at hv
   ·simp only [Value.slice.injEq,Option.some.injEq,Addr.mk.injEq,and_true] at hv;obtain ⟨rfl,rfl,rfl⟩:=hv;unfold maxLen at h2;omega
  go_enter Try.func80,Try.ntmps80;go_wp2_with fail
  refine KA.out.mono ?_;rintro e w1 ⟨rfl,rfl⟩;go_wp2;exact bodyPost_ret (v:=.tuple #[]) (by simp [results,Try.results80,go_sem]) rfl ⟨rfl,by rw [HV.out];exact HH.out,Bk.refl _ _⟩
 ·obtain ⟨hok,h30⟩:=z52 hb hc hm hg hn.2 (by omega);have HV:Hid (z1H l c m gap need=z1G l c (z0c (z0h l c m gap need) (z0d l c m)) m):=(by rw [Hid,z1H,if_neg hl])
  have hcap:n=l.length∧m≤cap - c∧cap - c≤9223372036854775807∧B≤g∧g < D:=by
   rcases HH.out with ⟨hv,_⟩ | ⟨g',cap',cur,hv,h5,h6,_,h1,h2,_,_⟩
   ·simp at hv
   ·simp only [Value.slice.injEq,Option.some.injEq,Addr.mk.injEq,and_true] at hv;obtain ⟨rfl,rfl,rfl⟩:=hv;unfold maxLen at h2;omega
  obtain ⟨rfl,hcp1,hcp2,hBg,hgD⟩:=hcap;have hsl:=z2x hok;rw [z0Z hc] at hsl;have HSB:=Hd (fun k hk=>z2H (t:=z0h l c m gap need) (l:=z0d l c m) k hk);have KS:=Hd (z6A (z0h l c m gap need) _ _ w hI);rw [HLk.out] at hl h30 KS HV hsl HSB;clear hI ha HLk hok;generalize z2c (z0d l c m) gap=y at KA hl ha0 ha1 h30 KS HV hsl HSB;generalize z0c (need - y) (z0d l c m)=sh at KS HV hsl HSB;go_enter Try.func80,Try.ntmps80;go_wp2_with fail
  refine KA.out.mono ?_;rintro e w1 ⟨rfl,e1⟩
  cases e1
  go_wp2_with fail
  refine KS.out.mono ?_;rintro e w2 ⟨v2,rfl,hr2,hb2⟩;obtain ⟨a2,c2,rfl⟩:=hr2.form;rw [hsl] at hr2 ⊢;have HS2:=Hd hr2;have HR2:=Hd (HH.out.kept (fun j h0 _ _=>hb2.block j h0));have HK2:=Hd (Bk.of_below (r:=g) hb2);have hz2:=hb2.size;clear hr2 hb2 KA KS HH;go_wp2_with fail
  go_loopw [20] (fun s W=>∃ k:Nat,s=.int .i64 k∧k≤m∧Hid (z01 W B D (.slice (some ⟨g,0,none⟩) l.length cap) (z1G l c sh k))∧Hid (z01 W w.heap.size w2.heap.size (.slice a2 m c2) sh)∧Hid (Bk g w W)) (fun s _=>m - (intOf s).toNat)
  case atStart=>exact ⟨0,rfl,Nat.zero_le _,HR2,HS2,HK2⟩
  case round =>
   obtain ⟨k,rfl,hk,HR,HS,HK⟩:=hrel;by_cases hlt:k < m
   ·obtain ⟨g',cap',e',hb1',hd1',hgs,hc1,hc2,hx,hf⟩:=HS.out.get (i:=k) (by omega);simp only [Value.slice.injEq,hsl,true_and] at e';obtain ⟨rfl,rfl⟩:=e';obtain ⟨g3,cap3,e3,hb3,hd3,hgs3,hc3,hc4,hy,hfy⟩:=HR.out.get (i:=c+k) (by rw [z2p];omega);simp only [Value.slice.injEq,Option.some.injEq,Addr.mk.injEq,and_true] at e3;obtain ⟨rfl,_,rfl⟩:=e3;have hyv:=z2S l c sh (i:=c+k) k (fun j hj=>by omega);rw [hyv] at hy;have hbx:=hb (c+k) (by omega);have hbs:=HSB.out k (by omega);have HN:=Hd (HR.out.set (i:=c+k) (by rw [z2p];omega) (l.getD (c+k) 0+sh.getD k 0));have HN2:Hid (z1G l c sh (k+1)=(z1G l c sh k).set (c+k) (l.getD (c+k) 0+sh.getD k 0)):=rfl;rw [← HN2.out] at HN;generalize l.getD (c+k) 0=z at hy hbx HN;generalize sh.getD k 0=q at hx hbs HN;unfold maxLen at hc2 hc4;clear hyv HN2;go_wp2;go_roundw
    case rel=>exact ⟨k+1,by go_num,by omega,HN.out,HS.out.kept (fun j h0 h1 h2=>Below.heap_setCell _ _ _ _ (by show j ≠ g;omega)),HK.out.set (.inl rfl) _⟩
    case measure=>simp [intOf];omega
   ·obtain rfl:k=m:=by omega
    go_wp2
    go_end0
    exact ⟨rfl,by rw [HV.out];exact HR.out,HK.out⟩
end
section
open Go.RowKit
section
variable {P:Program} {ops:Array Oper} {C:World→Prop}
def z5U (ops:Array Oper) (z:Nat):Bool:=(List.range z).all fun i=>(List.range (z+1)).any fun j=>decide (i < j) && z4D ops j i
theorem z5B {z:Nat} {L:Nat→Bool} (hs:z5U ops z=true) (hc:z1z ops L) {o:Oper} (ho:ops[z]?=some o) (ha:∀ e ∈ o.after,Region.binds .any e=true→L e.on=true):∀ n i,z - i≤n→i < z→L i=true
 | 0,i,h,hi=>by omega
 | n+1,i,h,hi=>by
  have h1:=List.all_eq_true.1 hs i (List.mem_range.2 hi);obtain ⟨j,hj,h2⟩:=List.any_eq_true.1 h1;have hjz:=List.mem_range.1 hj;rw [Bool.and_eq_true] at h2;obtain ⟨h3,h4⟩:=h2;have h3:=of_decide_eq_true h3;by_cases e:j=z
  ·subst e;unfold z4D at h4;rw [ho] at h4;simp only [Option.map_some,Option.getD_some,List.any_eq_true,Bool.and_eq_true,beq_iff_eq] at h4;obtain ⟨e,he1,he2,he3⟩:=h4;have:=ha e (by simpa using he1) he2
   rwa [he3] at this
  ·have hLj:=z5B hs hc ho ha n j (by omega) (by omega)
   cases hLi:L i with
   | true=>rfl
   | false=>rw [hc j i h4 hLi] at hLj;cases hLj
theorem z4Q {listed:Array Bool} {j:Nat} (h:z1z ops (fun k=>listed.getD k false)) (hj:j ∈ Region.ready .any ops listed):z1z ops (fun k=>(listed.setIfInBounds j true).getD k false):=by
 obtain ⟨h0,o,ho,ha⟩:=mem_ready.1 hj
 have hlt:j < listed.size:=by
  rcases Nat.lt_or_ge j listed.size with h' | h'
  ·exact h'
  ·rw [Array.getD_eq_getD_getElem?,Array.getElem?_eq_none h'] at h0
   cases h0
 rw [z4B hlt];exact h.next ho ha
def z3K (P:Program) (ops:Array Oper) (C:World→Prop) (z:Nat) (R:Act→Prop):Nat→Array Bool→Act→Prop
 | 0,_,_=>False
 | fuel+1,listed,a=>Region.ready .any ops listed ≠ []∧∀ i ∈ Region.ready .any ops listed,if i=z then (fuel=0∧Region.ready .any ops (listed.setIfInBounds z true)=[]∧R a) else qOp P ops C i (z3K P ops C z R fuel (listed.setIfInBounds i true)) a
theorem z4R {Q:Exit→Act→World→Prop} {R:Act→Prop} {z:Nat} (hR:∀ a w,C w→R a→wpOp P ops Q z (fun a' w'=>Q .normal a' w') a w):∀ (fuel:Nat) (listed:Array Bool) (a:Act) (w:World),C w→z3K P ops C z R fuel listed a→wpAny P .any ops Q fuel listed a w
 | 0,_,_,_,_,h=>h.elim
 | fuel+1,listed,a,w,hw,h=>⟨fun h0=>absurd h0 h.1,fun i hi=>by
   have h2:=h.2 i hi;by_cases hz:i=z
   ·rw [if_pos hz] at h2;obtain ⟨h3,hr,hRa⟩:=h2;subst h3;subst hz;exact wpOp_mono (fun a' w' h'=>⟨hr,h'⟩) (hR a w hw hRa)
   ·rw [if_neg hz] at h2;exact wpOp_of_qOp hw (fun a' w' hw'=>z4R hR fuel _ a' w' hw') h2⟩
theorem z6B {R:Act→Prop} {z i:Nat} {oi:Oper} {v:Value} (hs:z5U ops z=true) (hi:ops[i]?=some oi) (hiz:i < z) (hsel:∀ (j:Nat) (o:Oper) cs b,ops[j]?=some o→o.op ≠ .select cs b) :
  ∀ (fuel:Nat) (listed:Array Bool) (a:Act),z1z ops (fun k=>listed.getD k false) →
   (∀ j oj,ops[j]?=some oj→j ≠ i→listed.getD j true=false→(∀ e ∈ oj.after,Region.binds .any e=true→e.on ≠ i)→oi.apart ops oj=true) →
   i ∈ Region.ready .any ops listed→YieldsIn P ops C oi v a →
   z3K P ops C z R fuel (listed.setIfInBounds i true) (a.put oi.dst v)→z3K P ops C z R (fuel+1) listed a:=by
 intro fuel
 induction fuel with
 | zero=>intro listed a _ _ _ _ H;exact H.elim
 | succ fuel ih =>
  intro listed a hcl hfree hr hy H;refine ⟨fun h=>(by rw [h] at hr;cases hr),fun j hj=>?_⟩;by_cases hji:j=i
  ·rw [if_neg (by omega)];subst hji;exact hy.qOp hi H
  ·have hjz:j ≠ z:=fun e=>by
    subst e;obtain ⟨_,o,ho,ha⟩:=mem_ready.1 hj;have h1:=z5B hs hcl ho ha _ i (Nat.le_refl _) hiz;have h0:=(mem_ready.1 hr).1
    rcases Nat.lt_or_ge i listed.size with h' | h'
    ·simp [h'] at h0 h1;rw [h0] at h1;cases h1
    ·simp [Array.getElem?_eq_none h'] at h1
   rw [if_neg hjz];have h1:=H.2 j (ready_mono hj hji);rw [if_neg hjz] at h1;obtain ⟨hjun,oj,hoj,hall⟩:=mem_ready.1 hj
   have hnot:∀ e ∈ oj.after,Region.binds .any e=true→e.on ≠ i:=fun e he hb heq=>by
    have h1:=hall e he hb;have h0:=(mem_ready.1 hr).1;rw [heq] at h1
    rcases Nat.lt_or_ge i listed.size with h' | h'
    ·simp [h'] at h0 h1;rw [h0] at h1;cases h1
    ·simp [Array.getElem?_eq_none h'] at h1
   have h2:=qOp_put hoj (hfree j oj hoj hji hjun hnot) (fun cs b=>hsel i oi cs b hi) (fun cs b=>hsel j oj cs b hoj) hy h1
   have hfree':∀ k ok,ops[k]?=some ok→k ≠ i→(listed.setIfInBounds j true).getD k true=false →
     (∀ e ∈ ok.after,Region.binds .any e=true→e.on ≠ i)→oi.apart ops ok=true:=fun k ok hk hki hun hno=>by
    refine hfree k ok hk hki ?_ hno;by_cases hjk:j=k
    ·subst hjk;exact hjun
    ·rw [getD_set_ne true hjk] at hun;exact hun
   refine qOp_mono (fun a' h3=>ih (listed.setIfInBounds j true) a' (z4Q hcl hj) hfree' (ready_mono hr (Ne.symm hji)) h3.1 ?_) h2;rw [Array.setIfInBounds_comm _ _ hji];exact h3.2
theorem z4S {R:Act→Prop} {z:Nat} (hns:Region.noSelect ops=true) (hs:z5U ops z=true):∀ (l:List Oper) (k:Nat) (listed:Array Bool) (a:Act),k+l.length=z→(∀ j,j < l.length→l[j]?=ops[k+j]?)→z1z ops (fun k=>listed.getD k false) →
  Region.lexFrom .any ops (l.length+1) k listed=true→wpQuiet P ops C R l a→z3K P ops C z R (l.length+1) listed a
 | [],k,listed,a,hk,_,_,hB,h=>by
  simp only [List.length_nil,Region.lexFrom,Bool.and_eq_true] at hB;obtain ⟨⟨hr,_⟩,he⟩:=hB;have hk':k=z:=(by simpa using hk);subst hk';have hr':k ∈ Region.ready .any ops listed:=(by simpa using hr);have he':Region.ready .any ops (listed.setIfInBounds k true)=[]:=(by simpa using he);refine ⟨fun h=>(by rw [h] at hr';cases hr'),fun i hi=>?_⟩;by_cases hik:i=k
  ·rw [if_pos hik];exact ⟨rfl,he',h⟩
  ·have:=ready_mono hi hik;rw [he'] at this
   cases this
 | o :: l,k,listed,a,hk,hl,hcl,hB,h=>by
  have h0:ops[k]?=some o:=(by simpa using (hl 0 (by simp)).symm);simp only [List.length_cons] at hk hB ⊢;rw [Region.lexFrom] at hB;simp only [Bool.and_eq_true] at hB;obtain ⟨⟨hr,hf⟩,hB'⟩:=hB;have hr':k ∈ Region.ready .any ops listed:=(by simpa using hr);have hst:qOp P ops C k (wpQuiet P ops C R l) a:=(by unfold qOp;simp only [h0];exact h);obtain ⟨v,hy,hK⟩:=yieldsIn_of_qOp h0 hst
  exact z6B hs h0 (by omega) (Region.noSelect_spec hns) (l.length+1) listed a hcl (Region.free_spec h0 hf) hr' hy
   (z4S hns hs l (k+1) _ _ (by omega) (fun j hj=>by have:=hl (j+1) (by simpa using hj);simpa [Nat.add_assoc,Nat.add_comm 1 j] using this) (z4Q hcl hr') hB' hK)
end
theorem z2i {P:Program} {id:Nat} {Q:Exit→Act→World→Prop} {a:Act} {w:World} {l:List Oper} (n:Nat) {o:Oper} (hm:P.follows .mixedOrders=true) (hl:l.length=n+1) (ho:l[n]?=some o) (hB:Region.lexB .any l.toArray=true) (hs:z5U l.toArray n=true)
  (h:wpQuiet P l.toArray (fun w'=>∃ p:BW w,w'=p.u) (fun a'=>∀ w',(∃ p:BW w,w'=p.u)→if Region.wanted o (yielded l.toArray a'.tmps)=true then o.wp P a' w' (fun a w=>Q .normal a w) Q else Q .normal (a'.put o.dst undef) w') (l.take n) a):(Code.region id l.toArray true).wp P Q a w:=by
 simp only [Region.lexB,Bool.and_eq_true] at hB;have hlt:(l.take n).length=n:=(by rw [List.length_take];omega);refine wp_region_any hm (z4R (C:=fun w'=>∃ p:BW w,w'=p.u) (z:=n) (R:=fun a'=>∀ w',(∃ p:BW w,w'=p.u)→if Region.wanted o (yielded l.toArray a'.tmps)=true then o.wp P a' w' (fun a w=>Q .normal a w) Q else Q .normal (a'.put o.dst undef) w') ?_ _ _ _ _ ⟨⟨_,z1N (Below.refl _ _)⟩,rfl⟩ ?_)
 ·intro a' w' hw' hR;have h1:=hR w' hw';unfold wpOp;rw [show l.toArray[n]?=some o by simpa using ho];dsimp only
  split
  ·rename_i hw;rw [if_pos hw] at h1;exact .inl h1
  ·rename_i hw;rw [if_neg hw] at h1;exact h1
 ·have:=z4S (P:=P) (C:=fun w'=>∃ p:BW w,w'=p.u) hB.1 hs (l.take n) 0 (Array.replicate l.toArray.size false) a (by omega) (fun j hj=>by rw [hlt] at hj;simp [hj]) (fun j i _ _=>by
   show (Array.replicate l.toArray.size false).getD j false=false;rw [Array.getD_eq_getD_getElem?,Array.getElem?_replicate]
   split <;> rfl) (by rw [hlt,← hl];simpa using hB.2) h
  rw [hlt,← hl] at this
  simpa using this
end
section
open Go.RowKit
theorem z7R (v:Value) (ps:List (Int × Int)) (q:Int) (w:World) {z:Nat} (h:zS w z v ps) :
  Calls Try.prog 57 #[v,.int .i64 q] w fun e w'=>e=.returned (.agg #[.int .i64 (sd ps q).1,.int .i64 (sd ps q).2])∧Below w.heap.size w w':=by
 obtain ⟨a,cap,rfl,hlen⟩:=At.form h;have HI:=Hd (zo q 0 ((ps.length:Int) - 1));unfold maxLen at hlen
 cases hin:inB q 0 ((ps.length:Int) - 1) with
 | false =>
  rw [hin] at HI;rw [z7C hin];clear hin h;go_enter Try.func57,Try.ntmps57;go_wp2_with fail
  refine (HI.out _).mono ?_;rintro e w1 ⟨rfl,rfl⟩;go_wp2;exact bodyPost_ret (v:=.agg #[.int .i64 0,.int .i64 0]) (by simp [results,Try.results57,go_sem]) rfl ⟨rfl,by repeat (first | exact Below.refl _ _ | apply zb)⟩
 | true =>
  rw [hin] at HI;have hk:0≤q∧q≤(ps.length:Int) - 1:=(by simpa [inB] using hin);clear hin;obtain ⟨k,rfl⟩:=Int.eq_ofNat_of_zero_le hk.1;have hkl:k < ps.length:=(by omega);rw [z8y hkl];obtain ⟨b,off,cap',e',hc1,hc2,hbl,hx0,hx1⟩:=At.get h hkl;simp only [Value.slice.injEq,true_and] at e';obtain ⟨rfl,rfl⟩:=e';unfold maxLen at hc2;generalize ps.getD k (0,0)=p at hx0 hx1 ⊢;clear h;go_enter Try.func57,Try.ntmps57;go_wp2_with fail
  refine (HI.out _).mono ?_;rintro e w1 ⟨rfl,rfl⟩;go_wp2;exact bodyPost_ret (v:=.agg #[.int .i64 p.1,.int .i64 p.2]) (by simp [results,Try.results57,go_sem]) rfl ⟨rfl,by repeat (first | exact Below.refl _ _ | apply zb)⟩
end
section
open Go.RowKit Go.Lib
theorem z6E:(Try.prog.info? 46).map (fun i=>(i.zero,i.size,i.bytes))=some (some (Value.agg #[.int .i64 0,.int .i64 0]),2,16):=by kernel_rfl
theorem z9v (a:Option Addr) (n cap:Nat) (news:List Value) (hl:news.length=n * 2) (hn:n≤1048576) (h1:∀ u ∈ news,u.oneCell'=true) (ha:n ≠ 0→a ≠ none) (w:World)
  (hc:∀ p,a=some p→∀ j u,news[j]?=some u→w.cell? (p.add j)=some u) :
  Calls Try.prog 75 #[.slice a n cap] w fun e w'=>∃ v',e=.returned v'∧w'.ownsRow w.heap.size 46 2 v' n news∧Below w.heap.size w w':=by
 rcases a with _ | p
 ·obtain rfl:n=0:=by
   rcases Nat.eq_zero_or_pos n with h | h
   ·exact h
   ·exact absurd rfl (ha (by omega))
  obtain rfl:news=[]:=List.length_eq_zero_iff.1 (by omega);have hq:∀ (w:World),(binOp .eql 23 (.slice none 0 cap) (.slice none 0 0)).run Try.prog w=.ok (.bool true) w:=fun w=>Lib.run_eql_slice_nil w _ _ none 0 cap 0 0 Try.underlying23;go_enter Try.func75,Try.ntmps75;go_wp2;go_ret;exact ⟨_,rfl,⟨rfl,.inl ⟨rfl,rfl⟩⟩,Below.refl _ _⟩
 ·obtain ⟨i0,hi0,hz0,hz1,hz2⟩:=info_parts z6E;have hq:∀ (w:World),(binOp .eql 23 (.slice (some p) n cap) (.slice none 0 0)).run Try.prog w=.ok (.bool false) w:=fun w=>Lib.run_eql_slice_nil w _ _ (some p) n cap 0 0 Try.underlying23;have HC:=Hd (hc p rfl);clear hc;go_enter Try.func75,Try.ntmps75;go_wp2_with (at_builtin;refine wpList_append_own _ rfl _ _ 23 rfl w.heap.size 46 i0 _ 2 16 Try.underlying23 hi0 hz0 hz1 hz2 rfl (by decide) _ _ _ rfl (World.ownsRow_made w #[] 0 (Nat.le_refl _) (Nat.zero_le _) (by simp)) p n cap news rfl hl ?qc2 h1 ?qc4 ?qc5 ?qc6 ?_)
  case qc2 =>
   intro j u hj;exact Lib.cell?_alloc_some _ (HC.out j u hj)
  case qc4=>rw [Nat.zero_add];unfold maxLen;omega
  case qc5=>rw [Nat.zero_add];omega
  case qc6=>simp
  intro v' w1 hown hgrow hnil;go_wp2;go_ret;exact ⟨v',rfl,by simpa using hown,((Below.refl _ w).alloc (Nat.le_refl _) _).grown hgrow (by simp) (by intro k hk;simp [Value.ownBlock] at hk;omega)⟩
theorem z4k:(Try.prog.info? 33).map (fun i=>(i.zero,i.size,i.bytes))=some (some (Value.agg #[.slice none 0 0,.bool false]),2,32):=by kernel_rfl
theorem z9w (a:Option Addr) (n cap:Nat) (news:List Value) (hl:news.length=n * 2) (hn:n≤1048576) (h1:∀ u ∈ news,u.oneCell'=true) (ha:n ≠ 0→a ≠ none) (w:World)
  (hc:∀ p,a=some p→∀ j u,news[j]?=some u→w.cell? (p.add j)=some u) :
  Calls Try.prog 76 #[.slice a n cap] w fun e w'=>∃ v',e=.returned v'∧w'.ownsRow w.heap.size 33 2 v' n news∧Below w.heap.size w w':=by
 rcases a with _ | p
 ·obtain rfl:n=0:=by
   rcases Nat.eq_zero_or_pos n with h | h
   ·exact h
   ·exact absurd rfl (ha (by omega))
  obtain rfl:news=[]:=List.length_eq_zero_iff.1 (by omega);have hq:∀ (w:World),(binOp .eql 24 (.slice none 0 cap) (.slice none 0 0)).run Try.prog w=.ok (.bool true) w:=fun w=>Lib.run_eql_slice_nil w _ _ none 0 cap 0 0 Try.underlying24;go_enter Try.func76,Try.ntmps76;go_wp2;go_ret;exact ⟨_,rfl,⟨rfl,.inl ⟨rfl,rfl⟩⟩,Below.refl _ _⟩
 ·obtain ⟨i0,hi0,hz0,hz1,hz2⟩:=info_parts z4k;have hq:∀ (w:World),(binOp .eql 24 (.slice (some p) n cap) (.slice none 0 0)).run Try.prog w=.ok (.bool false) w:=fun w=>Lib.run_eql_slice_nil w _ _ (some p) n cap 0 0 Try.underlying24;have HC:=Hd (hc p rfl);clear hc;go_enter Try.func76,Try.ntmps76;go_wp2_with (at_builtin;refine wpList_append_own _ rfl _ _ 24 rfl w.heap.size 33 i0 _ 2 32 Try.underlying24 hi0 hz0 hz1 hz2 rfl (by decide) _ _ _ rfl (World.ownsRow_made w #[] 0 (Nat.le_refl _) (Nat.zero_le _) (by simp)) p n cap news rfl hl ?qc2 h1 ?qc4 ?qc5 ?qc6 ?_)
  case qc2 =>
   intro j u hj;exact Lib.cell?_alloc_some _ (HC.out j u hj)
  case qc4=>rw [Nat.zero_add];unfold maxLen;omega
  case qc5=>rw [Nat.zero_add];omega
  case qc6=>simp
  intro v' w1 hown hgrow hnil;go_wp2;go_ret;exact ⟨v',rfl,by simpa using hown,((Below.refl _ w).alloc (Nat.le_refl _) _).grown hgrow (by simp) (by intro k hk;simp [Value.ownBlock] at hk;omega)⟩
theorem z3P:(Try.prog.info? 35).map (fun i=>(i.zero,i.size,i.bytes))=some (some (Value.agg #[.string ⟨#[]⟩,.int .i64 0,.int .i64 0,.int .i64 0,.int .i64 0,.int .i64 0,.int .i64 0,.int .i64 0,.int .i64 0,.int .i64 0,.int .i64 0]),11,96):=by kernel_rfl
theorem z8O (a:Option Addr) (n cap:Nat) (news:List Value) (hl:news.length=n * 11) (hn:n≤1048576) (h1:∀ u ∈ news,u.oneCell'=true) (ha:n ≠ 0→a ≠ none) (w:World)
  (hc:∀ p,a=some p→∀ j u,news[j]?=some u→w.cell? (p.add j)=some u) :
  Calls Try.prog 77 #[.slice a n cap] w fun e w'=>∃ v',e=.returned v'∧w'.ownsRow w.heap.size 35 11 v' n news∧Below w.heap.size w w':=by
 rcases a with _ | p
 ·obtain rfl:n=0:=by
   rcases Nat.eq_zero_or_pos n with h | h
   ·exact h
   ·exact absurd rfl (ha (by omega))
  obtain rfl:news=[]:=List.length_eq_zero_iff.1 (by omega);have hq:∀ (w:World),(binOp .eql 31 (.slice none 0 cap) (.slice none 0 0)).run Try.prog w=.ok (.bool true) w:=fun w=>Lib.run_eql_slice_nil w _ _ none 0 cap 0 0 Try.underlying31;go_enter Try.func77,Try.ntmps77;go_wp2;go_ret;exact ⟨_,rfl,⟨rfl,.inl ⟨rfl,rfl⟩⟩,Below.refl _ _⟩
 ·obtain ⟨i0,hi0,hz0,hz1,hz2⟩:=info_parts z3P;have hq:∀ (w:World),(binOp .eql 31 (.slice (some p) n cap) (.slice none 0 0)).run Try.prog w=.ok (.bool false) w:=fun w=>Lib.run_eql_slice_nil w _ _ (some p) n cap 0 0 Try.underlying31;have HC:=Hd (hc p rfl);clear hc;go_enter Try.func77,Try.ntmps77;go_wp2_with (at_builtin;refine wpList_append_own _ rfl _ _ 31 rfl w.heap.size 35 i0 _ 11 96 Try.underlying31 hi0 hz0 hz1 hz2 rfl (by decide) _ _ _ rfl (World.ownsRow_made w #[] 0 (Nat.le_refl _) (Nat.zero_le _) (by simp)) p n cap news rfl hl ?qc2 h1 ?qc4 ?qc5 ?qc6 ?_)
  case qc2 =>
   intro j u hj;exact Lib.cell?_alloc_some _ (HC.out j u hj)
  case qc4=>rw [Nat.zero_add];unfold maxLen;omega
  case qc5=>rw [Nat.zero_add];omega
  case qc6=>simp
  intro v' w1 hown hgrow hnil;go_wp2;go_ret;exact ⟨v',rfl,by simpa using hown,((Below.refl _ w).alloc (Nat.le_refl _) _).grown hgrow (by simp) (by intro k hk;simp [Value.ownBlock] at hk;omega)⟩
end
section
open Go.RowKit
theorem z2s {α:Type} (f:α→List Value) (sz:Nat) (hf:∀ x,(f x).length=sz) (hz:0 < sz) (l:List α) {w:World} {a:Option Addr} (h:∀ i,(hi:i < l.length)→∃ b off,a=some ⟨b,off,none⟩∧∀ m,m < sz→w.cell? ⟨b,off+i * sz+m,none⟩=(f l[i])[m]?) :
  ∀ p,a=some p→∀ j u,(l.flatMap f)[j]?=some u→w.cell? (p.add j)=some u:=by
 intro p hp j u hj;have hl:j < l.length * sz:=(by rw [← z0y f sz hf];exact (List.getElem?_eq_some_iff.1 hj).1);have h1:j / sz < l.length:=(Nat.div_lt_iff_lt_mul hz).2 hl;have h2:j % sz < sz:=Nat.mod_lt _ hz;have e:j=j / sz * sz+j % sz:=(by rw [Nat.mul_comm];exact (Nat.div_add_mod j sz).symm);obtain ⟨b,off,ha,hc⟩:=h (j / sz) h1;have hpe:p=⟨b,off,none⟩:=Option.some.inj (hp.symm.trans ha);subst hpe;have hb:=z0p f sz hf l (j / sz) h1 (j % sz) h2;rw [← e,hj] at hb;have hd:(⟨b,off,none⟩:Addr).add j=⟨b,off+j,none⟩:=(by simp [Addr.add]);rw [hd,show off+j=off+j / sz * sz+j % sz by omega,hc (j % sz) h2,← hb]
theorem z6F (ps:List (Int × Int)):∀ u ∈ ps.flatMap z0P,u.oneCell'=true:=by
 intro u hu;obtain ⟨p,_,hp⟩:=List.mem_flatMap.1 hu;simp only [z0P,List.mem_cons,List.not_mem_nil,or_false] at hp
 rcases hp with rfl | rfl <;> rfl
theorem z5D (cs:List C):∀ u ∈ cs.flatMap zG,u.oneCell'=true:=by
 intro u hu;obtain ⟨p,_,hp⟩:=List.mem_flatMap.1 hu;simp only [zG,List.mem_cons,List.not_mem_nil,or_false] at hp
 rcases hp with rfl | rfl | rfl | rfl | rfl | rfl | rfl | rfl | rfl | rfl | rfl <;> rfl
theorem z38 {w:World} {z n sz:Nat} {a:Option Addr} {cap:Nat} {E:Nat→Nat→Nat→Prop} (h:At w z (.slice a n cap) n sz E):n ≠ 0→a ≠ none:=by
 intro h0 e;obtain ⟨a',cap',hv,_,_,h3⟩:=h;obtain ⟨b,off,ha,_⟩:=h3 0 (by omega);simp only [Value.slice.injEq,true_and] at hv;rw [hv.1,ha] at e
 cases e
theorem z7S (a:Option Addr) (cap:Nat) (ps:List (Int × Int)) (hn:ps.length≤1048576) (w:World) {z:Nat} (h:zS w z (.slice a ps.length cap) ps) :
  Calls Try.prog 75 #[.slice a ps.length cap] w fun e w'=>∃ a' c',e=.returned (.slice a' ps.length c')∧zw w' w.heap.size (.slice a' ps.length c') ps∧Below w.heap.size w w':=by
 refine (z9v a ps.length cap (ps.flatMap z0P) (z0y z0P 2 (fun _=>rfl) ps) hn (z6F ps) (z38 h) w (z2s z0P 2 (fun _=>rfl) (by decide) ps (fun i hi=>?_))).mono ?_
 ·obtain ⟨b,off,cap',e',_,_,_,h1,h2⟩:=At.get h hi;simp only [Value.slice.injEq,true_and] at e';refine ⟨b,off,e'.1,fun m hm=>?_⟩;rw [zx (0,0) hi] at h1 h2
  match m,hm with
  | 0,_=>exact h1
  | 1,_=>exact h2
 ·rintro e w' ⟨v',rfl,ho,hb⟩;obtain ⟨a',c',rfl,_⟩:=zI ho;exact ⟨a',c',rfl,ho,hb⟩
theorem z70 (a:Option Addr) (cap:Nat) (cs:List C) (hn:cs.length≤1048576) (w:World) {z:Nat} (h:z0t w z (.slice a cs.length cap) cs) :
  Calls Try.prog 77 #[.slice a cs.length cap] w fun e w'=>∃ a' c',e=.returned (.slice a' cs.length c')∧zL w' w.heap.size (.slice a' cs.length c') cs∧Below w.heap.size w w':=by
 refine (z8O a cs.length cap (cs.flatMap zG) (z0y zG 11 (fun _=>rfl) cs) hn (z5D cs) (z38 h) w (z2s zG 11 (fun _=>rfl) (by decide) cs (fun i hi=>?_))).mono ?_
 ·obtain ⟨b,off,cap',e',_,_,_,hx,_⟩:=At.get h hi;simp only [Value.slice.injEq,true_and] at e';refine ⟨b,off,e'.1,fun m hm=>?_⟩;rw [zx dC hi] at hx;obtain ⟨h0,h1,h2,h3,h4,h5,h6,h7,h8,h9,h10⟩:=hx
  match m,hm with
  | 0,_=>exact h0
  | 1,_=>exact h1
  | 2,_=>exact h2
  | 3,_=>exact h3
  | 4,_=>exact h4
  | 5,_=>exact h5
  | 6,_=>exact h6
  | 7,_=>exact h7
  | 8,_=>exact h8
  | 9,_=>exact h9
  | 10,_=>exact h10
 ·rintro e w' ⟨v',rfl,ho,hb⟩;obtain ⟨a',c',rfl,_⟩:=zI ho;exact ⟨a',c',rfl,ho,hb⟩
theorem z8P {w:World} {z:Nat} {a:Option Addr} {cap:Nat} {rs:List R} (h:zC w z (.slice a rs.length cap) rs):∃ us:List Value,us.length=rs.length∧∀ i,(hi:i < rs.length)→∃ b off u,a=some ⟨b,off,none⟩∧us[i]?=some u∧w.cell? ⟨b,off+i * 2,none⟩=some u∧w.cell? ⟨b,off+i * 2+1,none⟩=some (.bool rs[i].whole)∧(∃ au cu,u=.slice au rs[i].cells.length cu):=by
 suffices H:∀ k,k≤rs.length→∃ us:List Value,us.length=k∧∀ i,i < k→∀ hi:i < rs.length,∃ b off u,a=some ⟨b,off,none⟩∧us[i]?=some u∧w.cell? ⟨b,off+i * 2,none⟩=some u∧w.cell? ⟨b,off+i * 2+1,none⟩=some (.bool rs[i].whole)∧(∃ au cu,u=.slice au rs[i].cells.length cu) by
  obtain ⟨us,h1,h2⟩:=H rs.length (Nat.le_refl _);exact ⟨us,h1,fun i hi=>h2 i hi hi⟩
 intro k
 induction k with
 | zero=>intro _;exact ⟨[],rfl,fun i hi=>absurd hi (Nat.not_lt_zero _)⟩
 | succ k ih =>
  intro hk;obtain ⟨us,h1,h2⟩:=ih (by omega);obtain ⟨b,off,cap',e',_,_,_,u,hx0,hx1,hx⟩:=At.get h (i:=k) (by omega);simp only [Value.slice.injEq,true_and] at e';rw [zx dR (by omega:k < rs.length)] at hx1 hx;obtain ⟨au,cu,rfl,_⟩:=At.form hx;refine ⟨us ++ [.slice au rs[k].cells.length cu],by simp [h1],fun i hi hir=>?_⟩
  rcases Nat.lt_or_eq_of_le (Nat.lt_succ_iff.1 hi) with hl | rfl
  ·obtain ⟨b',off',u',p1,p2,p3,p4,p5⟩:=h2 i hl hir;exact ⟨b',off',u',p1,by rw [List.getElem?_append_left (by omega)];exact p2,p3,p4,p5⟩
  ·exact ⟨b,off,_,e'.1,by rw [List.getElem?_append_right (by omega),h1];simp,hx0,hx1,⟨au,cu,rfl⟩⟩
def z3p (us:List Value) (rs:List R):List Value:=(us.zip rs).flatMap zt
theorem z7T (a:Option Addr) (cap:Nat) (rs:List R) (hn:rs.length≤1048576) (w:World) {z:Nat} (h:zC w z (.slice a rs.length cap) rs) :
  Calls Try.prog 76 #[.slice a rs.length cap] w fun e w'=>∃ us a' c',us.length=rs.length∧e=.returned (.slice a' rs.length c')∧w'.ownsRow w.heap.size 33 2 (.slice a' rs.length c') rs.length (z3p us rs)∧Below w.heap.size w w':=by
 obtain ⟨us,hu,hg⟩:=z8P h;have hz:(us.zip rs).length=rs.length:=(by rw [List.length_zip,hu,Nat.min_self]);have hl:(z3p us rs).length=rs.length * 2:=(by rw [z3p,z0y zt 2 (fun _=>rfl),hz])
 have hone:∀ u ∈ z3p us rs,u.oneCell'=true:=by
  intro u hm;obtain ⟨p,hp,hq⟩:=List.mem_flatMap.1 hm;obtain ⟨i,hi,rfl⟩:=List.mem_iff_getElem.1 hp;rw [hz] at hi;obtain ⟨b,off,u',_,p2,_,_,au,cu,rfl⟩:=hg i hi;have e:us[i]'(by omega)=.slice au rs[i].cells.length cu:=(by rw [List.getElem?_eq_getElem (by omega)] at p2;exact Option.some.inj p2);rw [List.getElem_zip,zt,e] at hq;simp only [List.mem_cons,List.not_mem_nil,or_false] at hq
  rcases hq with rfl | rfl <;> rfl
 refine (z9w a rs.length cap (z3p us rs) hl hn hone (z38 h) w (z2s zt 2 (fun _=>rfl) (by decide) (us.zip rs) (fun i hi=>?_))).mono ?_
 ·rw [hz] at hi;obtain ⟨b,off,u',p1,p2,p3,p4,_⟩:=hg i hi;have e:us[i]'(by omega)=u':=(by rw [List.getElem?_eq_getElem (by omega)] at p2;exact Option.some.inj p2);refine ⟨b,off,p1,fun m hm=>?_⟩;rw [List.getElem_zip,e]
  match m,hm with
  | 0,_=>exact p3
  | 1,_=>exact p4
 ·rintro e w' ⟨v',rfl,ho,hb⟩;obtain ⟨a',c',rfl,_⟩:=zI ho;exact ⟨us,a',c',hu,rfl,ho,hb⟩
theorem z4U {P:Program} {w:World} (base:Nat) (t ty e:TypeId) (i:TypeInfo) (size c:Nat) (ht:P.underlying t=some (.slice e)) (hi:P.info? e=some i)
  (v:Value) (n:Nat) (xs:List Value) (hown:w.ownsRow base e size v n xs):(Builtin.append_ #[t,t] ty #[v,.slice none 0 c]).run P w=.ok v w:=by
 rcases hown.2 with ⟨rfl,rfl⟩ | ⟨g,cap,cur,rfl,_,_,hnc,_⟩
 ·simp [Builtin.append_,run_underlying ht,sizeOf,typeInfo,hi,Builtin.lenOf,Builtin.firstCells]
 ·simp [Builtin.append_,run_underlying ht,sizeOf,typeInfo,hi,Builtin.lenOf,Builtin.firstCells,hnc,storeCells]
theorem z3v {P:Program} (w:World) {o:Oper} {a:Act} {K:Act→World→Prop} {Q:Exit→Act→World→Prop} (s x:Operand) (t:TypeId)
  (ho:o.op=.call { callee:=.builtin .append,args:=#[s,x],argTypes:=#[t,t] })
  (base:Nat) (e:TypeId) (i:TypeInfo) (z:Value) (size bytes:Nat) (ht:P.underlying t=some (.slice e)) (hi:P.info? e=some i) (hz:i.zero=some z)
  (hsize:i.size=size) (hby:i.bytes=bytes) (hzs:z.cells.size=size) (hsz:0 < size)
  (v:Value) (n:Nat) (xs:List Value) (hs:a.eval s=v) (hown:w.ownsRow base e size v n xs)
  (ad:Option Addr) (m c:Nat) (news:List Value) (hx:a.eval x=.slice ad m c) (hm:m ≠ 0→ad ≠ none) (hl:news.length=m * size) (hnews:∀ p,ad=some p→∀ j u,news[j]?=some u→w.cell? (p.add j)=some u) (h1:∀ u ∈ news,u.oneCell'=true)
  (h63:n+m≤maxLen) (hbytes:(n+m) * bytes≤140737488355328) (hbase:base≤w.heap.size)
  (h:∀ v' w',w'.ownsRow base e size v' (n+m) (xs ++ news)→w.grownBy w' v.ownBlock→K (a.put o.dst v') w'):o.wp P a w K Q:=by
 rcases ad with _ | p
 ·obtain rfl:m=0:=by
   rcases Nat.eq_zero_or_pos m with h0 | h0
   ·exact h0
   ·exact absurd rfl (hm (by omega))
  obtain rfl:news=[]:=List.length_eq_zero_iff.1 (by omega);have hr:=z4U (P:=P) (w:=w) base t o.type e i size c ht hi v n xs hown;unfold Oper.wp execOp;simp only [ho,resolve,invoke,builtin,Sem.run_bind,Sem.run_pure,Result.andThen_ok,List.map_toArray,List.map_cons,List.map_nil,hs,hx,hr];exact h v w (by simpa using hown) ⟨rfl,rfl,rfl,Nat.le_refl _,fun _ _ _=>rfl⟩
 ·exact wp_append_own w s x t ho base e i z size bytes ht hi hz hsize hby hzs hsz v n xs hs hown p m c news hx hl (hnews p rfl) h1 h63 hbytes hbase (fun v' w' h1 h2 _=>h v' w' h1 h2)
theorem zr.push {w w':World} {B:Nat} {U v':Value} {ur:List (Value × R)} (h:zr w B U ur) (k:w.grownBy w' U.ownBlock) {u:Value} {r:R} (hO:w'.ownsRow B 33 2 v' (ur.length+1) (ur.flatMap zt ++ zt (u,r))) (hu:zL w B u r.cells) (ha:∀ p ∈ ur,p.1.ownBlock=none∨p.1.ownBlock ≠ u.ownBlock):zr w' B v' (ur ++ [(u,r)]):=by
 have hnn:∀ u:Value,u.ownBlock=none∨u.ownBlock ≠ none:=fun u=>by rcases hb:u.ownBlock with _ | b;exact .inl rfl;exact .inr (by simp)
 have K1:Off 0 none U.ownBlock w w':=Off.grown k;refine ⟨by simpa [List.flatMap_append] using hO,fun p hp=>?_,?_⟩
 ·rcases List.mem_append.1 hp with hp | hp
  ·exact zJ (h.cells p hp) K1 (Nat.zero_le _) (hnn _) (z0L (h.cells p hp) h.own (by decide))
  ·rw [List.mem_singleton] at hp;subst hp;exact zJ hu K1 (Nat.zero_le _) (hnn _) (z0L hu h.own (by decide))
 ·rw [List.pairwise_append];refine ⟨h.apart,List.pairwise_singleton _ _,fun p hp q hq=>?_⟩;rw [List.mem_singleton] at hq;subst hq;exact ha p hp
theorem zr.kept {w w':World} {B:Nat} {U:Value} {ur:List (Value × R)} (h:zr w B U ur) (k:Below w.heap.size w w'):zr w' B U ur:=h.since (.of_below k)
theorem z8Q {w:World} {z:Nat} {a:Option Addr} {cap:Nat} {ps:List (Int × Int)} (h:zS w z (.slice a ps.length cap) ps):∀ p,a=some p→∀ j u,(ps.flatMap z0P)[j]?=some u→w.cell? (p.add j)=some u:=by
 refine z2s z0P 2 (fun _=>rfl) (by decide) ps (fun i hi=>?_);obtain ⟨b,off,cap',e',_,_,_,h1,h2⟩:=At.get h hi;simp only [Value.slice.injEq,true_and] at e';refine ⟨b,off,e'.1,fun m hm=>?_⟩;rw [zx (0,0) hi] at h1 h2
 match m,hm with
 | 0,_=>exact h1
 | 1,_=>exact h2
theorem z7U {w:World} {z:Nat} {a:Option Addr} {cap:Nat} {cs:List C} (h:z0t w z (.slice a cs.length cap) cs):∀ p,a=some p→∀ j u,(cs.flatMap zG)[j]?=some u→w.cell? (p.add j)=some u:=by
 refine z2s zG 11 (fun _=>rfl) (by decide) cs (fun i hi=>?_);obtain ⟨b,off,cap',e',_,_,_,hx,_⟩:=At.get h hi;simp only [Value.slice.injEq,true_and] at e';refine ⟨b,off,e'.1,fun m hm=>?_⟩;rw [zx dC hi] at hx;obtain ⟨h0,h1,h2,h3,h4,h5,h6,h7,h8,h9,h10⟩:=hx
 match m,hm with
 | 0,_=>exact h0
 | 1,_=>exact h1
 | 2,_=>exact h2
 | 3,_=>exact h3
 | 4,_=>exact h4
 | 5,_=>exact h5
 | 6,_=>exact h6
 | 7,_=>exact h7
 | 8,_=>exact h8
 | 9,_=>exact h9
 | 10,_=>exact h10
theorem z2X {w:World} {base:Nat} {e:TypeId} {sz:Nat} {v:Value} {m:Nat} {xs:List Value} (h:w.ownsRow base e sz v m xs) (o:Obj):(w.alloc o).ownsRow base e sz v m xs:=z0I h (.of_below (zb (Below.refl _ _) o))
theorem z47 {w w':World} {base:Nat} {e e':TypeId} {sz:Nat} {v:Value} {m:Nat} {xs:List Value} (h:w.ownsRow base e sz v m xs) (k:w.grownBy w' v.ownBlock) {g:Nat} {cur:Array Value} (hg:w.heap[g]?=some (.cells cur e')) (he:e ≠ e'):w'.heap[g]?=some (.cells cur e'):=by
 refine (k.block g (bL hg) (fun e1=>?_)).trans hg
 rcases zf h hg he with h4 | h4
 ·rw [h4] at e1;cases e1
 ·exact h4 e1.symm
end
end Go.Proofs.Ytggmjiddadjilam
