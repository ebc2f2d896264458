/-
  PROVED HERE: what the model's l5Said answers at a table that lies in memory; nothing that was in memory is turned. Also: 13 more texts of the same proof.
-/
import Derived.Test.YtggmjiddadjilahGreatJ21
set_option maxRecDepth 1000000
set_option maxHeartbeats 40000000
open Go.Proofs.Tryz
namespace Go.Proofs.YtggmjiddadjilahGreat
open Value (int)
open IntKind (i64)
section
open Go.RowKit
theorem z5d (ac ar:Option Addr) (cc cr:Nat) (t:T) (q:Int) (hq:0<=q) (w:World) {z:Nat} (hc:z09 w z (.slice ac t.cols.length cc) t.cols) :
  Calls prog 119 #[.agg #[.slice ac t.cols.length cc,int i64 t.head,int i64 t.foot,.slice ar t.rows.length cr,int i64 t.gap],int i64 q] w λe w'=>e=.returned (.agg #[int i64 (sd t.cols q).1,int i64 (sd t.cols q).2])/\Below w.heap.size w w':=by
 obtain ⟨_,_,_,hlen⟩:=At.form hc;unfold maxLen at hlen;obtain ⟨k,rfl⟩:=Int.eq_ofNat_of_zero_le hq;by_cases hkl:k < t.cols.length
 ·rw [z8p hkl];have hlt:(k:Int) < (t.cols.length:Int):=(by omega);obtain ⟨b,off,cap',e',hc1,hc2,hbl,hx0,hx1⟩:=At.get hc hkl;simp only [Value.slice.injEq,true_and] at e';obtain ⟨rfl,rfl⟩:=e';unfold maxLen at hc2;generalize t.cols.getD k (0,0)=p at hx0 hx1 |-;clear hc;go_enter func119,ntmps119;go_wp2;exact bodyPost_ret (v:=.agg #[int i64 p.1,int i64 p.2]) (by simp [results,results119,go_sem]) rfl ⟨rfl,by repeat (first | exact bR | apply ze)⟩
 ·rw [zaa (z33 (by omega))];have hlt:¬ (k:Int) < (t.cols.length:Int):=(by omega);clear hc;go_enter func119,ntmps119;go_wp2;exact bodyPost_ret (v:=.agg #[int i64 0,int i64 0]) (by simp [results,results119,go_sem]) rfl ⟨rfl,by repeat (first | exact bR | apply ze)⟩
def hsB (hs:List Int):Bool:=hs.all (λh=>zM h 0 100)
def z27 (t:T) (width:Int) (hs:List Int):Bool:=(zF t && zM width 0 300) && (zM hs.length 1 60 && hsB hs)
theorem zhp {hs:List Int} {k:Nat} (hk:k < hs.length) (h:zM (hs.getD k 0) 0 100=false):hsB hs=false:=by
 rw [hsB,List.all_eq_false];refine ⟨hs[k],List.getElem_mem hk,?_⟩;have e:hs.getD k 0=hs[k]:=(by simp [List.getD,hk]);rw [e] at h;simp [h]
theorem zeL {hs:List Int} (h:∀ i,i < hs.length->zM (hs.getD i 0) 0 100=true):hsB hs=true:=by
 rw [hsB,List.all_eq_true];intro x hx;obtain ⟨i,hi,rfl⟩:=List.mem_iff_getElem.1 hx;have:=h i hi
 simpa [List.getD,hi] using this
theorem zeM {hs:List Int} {k:Nat} (h:∀ i,i < k->zM (hs.getD i 0) 0 100=true) (hk:zM (hs.getD k 0) 0 100=true):∀ i,i < k+1->zM (hs.getD i 0) 0 100=true:=λi hi=>by
 rcases Nat.lt_or_eq_of_le (Nat.lt_succ_iff.1 hi) with h1 | rfl
 ·exact h i h1
 ·exact hk
theorem zhq (ac ar:Option Addr) (cc cr:Nat) (t:T) (width:Int) (vh:Value) (hs:List Int) (w:World) {z:Nat} (hc:z09 w z (.slice ac t.cols.length cc) t.cols) (hr:z05 w z (.slice ar t.rows.length cr) t.rows) (hh:zA w vh hs) :
  Calls prog 38 #[.agg #[.slice ac t.cols.length cc,int i64 t.head,int i64 t.foot,.slice ar t.rows.length cr,int i64 t.gap],int i64 width,vh] w λe w'=>e=.returned (.bool (z27 t width hs))/\Below w.heap.size w w':=by
 obtain ⟨ah,ch,rfl,hlen⟩:=hh.form;have K0:=ze (Below.refl w.heap.size w) (.cells #[.slice ac t.cols.length cc,int i64 t.head,int i64 t.foot,.slice ar t.rows.length cr,int i64 t.gap] 26);have KM:=O (z4D ac ar cc cr t width _ (hc.kept K0) (hr.kept K0));have HK0:=O K0;have HI:=O (zW (hs.length:Int) 1 60);have HH:=O hh;have HV:Hid (z27 t width hs=((zF t && zM width 0 300) && (zM hs.length 1 60 && hsB hs))):=rfl;clear hc hr K0 hh;generalize (zF t && zM width 0 300)=m at KM HV
 cases m with
 | false =>
  rw [HV.out];go_enter func38,ntmps38;go_wp2_with fail
  refine KM.out.mono ?_;rintro e w1 ⟨rfl,hb1⟩;have HK1:=O (zi HK0.out hb1);clear hb1 KM HK0 HV;go_wp2;go_ret;exact ⟨rfl,HK1.out⟩
 | true =>
  generalize zM (hs.length:Int) 1 60=n at HI HV
  cases n with
  | false =>
   rw [HV.out];go_enter func38,ntmps38;go_wp2_with fail
   refine KM.out.mono ?_;rintro e w1 ⟨rfl,hb1⟩;have HK1:=O (zi HK0.out hb1);clear hb1 KM HK0 HV;go_wp2_with fail
   refine (HI.out _).mono ?_;rintro e w2 ⟨rfl,rfl⟩;go_wp2;go_ret;exact ⟨rfl,HK1.out⟩
  | true =>
   have HW:Hid (z27 t width hs=hsB hs):=(by rw [Hid,HV.out];rfl);clear HV;go_enter func38,ntmps38;go_wp2_with fail
   refine KM.out.mono ?_;rintro e w1 ⟨rfl,hb1⟩;have HK1:=O (zi HK0.out hb1);clear hb1 KM HK0;go_wp2_with fail
   refine (HI.out _).mono ?_;rintro e w2 ⟨rfl,rfl⟩;clear HI;have H2:=O (HH.out.kept HK1.out);go_wp2_with fail
   go_loop [21] (λi=>∃ k:Nat,k<=hs.length/\i=int i64 k/\Hid (∀ i,i < k->zM (hs.getD i 0) 0 100=true)) (λi=>hs.length - (intOf i).toNat)
   case atStart=>exact ⟨0,nZ,rfl,λi hi=>absurd hi (Nat.not_lt_zero _)⟩
   case round =>
    obtain ⟨k,hk,rfl,HA⟩:=hrel;by_cases hlt:k < hs.length
    ·obtain ⟨b,off,cap',e',hc1,hc2,hbl,hx⟩:=H2.out.get hlt;simp only [Value.slice.injEq,true_and] at e';obtain ⟨rfl,rfl⟩:=e';unfold maxLen at hc2;have HN:=O (λh=>zhp hlt h);have HY:=O (λh=>zeM HA.out h);generalize hs.getD k 0=x at hx HN HY;have HX:=O (zW x 0 100);go_wp2_with fail
     refine (HX.out _).mono ?_
     cases hin:zM x 0 100 with
     | false =>
      have HF:=O (HN.out hin);rintro e w3 ⟨rfl,rfl⟩;clear hin;go_wp2;go_ret;exact ⟨by rw [HW.out,HF.out];rfl,HK1.out⟩
     | true =>
      have HF:=O (HY.out hin);rintro e w3 ⟨rfl,rfl⟩;clear hin;go_wp2
      go_round
      case rel=>exact ⟨k+1,by omega,by go_num,HF⟩
      case measure=>simp [intOf];omega
    ·obtain rfl:k=hs.length:=by omega
     have HF:=O (zeL HA.out);go_wp2;go_ret;exact ⟨by rw [HW.out,HF.out];rfl,HK1.out⟩
theorem z8D (w:World) (B:Nat) (hB:B<=w.heap.size):zx (w.alloc (.cells #[] 45)) B (.slice (some ⟨w.heap.size,0,none⟩) 0 0) [] :=
 ⟨rfl,.inr ⟨w.heap.size,0,#[],rfl,hB,zj _ _,lR,nZ,rfl,rfl⟩⟩
theorem z4x (hs:List Int) (a n:Nat) (hn:a+n<=hs.length) (hl:hs.length<=1000) (x y:Int) (hx:x=a) (hy:y=(a:Int)+n) (v:Value) (w:World) (h:zA w v hs) :
  Calls prog 34 #[v,int i64 x,int i64 y] w λe w'=>∃ u,e=.returned u/\zx w' w.heap.size u (zT hs a n)/\Below w.heap.size w w':=by
 obtain ⟨i0,hi0,hz0,hz1,hz2⟩:=info_parts z7Z;obtain ⟨av,cv,rfl,_⟩:=h.form;subst hx hy;have H:=O h;have K0:=O (ze (Below.refl w.heap.size w) (.cells #[] 45));have X0:=O (z8D w w.heap.size lR);clear h;go_enter func34,ntmps34;go_wp2_with fail
 go_loopw [7,8] (λo i W=>∃ k:Nat,k<=n/\i=int i64 ((a:Int)+(k:Int))/\Hid (zx W w.heap.size o (zT hs a k))/\Hid (Below w.heap.size w W)) (λ_ i _=>a+n - (intOf i).toNat)
 case atStart=>exact ⟨0,nZ,by simp,X0,K0⟩
 case round =>
  clear X0 K0;obtain ⟨k,hk,rfl,HO,HB⟩:=hrel;obtain ⟨ao,co,rfl⟩:=HO.out.form;rw [z1b] at HO |-;by_cases hlt:k < n
  case neg =>
   obtain rfl:k=n:=by omega
   go_wp2;go_ret;exact ⟨_,rfl,HO.out,HB.out⟩
  obtain ⟨b,off,cap',e',hc1,hc2,hbl,hx⟩:=(H.out.kept HB.out).get (i:=a+k) (by omega);simp only [Value.slice.injEq,true_and] at e';obtain ⟨rfl,rfl⟩:=e';unfold maxLen at hc2;have HE:=O (z6S hs k a);have hlw:=z1b hs k a;have hO:=HO.out;unfold zx at hO;rw [hlw] at hO;have hsz:=HB.out.size;generalize hs.getD (a+k) 0=y at hx HE;generalize zT hs a k=ps at HO HE hlw hO;go_wp2_with (at_builtin;refine wpList_append_own _ rfl _ _ 41 rfl w.heap.size 45 i0 _ 3 24 underlying41 hi0 hz0 hz1 hz2 rfl (by decide) _ _ _ rfl (hO.alloc _) ⟨wr.heap.size,0,none⟩ 1 1 (z0y ⟨(a:Int)+(k:Int),0,y⟩) rfl rfl ?c1 ?c2 ?c3 ?c4 ?c5 ?_)
  case c1=>exact z0K (zj wr _)
  case c2=>simp [z0y,Value.oneCell']
  case c3=>unfold maxLen;omega
  case c4=>omega
  case c5=>simp;omega
  intro v' w2 hown' hgrow' _;have HB2:=O ((ze HB.out (.cells #[int i64 ((a:Int)+(k:Int)),int i64 0,int i64 y] 45)).grown hgrow' (by simp;omega) (λb hb=>(hO.lt b hb).1))
  have HO2:Hid (zx w2 w.heap.size v' (zT hs a (k+1))):=by
   show zx _ _ _ _;rw [HE.out,Int.natCast_add];exact zx.next (by rw [hlw];exact hown')
  obtain ⟨g',cap',rfl⟩:=Joins.ownsRow_form hown' (by omega);clear hown' hgrow' hO HO HB hx hlw;go_wp2;go_roundw
  case rel=>exact ⟨k+1,by omega,by go_num,HO2,HB2⟩
  case measure=>simp [intOf];omega
theorem ziT {rm:List Int} {K:Nat} (hl:0 < rm.length) (h:K < rm.length):zN rm K=rm.getD K 0:=by
 unfold zN;have:min K (rm.length - 1)=K:=(by omega);rw [this]
theorem zhw {rm:List Int} {K:Nat} (h:¬ K < rm.length):zN rm K=rm.getD (rm.length - 1) 0:=by
 unfold zN;have:min K (rm.length - 1)=rm.length - 1:=(by omega);rw [this]
theorem zay (rm:List Int) (hl:0 < rm.length) (hl2:rm.length<=1000) (K:Nat) (hK:K<=100000) (v:Value) (w:World) (h:zA w v rm) :
  Calls prog 98 #[v,int i64 (K:Int)] w λe w'=>e=.returned (int i64 (zN rm K))/\Below w.heap.size w w':=by
 obtain ⟨av,cv,rfl,_⟩:=h.form;have H:=O h;clear h;by_cases hlt:K < rm.length
 ·have HR:=O (ziT hl hlt);obtain ⟨b,off,cap',e',hc1,hc2,hbl,hx⟩:=H.out.get hlt;simp only [Value.slice.injEq,true_and] at e';obtain ⟨rfl,rfl⟩:=e';unfold maxLen at hc2;generalize rm.getD K 0=y at hx HR;go_enter func98,ntmps98;go_wp2;go_ret;exact ⟨by rw [HR.out];rfl,bR⟩
 ·have HR:=O (zhw hlt);obtain ⟨m,hm⟩:∃ m,rm.length=m+1:=Nat.exists_eq_succ_of_ne_zero (by omega);obtain ⟨b,off,cap',e',hc1,hc2,hbl,hx⟩:=H.out.get (i:=rm.length - 1) (by omega);simp only [Value.slice.injEq,true_and] at e';obtain ⟨rfl,rfl⟩:=e';unfold maxLen at hc2;generalize rm.getD (rm.length - 1) 0=y at hx HR;have e1:rm.length - 1=m:=(by omega);rw [e1] at hx;rw [hm] at hc1 hlt |-;clear H hl hm e1;go_enter func98,ntmps98;go_wp2;go_ret;exact ⟨by rw [HR.out];rfl,bR⟩
theorem z7L (v:Value) (ps:List zk) (w:World) {z:Nat} (h:z1Y w z v ps) :
  Calls prog 99 #[v] w λe w'=>e=.returned (int i64 (z7f ps))/\Below w.heap.size w w':=by
 obtain ⟨a,cap,rfl,hlen⟩:=At.form h;have H:=O h;clear h;go_enter func99,ntmps99;go_wp2_with fail
 go_loopw [3,4] (λs i W=>∃ k:Nat,k<=ps.length/\i=int i64 k/\s=int i64 (wrap64 (z3I ps k))/\Hid (Below w.heap.size w W)) (λ_ i _=>ps.length - (intOf i).toNat)
 case atStart=>exact ⟨0,nZ,rfl,by simp [z3I,z6R],bR⟩
 case round =>
  obtain ⟨k,hk,rfl,rfl,HB⟩:=hrel;by_cases hlt:k < ps.length
  ·obtain ⟨b,off,cap',e',hc1,hc2,hbl,hx⟩:=At.get (H.out.kept HB.out) hlt;simp only [Value.slice.injEq,true_and] at e';obtain ⟨rfl,rfl⟩:=e';have HS:=O (zjb ps k);generalize ps.getD k dP=x at hx HS;generalize wrap64 (z3I ps k)=s at HS |-;obtain ⟨x0,x1,x2⟩:=hx;unfold maxLen at hc2;have hkl:(k:Int) < (ps.length:Int):=(by omega);have hk0:(0:Int)<=(k:Int):=(by omega);go_wp2_with fail
   go_quiet (fail)
   go_wp2;go_roundw
   case rel=>exact ⟨k+1,by omega,by go_num,by rw [<-HS.out],z4a HB.out nq⟩
   case measure=>simp [intOf];omega
  ·obtain rfl:k=ps.length:=by omega
   go_wp2;go_ret;exact ⟨rfl,HB.out⟩
theorem zbZ {w w':World} {base:Nat} {e:TypeId} {sz:Nat} {v:Value} {m:Nat} {xs:List Value} (h:w.ownsRow base e sz v m xs) (hb:Below w.heap.size w w'):w'.ownsRow base e sz v m xs :=
 ⟨h.1,h.2.elim Or.inl (λ⟨g,cap,cur,hv,hg,hc,r⟩=>Or.inr ⟨g,cap,cur,hv,hg,(hb.block g (bL hc)).trans hc,r⟩)⟩
structure P9 (w:World) (B P:Nat) (pv:Value) (us:List Value) (pgs:List (List zk)) (gv:Value) (page:List zk):Prop where
 own:w.ownsRow B 41 1 pv us.length us
 rows:zO w B us pgs
 page:zx w P gv page
 le:B<=P
 hi:P<=w.heap.size
 top:∀ i,i < us.length->∀ g,(us.getD i (.slice none 0 0)).ownBlock=some g->g < P
theorem P9.kept {w w':World} {B P:Nat} {pv:Value} {us:List Value} {pgs:List (List zk)} {gv:Value} {page:List zk} (h:P9 w B P pv us pgs gv page) (k:Below w.heap.size w w'):P9 w' B P pv us pgs gv page :=
 ⟨zbZ h.own k,h.rows.kept k,h.page.kept k,h.le,nT h.hi k.size,h.top⟩
theorem P9.len {w:World} {B P:Nat} {pv:Value} {us:List Value} {pgs:List (List zk)} {gv:Value} {page:List zk} (h:P9 w B P pv us pgs gv page):us.length=pgs.length:=h.rows.1
theorem zed {w w':World} {B base:Nat} {v U:Value} {n m:Nat} {us xs:List Value} (h:w.ownsRow B 41 1 v n us) (hU:w.ownsRow base 45 3 U m xs) (k:w.grownBy w' U.ownBlock):w'.ownsRow B 41 1 v n us :=
 ⟨h.1,h.2.elim Or.inl (λ⟨g,cap,cur,hv,hg,hc,r⟩=>Or.inr ⟨g,cap,cur,hv,hg,z06 hc k (z0e (zt hU hc (by decide))),r⟩)⟩
theorem P9.push {w w2:World} {B P:Nat} {pv v':Value} {us:List Value} {pgs:List (List zk)} {gv:Value} {page:List zk} {o:Obj} (h:P9 w B P pv us pgs gv page) (hg:(w.alloc o).grownBy w2 pv.ownBlock) (ho:w2.ownsRow B 41 1 v' (us.length+1) (us ++ [gv])) (hB:B<=w.heap.size) :
  P9 (w2.alloc (.cells #[] 45)) B w2.heap.size v' (us ++ [gv]) (pgs ++ [page]) (.slice (some ⟨w2.heap.size,0,none⟩) 0 0) []:=by
 have KA:=ze (Below.refl w.heap.size w) o;have KB:=ze (Below.refl w2.heap.size w2) (.cells #[] 45);have hOA:=h.own.alloc o;have hR:=((h.rows.kept KA).grown hOA hg).app (zO.one (((h.page.base h.le).kept KA).grown hOA hg));have hs:=hg.size;rw [World.size_alloc] at hs;refine ⟨?_,hR.kept KB,z8D w2 w2.heap.size lR,by omega,by simp,λi hi g e=>?_⟩
 ·rw [List.length_append];exact zbZ ho KB
 ·have h1:=hR.2 i (by rw [<-hR.1];exact hi);exact (h1.lt g e).2
theorem P9.add {w w2:World} {B P:Nat} {pv v':Value} {us:List Value} {pgs:List (List zk)} {gv:Value} {page page':List zk} (h:P9 w B P pv us pgs gv page) (hg:w.grownBy w2 gv.ownBlock) (ho:zx w2 P v' page'):P9 w2 B P pv us pgs v' page':=by
 have hpA:w.ownsRow P 45 3 gv page.length (page.flatMap z0y):=h.page;refine ⟨zed h.own hpA hg,⟨h.rows.1,λi hi=>?_⟩,ho,h.le,nT h.hi hg.size,h.top⟩;have h1:=h.rows.2 i hi
 cases hb:(us.getD i (.slice none 0 0)).ownBlock with
 | none=>exact World.ownsRow.kept h1 hg (.inl hb)
 | some g =>
  refine World.ownsRow.kept h1 hg (.inr λe=>?_);have h2:=h.top i (by rw [h.rows.1];exact hi) g hb;rw [hb] at e;have:=(hpA.lt g e.symm).1;omega
theorem P9.grew {w w2:World} {B P:Nat} {pv:Value} {us:List Value} {pgs:List (List zk)} {gv:Value} {page:List zk} {w0:World} (h:P9 w B P pv us pgs gv page) (hw:Below B w0 w) (hg:w.grownBy w2 gv.ownBlock) (hB:B<=w.heap.size):Below B w0 w2 :=
 hw.grown hg hB (λb hb=>by have:=(World.ownsRow.lt h.page b hb).1;have:=h.le;omega)
theorem P9.pushed {w w2:World} {B P:Nat} {pv:Value} {us:List Value} {pgs:List (List zk)} {gv:Value} {page:List zk} {w0:World} (h:P9 w B P pv us pgs gv page) (hw:Below B w0 w) {o o2:Obj} (hg:(w.alloc o).grownBy w2 pv.ownBlock) (hB:B<=w.heap.size):Below B w0 (w2.alloc o2) :=
 (((hw.trans ((ze (Below.refl w.heap.size w) o).mono hB)).grown hg (by simp;omega) (λb hb=>(World.ownsRow.lt h.own b hb).1))).trans ((ze (Below.refl w2.heap.size w2) o2).mono (by have:=hg.size;simp at this;omega))
theorem zx.joined {w:World} {B:Nat} {v:Value} {a b:List zk} (h:w.ownsRow B 45 3 v (a.length+b.length) (a.flatMap z0y ++ b.flatMap z0y)):zx w B v (a ++ b):=by
 unfold zx;rw [List.length_append,List.flatMap_append];exact h
structure TF (w w':World):Prop where
 size:w.heap.size<=w'.heap.size
 blk:∀ (k:Nat) (cur:Array Value) (e:TypeId),w.heap[k]?=some (Obj.cells cur e)->e ≠ 45->e ≠ 41->w'.heap[k]?=some (Obj.cells cur e)
theorem TF.refl (w:World):TF w w:=⟨lR,λ_ _ _ h _ _=>h⟩
theorem TF.trans {a b c:World} (h:TF a b) (k:TF b c):TF a c:=⟨nT h.size k.size,λq cur e h1 h2 h3=>k.blk q cur e (h.blk q cur e h1 h2 h3) h2 h3⟩
theorem TF.of_below {w w':World} (h:Below w.heap.size w w'):TF w w':=⟨h.size,λk _ _ h1 _ _=>(h.block k (bL h1)).trans h1⟩
theorem TF.alloc {w w':World} (h:TF w w') (o:Obj):TF w (w'.alloc o):=h.trans (.of_below (ze bR o))
theorem TF.grownS {w W W':World} {B m:Nat} {U:Value} {xs:List Value} (h:TF w W) (hU:W.ownsRow B 45 3 U m xs) (k:W.grownBy W' U.ownBlock):TF w W' :=
 ⟨nT h.size k.size,λq cur e h1 h2 h3=>z06 (h.blk q cur e h1 h2 h3) k (z0e (zt hU (h.blk q cur e h1 h2 h3) (Ne.symm h2)))⟩
theorem TF.grownP {w W W':World} {B m:Nat} {U:Value} {xs:List Value} (h:TF w W) (hU:W.ownsRow B 41 1 U m xs) (k:W.grownBy W' U.ownBlock):TF w W' :=
 ⟨nT h.size k.size,λq cur e h1 h2 h3=>z06 (h.blk q cur e h1 h2 h3) k (z0e (zt hU (h.blk q cur e h1 h2 h3) (Ne.symm h3)))⟩
theorem TF.own {w w':World} {base sz m:Nat} {e:TypeId} {v:Value} {xs:List Value} (h:TF w w') (ho:w.ownsRow base e sz v m xs) (h2:e ≠ 45) (h3:e ≠ 41):w'.ownsRow base e sz v m xs :=
 ⟨ho.1,ho.2.elim Or.inl (λ⟨g,cap,cur,hv,hg,hc,r⟩=>Or.inr ⟨g,cap,cur,hv,hg,h.blk g cur e hc h2 h3,r⟩)⟩
def z4p (rm:List Int) (pgs:List (List zk)) (page piece:List zk):List (List zk) × List zk:=if z1a page piece (zN rm pgs.length)=true then (pgs,page ++ piece) else (pgs ++ [page],piece)
theorem zx.news {w:World} {B g n cap:Nat} {ps:List zk} (h:zx w B (.slice (some ⟨g,0,none⟩) n cap) ps):∀ j u,(ps.flatMap z0y)[j]?=some u->w.cell? ((⟨g,0,none⟩:Addr).add j)=some u:=by
 intro j u hj;unfold zx at h
 rcases h.2 with ⟨e,_⟩ | ⟨g',cap',cur,e,hb,hg,h1,h2,h3,h4⟩
 ·cases e
 ·simp only [Value.slice.injEq,Option.some.injEq,Addr.mk.injEq,and_true] at e;obtain ⟨rfl,rfl,rfl⟩:=e
  have hjn:j < ps.length * 3:=by
   have:=(List.getElem?_eq_some_iff.1 hj).1;rw [h.1] at this;omega
  rw [<-h4,List.getElem?_take_of_lt (by omega)] at hj;have e2:(⟨g,0,none⟩:Addr).add j=⟨g,j,none⟩:=(by simp [Addr.add];intro h;exact h.symm);rw [e2,zf hg,<-Array.getElem?_toList,hj]
theorem z7M:∀ ps:List zk,(ps.flatMap z0y).length=ps.length * 3
 | []=>rfl
 | s :: l=>by
  rw [List.flatMap_cons,List.length_append,z7M l,List.length_cons];simp only [z0y,List.length_cons,List.length_nil];omega
theorem z9A (ps:List zk):∀ u ∈ ps.flatMap z0y,u.oneCell'=true:=by
 intro u hu;obtain ⟨s,_,hs⟩:=List.mem_flatMap.1 hu;simp only [z0y,List.mem_cons,List.not_mem_nil,or_false] at hs
 rcases hs with rfl | rfl | rfl <;> rfl
theorem z6X (rm:List Int) (hl:0 < rm.length) (hl2:rm.length<=1000) (hrm:∀ k,-1000000<=zN rm k/\zN rm k<=1000) (vr:Value) (B P:Nat) (pv gv vb:Value) (us:List Value) (pgs:List (List zk)) (page piece:List zk) (h1:z3t page) (h2:z3t piece) (hpl:pgs.length<=50000) (hgl:page.length<=50000) (hne:piece ≠ []) (hpc:piece.length<=50000)
  (w:World) (hB:B<=w.heap.size) (hr:zA w vr rm) (hP:P9 w B P pv us pgs gv page) (hb:zx w B vb piece) :
  Calls prog 55 #[pv,gv,vb,vr] w λe w'=>∃ P' pv' us' gv',e=.returned (.tuple #[pv',gv'])/\P9 w' B P' pv' us' (z4p rm pgs page piece).1 gv' (z4p rm pgs page piece).2/\Below B w w'/\TF w w':=by
 obtain ⟨i0,hi0,hz0,hz1,hz2⟩:=info_parts z7Z;obtain ⟨j0,hj0,hy0,hy1,hy2⟩:=info_parts z5i;obtain ⟨ap,cp,rfl,_⟩:=zP hP.own;obtain ⟨ag,cg,rfl⟩:=hP.page.form;obtain ⟨gb,cb,rfl⟩:=Joins.ownsRow_form hb (by cases piece with | nil=>exact absurd rfl hne | cons a l=>simp);have hul:=hP.len;have hub:us.length<=50000:=(by omega);rw [hul] at hP |-;have KR:=O (λW (h:zA W vr rm)=>zay rm hl hl2 pgs.length (by omega) vr W h);have KA:=O (λW z (h:z1Y W z (.slice ag page.length cg) page)=>(z4G h1 ▸ z7L _ page W h:Calls prog 99 #[.slice ag page.length cg] W λe w'=>e=.returned (int i64 (zu page))/\Below W.heap.size W w'));have KB:=O (λW z (h:z1Y W z (.slice (some ⟨gb,0,none⟩) piece.length cb) piece)=>(z4G h2 ▸ z7L _ piece W h:Calls prog 99 #[.slice (some ⟨gb,0,none⟩) piece.length cb] W λe w'=>e=.returned (int i64 (zu piece))/\Below W.heap.size W w'));have HP:=O hP;have HR:=O hr;have HBk:=O hb;have hrb:=hrm pgs.length;unfold z3t at h1 h2;clear hP hr hb hrm hul;by_cases he:page=[]
 ·have HS:Hid (z4p rm pgs page piece=(pgs,page ++ piece)):=O (by unfold z4p;rw [if_pos (by subst he;rfl)]);subst he;simp only [List.length_nil] at HP KA |-;have hO:=HP.out.page;unfold zx at hO;go_enter func55,ntmps55;go_wp2_with (at_builtin;refine wpList_append_own _ rfl _ _ 41 rfl P 45 i0 _ 3 24 underlying41 hi0 hz0 hz1 hz2 rfl (by decide) _ _ _ rfl hO ⟨gb,0,none⟩ piece.length cb (piece.flatMap z0y) rfl (z7M piece) ?c1 ?c2 ?c3 ?c4 ?c5 ?_)
  case c1=>exact HBk.out.news
  case c2=>exact z9A piece
  case c3=>unfold maxLen;simp only [List.length_nil];omega
  case c4=>simp only [List.length_nil];omega
  case c5=>exact HP.out.hi
  intro v' w2 hown' hgrow' _;have HP2:=O (HP.out.add hgrow' (show zx w2 P v' ([] ++ piece) from hown'));have HK2:=O (And.intro (HP.out.grew bR hgrow' hB) ((TF.refl w).grownS HP.out.page hgrow'));clear hown' hgrow' hO;go_wp2;exact bodyPost_ret (v:=.tuple #[.slice ap pgs.length cp,v']) (by simp [results,results55,go_sem]) rfl ⟨P,_,us,v',rfl,by rw [HS.out];exact HP2.out,HK2.out⟩
 ·have hpos:(0:Int) < (page.length:Int):=by
   have:=List.length_pos_iff.2 he;omega
  have hT:z1a page piece (zN rm pgs.length)=decide (zu page+zu piece<=zN rm pgs.length):=by
   unfold z1a
   cases page with
   | nil=>exact absurd rfl he
   | cons a l=>rfl
  have HT:=O hT;have HW:Hid (z4p rm pgs page piece=if z1a page piece (zN rm pgs.length)=true then (pgs,page ++ piece) else (pgs ++ [page],piece)):=O rfl;have hb1:=HP.out.page.at;have hb2:=HBk.out.at;have hlg:(page.length:Int)<=50000:=(by omega);have hwr:wrap64 (zu page+zu piece)=zu page+zu piece:=z32 (by omega);clear hT he;go_enter func55,ntmps55;go_wp2_with fail
  refine (KA.out _ _ hb1).mono ?_;rintro e w1 ⟨rfl,k1⟩;go_wp2_with fail
  refine (KB.out _ _ (hb2.kept k1)).mono ?_;rintro e w2 ⟨rfl,k2⟩;have K2:=zi k1 k2;have HR2:=HR.out.kept K2;have HPk:=O (HP.out.kept K2);have HBk2:=O (HBk.out.kept K2);have HK2:=O (K2.mono hB);have HF2:=O (TF.of_below K2);go_wp2_with fail
  refine (KR.out _ HR2).mono ?_;rintro e w3 ⟨rfl,k3⟩;replace HPk:=O (HPk.out.kept k3);replace HBk2:=O (HBk2.out.kept k3);replace HK2:=O (HK2.out.trans (k3.mono (nT hB K2.size)));replace HF2:=O (HF2.out.trans (TF.of_below k3));have hB3:B<=w3.heap.size:=nT hB (nT K2.size k3.size);clear k1 k2 k3 K2 HR2 hb1 hb2 KA KB KR HP HBk HR hB;generalize zN rm pgs.length=room at HT HW hrb |-;generalize zu page=A at HT h1 hwr |-;generalize zu piece=A2 at HT h2 hwr |-;by_cases hle:A+A2<=room
  ·have HS:Hid (z4p rm pgs page piece=(pgs,page ++ piece)):=O (by rw [HW.out,if_pos (by rw [HT.out];exact decide_eq_true hle)]);have hO:=HPk.out.page;unfold zx at hO;go_wp2_with (at_builtin;refine wpList_append_own _ rfl _ _ 41 rfl P 45 i0 _ 3 24 underlying41 hi0 hz0 hz1 hz2 rfl (by decide) _ _ _ rfl hO ⟨gb,0,none⟩ piece.length cb (piece.flatMap z0y) rfl (z7M piece) ?c1 ?c2 ?c3 ?c4 ?c5 ?_)
   case c1=>exact HBk2.out.news
   case c2=>exact z9A piece
   case c3=>unfold maxLen;omega
   case c4=>omega
   case c5=>exact HPk.out.hi
   intro v' w4 hown' hgrow' _;have HP4:=O (HPk.out.add hgrow' (zx.joined hown'));have HK4:=O (And.intro (HPk.out.grew HK2.out hgrow' hB3) (HF2.out.grownS HPk.out.page hgrow'));clear hown' hgrow' hO;go_wp2;exact bodyPost_ret (v:=.tuple #[.slice ap pgs.length cp,v']) (by simp [results,results55,go_sem]) rfl ⟨P,_,us,v',rfl,by rw [HS.out];exact HP4.out,HK4.out⟩
  ·have HS:Hid (z4p rm pgs page piece=(pgs ++ [page],piece)):=O (by rw [HW.out,if_neg (by rw [HT.out];simp only [decide_eq_true_eq];exact hle)]);have hO:=HPk.out.own;go_wp2_with (at_builtin;refine wpList_append_own _ rfl _ _ 30 rfl B 41 j0 _ 1 24 underlying30 hj0 hy0 hy1 hy2 rfl (by decide) _ _ _ rfl (hO.alloc _) ⟨w3.heap.size,0,none⟩ 1 1 [.slice ag page.length cg] rfl rfl ?c1 ?c2 ?c3 ?c4 ?c5 ?_)
   case c1=>exact z0K (zj w3 (.cells #[.slice ag page.length cg] 41))
   case c2=>simp [Value.oneCell']
   case c3=>unfold maxLen;omega
   case c4=>omega
   case c5=>simp;omega
   intro v' w4 hown' hgrow' _;have HP4:=O (HPk.out.push hgrow' hown' hB3);have HK4:=O (HPk.out.pushed (o2:=.cells #[] 45) HK2.out hgrow' hB3);have HB4:=O (((HBk2.out.kept (ze (Below.refl w3.heap.size w3) _)).grown (hO.alloc (.cells #[.slice ag page.length cg] 41)) hgrow').kept (ze (Below.refl w4.heap.size w4) (.cells #[] 45)));have HF4:=O (((HF2.out.alloc _).grownP (hO.alloc (.cells #[.slice ag page.length cg] 41)) hgrow').alloc (.cells #[] 45));have hO4:=HP4.out.page;unfold zx at hO4;have hB4:B<=(w4.alloc (.cells #[] 45)).heap.size:=(by have:=hgrow'.size;simp at this |-;omega);obtain ⟨a4,c4,e4⟩:=Joins.ownsRow_form hown' (by omega);subst e4;clear hown' hgrow' hO HPk HBk2 HK2;go_wp2_with (at_builtin;refine wpList_append_own _ rfl _ _ 41 rfl w4.heap.size 45 i0 _ 3 24 underlying41 hi0 hz0 hz1 hz2 rfl (by decide) _ _ _ rfl hO4 ⟨gb,0,none⟩ piece.length cb (piece.flatMap z0y) rfl (z7M piece) ?c1 ?c2 ?c3 ?c4 ?c5 ?_)
   case c1=>exact HB4.out.news
   case c2=>exact z9A piece
   case c3=>unfold maxLen;simp only [List.length_nil];omega
   case c4=>simp only [List.length_nil];omega
   case c5=>exact HP4.out.hi
   intro v5 w5 hown' hgrow' _;have HP5:=O (HP4.out.add hgrow' (show zx w5 w4.heap.size v5 ([] ++ piece) from hown'));have HK5:=O (And.intro (HP4.out.grew HK4.out hgrow' hB4) (HF4.out.grownS HP4.out.page hgrow'));clear hown' hgrow' hO4;go_wp2;exact bodyPost_ret (v:=.tuple #[.slice (some ⟨a4,0,none⟩) (us.length+1) c4,v5]) (by simp [results,results55,go_sem]) rfl ⟨_,_,_,v5,rfl,by rw [HS.out];exact HP5.out,HK5.out⟩
theorem zee (x f m:Int) (hx:I64 x) (hf:I64 f) (hm:I64 m) (w:World) :
  Calls prog 116 #[int i64 x,int i64 f,int i64 m] w λe w'=>e=.returned (.bool (z0S x f m))/\w'=w:=by
 unfold I64 at hx hf hm;by_cases h1:x < f
 ·have e:z0S x f m=false:=(by simp [z0S];omega);rw [e];go_enter func116,ntmps116;go_wp2;go_ret;exact ⟨rfl,rfl⟩
 ·by_cases h2:m<=0
  ·have e:z0S x f m=false:=(by simp [z0S];omega);rw [e];go_enter func116,ntmps116;go_wp2;go_ret;exact ⟨rfl,rfl⟩
  ·by_cases h3:f < 0
   ·by_cases h4:0<=x
    ·have e:z0S x f m=decide (x < m+f):=by
      have:decide (x - f < m)=decide (x < m+f):=(by apply decide_eq_decide.2;omega);simp only [z0S,this];simp;omega
     rw [e];go_enter func116,ntmps116;go_wp2;go_ret;exact ⟨rfl,rfl⟩
    ·have e:z0S x f m=decide (x - f < m):=(by simp [z0S];omega);rw [e];go_enter func116,ntmps116;go_wp2;go_ret;exact ⟨rfl,rfl⟩
   ·have e:z0S x f m=decide (x - f < m):=(by simp [z0S];omega);rw [e];go_enter func116,ntmps116;go_wp2;go_ret;exact ⟨rfl,rfl⟩
theorem zef (v:Value) (l:List Int) (hl:l.length<=1048576) (gap:Int) (x:GC) (hx:GOk x) (w:World) (h:zA w v l) :
  Calls prog 87 #[v,int i64 gap,.agg #[int i64 x.row,int i64 x.col,int i64 x.rows,int i64 x.cols,int i64 x.ins]] w λe w'=>e=.returned (int i64 (z2t l gap x))/\Below w.heap.size w w':=by
 obtain ⟨a,cap,rfl,hlen⟩:=h.form;obtain ⟨_,b1,_,b3,_⟩:=hx;have K0:=ze (Below.refl w.heap.size w) (.cells #[int i64 x.row,int i64 x.col,int i64 x.rows,int i64 x.cols,int i64 x.ins] 51);have X0:=zj w (.cells #[int i64 x.row,int i64 x.col,int i64 x.rows,int i64 x.cols,int i64 x.ins] 51);have c1:=zf (p:=1) X0;have c3:=zf (p:=3) X0;have H:=O (h.kept K0);have HB:=O K0;have HR:=O (λ(k:Nat) (hk:k<=1048576)=>zee (k:Int) x.col x.cols (by unfold I64;omega) b1 b3);clear h b1 b3 K0 X0;go_enter func87,ntmps87;go_wp2_with fail
 generalize w.alloc (.cells #[int i64 x.row,int i64 x.col,int i64 x.rows,int i64 x.cols,int i64 x.ins] 51)=W0 at c1 c3 H HB |-;go_loop [7,8,9] (λn s i=>∃ k:Nat,i=int i64 k/\k<=l.length/\n=int i64 (z1P (z2v l (z20 x) k) gap)/\s=.bool (decide ((z2v l (z20 x) k).length ≠ 0))) (λ_ _ i=>l.length - (intOf i).toNat)
 case atStart=>exact ⟨0,rfl,nZ,rfl,rfl⟩
 case round =>
  obtain ⟨k,rfl,hk,rfl,rfl⟩:=hrel;have d1:W0.cell? ⟨w.heap.size,1,none⟩=some (int i64 x.col):=c1;have d3:W0.cell? ⟨w.heap.size,3,none⟩=some (int i64 x.cols):=c3;by_cases hlt:k < l.length
  ·obtain ⟨b,off,cap',e',hc1,hc2,hbl,hy⟩:=H.out.get hlt;simp only [Value.slice.injEq,true_and] at e';obtain ⟨rfl,rfl⟩:=e';unfold maxLen at hc2;have KR:=O (HR.out k (by omega) W0)
   cases hin:z20 x k with
   | false =>
    have HL:=O (zaZ (l:=l) hin);have hin':z0S (k:Int) x.col x.cols=false:=hin;rw [hin'] at KR;clear hin hin';generalize l.getD k 0=y at hy;generalize z2v l (z20 x) k=xs at HL |-;obtain ⟨z,hz⟩:∃ z,decide (xs.length ≠ 0)=z:=⟨_,rfl⟩;have HZ:=O hz;rw [hz];clear hz;go_wp2_with fail
    refine KR.out.mono ?_;rintro e w1 ⟨rfl,rfl⟩;go_wp2
    go_round
    case rel=>exact ⟨k+1,by go_num,by omega,by rw [HL.out],by rw [HL.out,HZ.out]⟩
    case measure=>simp [intOf];omega
   | true =>
    have HL:=O (z9r (l:=l) hin);have hin':z0S (k:Int) x.col x.cols=true:=hin;rw [hin'] at KR;clear hin hin';generalize l.getD k 0=y at hy HL;generalize z2v l (z20 x) k=xs at HL |-;by_cases hx0:xs.length=0
    ·have HN:=O (zeT xs hx0 gap y);have hd:decide (xs.length ≠ 0)=false:=(by simp [hx0]);rw [hd];generalize z1P xs gap=z at HN |-;clear hx0 hd;go_wp2_with fail
     refine KR.out.mono ?_;rintro e w1 ⟨rfl,rfl⟩;go_wp2
     go_round
     case rel=>exact ⟨k+1,by go_num,by omega,by rw [HL.out,HN.out],by rw [HL.out];simp⟩
     case measure=>simp [intOf];omega
    ·have HN:=O (zfV xs hx0 gap y);have hd:decide (xs.length ≠ 0)=true:=(by simp [hx0]);rw [hd];generalize z1P xs gap=z at HN |-;clear hx0 hd;go_wp2_with fail
     refine KR.out.mono ?_;rintro e w1 ⟨rfl,rfl⟩;go_wp2
     go_round
     case rel=>exact ⟨k+1,by go_num,by omega,by rw [HL.out,HN.out],by rw [HL.out];simp⟩
     case measure=>simp [intOf];omega
  ·obtain rfl:k=l.length:=by omega
   have HV:Hid (z1P (z2v l (z20 x) l.length) gap=z2t l gap x):=rfl;rw [HV.out];generalize decide ((z2v l (z20 x) l.length).length ≠ 0)=z;go_wp2;go_ret;exact ⟨rfl,HB.out⟩
theorem zc2 (ac ar:Option Addr) (cc cr:Nat) (t:T) (width:Int) (vh:Value) (hs:List Int) (w:World) {z:Nat} (hc:z09 w z (.slice ac t.cols.length cc) t.cols) (hr:z05 w z (.slice ar t.rows.length cr) t.rows) (hh:zA w vh hs) :
  Calls prog 13 #[.agg #[.slice ac t.cols.length cc,int i64 t.head,int i64 t.foot,.slice ar t.rows.length cr,int i64 t.gap],int i64 width,vh] w λe w'=>e=.returned (.bool (z27 t width hs))/\Below w.heap.size w w':=by
 obtain ⟨ah,ch,rfl,hlen⟩:=hh.form;have K0:=ze (Below.refl w.heap.size w) (.cells #[.slice ac t.cols.length cc,int i64 t.head,int i64 t.foot,.slice ar t.rows.length cr,int i64 t.gap] 26);have KM:=O (z86 ac ar cc cr t _ (hc.kept K0) (hr.kept K0));have HJ:=O (z0t width 0 300);have HK0:=O K0;have HI:=O (z0t (hs.length:Int) 1 60);have HH:=O hh;have HV:Hid (z27 t width hs=((zF t && zM width 0 300) && (zM hs.length 1 60 && hsB hs))):=rfl;clear hc hr K0 hh;generalize zF t=m at KM HV
 cases m with
 | false =>
  rw [HV.out];go_enter func13,ntmps13;go_wp2_with fail
  refine KM.out.mono ?_;rintro e w1 ⟨rfl,hb1⟩;have HK1:=O (zi HK0.out hb1);clear hb1 KM HK0;go_wp2;go_ret;exact ⟨rfl,HK1.out⟩
 | true =>
  generalize zM width 0 300=j at HJ HV
  cases j with
  | false =>
   rw [HV.out];go_enter func13,ntmps13;go_wp2_with fail
   refine KM.out.mono ?_;rintro e w1 ⟨rfl,hb1⟩;have HK1:=O (zi HK0.out hb1);clear hb1 KM HK0;go_wp2_with fail
   refine (HJ.out _).mono ?_;rintro e w2 ⟨rfl,rfl⟩;go_wp2;go_ret;exact ⟨rfl,HK1.out⟩
  | true =>
   generalize zM (hs.length:Int) 1 60=n at HI HV
   cases n with
   | false =>
    rw [HV.out];go_enter func13,ntmps13;go_wp2_with fail
    refine KM.out.mono ?_;rintro e w1 ⟨rfl,hb1⟩;have HK1:=O (zi HK0.out hb1);clear hb1 KM HK0;go_wp2_with fail
    refine (HJ.out _).mono ?_;rintro e w2 ⟨rfl,rfl⟩;go_wp2_with fail
    refine (HI.out _).mono ?_;rintro e w2 ⟨rfl,rfl⟩;go_wp2;go_ret;exact ⟨rfl,HK1.out⟩
   | true =>
    have HW:Hid (z27 t width hs=hsB hs):=(by rw [Hid,HV.out];rfl);clear HV;go_enter func13,ntmps13;go_wp2_with fail
    refine KM.out.mono ?_;rintro e w1 ⟨rfl,hb1⟩;have HK1:=O (zi HK0.out hb1);clear hb1 KM HK0;go_wp2_with fail
    refine (HJ.out _).mono ?_;rintro e w2 ⟨rfl,rfl⟩;go_wp2_with fail
    refine (HI.out _).mono ?_;rintro e w2 ⟨rfl,rfl⟩;clear HI HJ;have H2:=O (HH.out.kept HK1.out);go_wp2_with fail
    go_loop [7] (λi=>∃ k:Nat,k<=hs.length/\i=int i64 k/\Hid (∀ i,i < k->zM (hs.getD i 0) 0 100=true)) (λi=>hs.length - (intOf i).toNat)
    case atStart=>exact ⟨0,nZ,rfl,λi hi=>absurd hi (Nat.not_lt_zero _)⟩
    case round =>
     obtain ⟨k,hk,rfl,HA⟩:=hrel;by_cases hlt:k < hs.length
     ·obtain ⟨b,off,cap',e',hc1,hc2,hbl,hx⟩:=H2.out.get hlt;simp only [Value.slice.injEq,true_and] at e';obtain ⟨rfl,rfl⟩:=e';unfold maxLen at hc2;have HN:=O (λh=>zhp hlt h);have HY:=O (λh=>zeM HA.out h);generalize hs.getD k 0=x at hx HN HY;have HX:=O (z0t x 0 100);go_wp2_with fail
      refine (HX.out _).mono ?_
      cases hin:zM x 0 100 with
      | false =>
       have HF:=O (HN.out hin);rintro e w3 ⟨rfl,rfl⟩;clear hin;go_wp2;go_ret;exact ⟨by rw [HW.out,HF.out];rfl,HK1.out⟩
      | true =>
       have HF:=O (HY.out hin);rintro e w3 ⟨rfl,rfl⟩;clear hin;go_wp2
       go_round
       case rel=>exact ⟨k+1,by omega,by go_num,HF⟩
       case measure=>simp [intOf];omega
     ·obtain rfl:k=hs.length:=by omega
      have HF:=O (zeL HA.out);go_wp2;go_ret;exact ⟨by rw [HW.out,HF.out];rfl,HK1.out⟩
end
section
open Go.RowKit Go.BigFrame
theorem zek (v1 v2:Value) (pss:List (List zk)) (w:World) {z1 z2:Nat} (h1:z1p w z1 v1 pss) (h2:z1p w z2 v2 pss) :
  Calls prog 11 #[v1,v2] w λe w'=>e=.returned (.bool true)/\Below w.heap.size w w':=by
 obtain ⟨a1,cap1,rfl,hlen⟩:=At.form h1;obtain ⟨a2,cap2,rfl,_⟩:=At.form h2;unfold maxLen at hlen;have hne:((pss.length:Int) != (pss.length:Int))=false:=(by simp);have hmx:prog.follows .mixedOrders=true:=(by kernel_rfl);have H1:=O h1;have H2:=O h2;clear h1 h2;go_enter func11,ntmps11;go_wp2_with fail
 go_loopw [5] (λi W=>∃ k:Nat,k<=pss.length/\i=int i64 k/\Hid (Below w.heap.size w W)) (λi _=>pss.length - (intOf i).toNat)
 case atStart=>exact ⟨0,nZ,rfl,bR⟩
 case round =>
  obtain ⟨k,hk,rfl,HB⟩:=hrel;by_cases hlt:k < pss.length
  ·obtain ⟨b1,off1,cap1',u1,e1,hc11,hc12,hbl1,x0,hs1⟩:=(H1.out.kept HB.out).get hlt;simp only [Value.slice.injEq,true_and] at e1;obtain ⟨rfl,rfl⟩:=e1;obtain ⟨b2,z4H,cap2',u2,e2,hc21,hc22,hbl2,y0,hs2⟩:=(H2.out.kept HB.out).get hlt;simp only [Value.slice.injEq,true_and] at e2;obtain ⟨rfl,rfl⟩:=e2;unfold maxLen at hc12 hc22;generalize pss.getD k []=ps at hs1 hs2;obtain ⟨au,cu,rfl,hlu⟩:=At.form hs1;obtain ⟨av,cv,rfl,_⟩:=At.form hs2;unfold maxLen at hlu;have hnp:((ps.length:Int) != (ps.length:Int))=false:=(by simp);have hne2:=z0H wr;have m0:=zm (a:=⟨b1,off1+k,none⟩) hbl1 x0;have m1:=zm (a:=⟨b2,z4H+k,none⟩) hbl2 y0;have HS1:=O hs1;have HS2:=O hs2;have X0:=O x0;have Y0:=O y0;clear hs1 hs2 x0 y0;go_upto_region 6 with fail
   refine zv hmx (by kernel_rfl) ?_;repeat (go_big_quiet_step (fail))
   refine wpQuiet_nil ?_;intro W5 hw';obtain ⟨⟨Wx,hW5⟩,hw''⟩:=hw';subst hw'';have HB5:=O (zi HB.out hW5);replace HS1:=O (HS1.out.kept hW5);replace HS2:=O (HS2.out.kept hW5);replace X0:=O ((hW5.cell (p:=⟨b1,off1+k,none⟩) hbl1).trans X0.out);replace Y0:=O ((hW5.cell (p:=⟨b2,z4H+k,none⟩) hbl2).trans Y0.out);have hbx1:b1 < W5.heap.size:=nL hbl1 hW5.size;have hbx2:b2 < W5.heap.size:=nL hbl2 hW5.size;clear m0 m1 hne2 hW5 HB;go_wp2_with fail
   go_loopw [6] (λi W=>∃ q:Nat,q<=ps.length/\i=int i64 q/\Hid (Below W5.heap.size W5 W)) (λi _=>ps.length - (intOf i).toNat)
   case atStart=>exact ⟨0,nZ,rfl,bR⟩
   case round =>
    obtain ⟨q,hq,rfl,HBq⟩:=hrel;have c1:=(HBq.out.cell (p:=⟨b1,off1+k,none⟩) hbx1).trans X0.out;have c2:=(HBq.out.cell (p:=⟨b2,z4H+k,none⟩) hbx2).trans Y0.out;by_cases hql:q < ps.length
    ·obtain ⟨d1,o1,cd1,f1,hd11,hd12,hdl1,p0,p1,p2⟩:=At.get (HS1.out.kept HBq.out) hql;simp only [Value.slice.injEq,true_and] at f1;obtain ⟨rfl,rfl⟩:=f1;obtain ⟨d2,o2,cd2,f2,hd21,hd22,hdl2,r0,r1,r2⟩:=At.get (HS2.out.kept HBq.out) hql;simp only [Value.slice.injEq,true_and] at f2;obtain ⟨rfl,rfl⟩:=f2;unfold maxLen at hd12 hd22;generalize ps.getD q dP=s at p0 p1 p2 r0 r1 r2;have g0:(s.r == s.r)=true:=(by simp);have g1:(s.f == s.f)=true:=(by simp);have g2:(s.t == s.t)=true:=(by simp);have hne2:=z0H wr;have m0:=zm (a:=⟨b1,off1+k,none⟩) (nL hbx1 HBq.out.size) c1;have m1:=zm (a:=⟨b2,z4H+k,none⟩) (nL hbx2 HBq.out.size) c2;have m2:=zm hdl1 p0;have m3:=zm hdl1 p1;have m4:=zm hdl1 p2;have m5:=zm hdl2 r0;have m6:=zm hdl2 r1;have m7:=zm hdl2 r2;clear p0 p1 p2 r0 r1 r2;go_upto_region 11 with fail
     clear c1 c2;refine zv hmx (by kernel_rfl) ?_;repeat (go_big_quiet_step (fail))
     refine wpQuiet_nil ?_;intro W7 hw';obtain ⟨⟨Wy,hW7⟩,hw''⟩:=hw';subst hw'';have HB7:=O (zi HBq.out hW7);clear m0 m1 m2 m3 m4 m5 m6 m7 hne2 hW7;go_wp2;go_roundw
     case rel=>exact ⟨q+1,by omega,by go_num,HB7⟩
     case measure=>simp [intOf];omega
    ·have HB8:=O (zi HB5.out HBq.out);go_wp2;go_roundw
     case rel=>exact ⟨k+1,by omega,by go_num,HB8⟩
     case measure=>simp [intOf];omega
  ·go_wp2;go_ret;exact ⟨rfl,HB.out⟩
end
section
open Go.RowKit
theorem zkU:z0u ⟨#[97,98,32,99]⟩=true:=by decide +kernel
theorem ziW (w:World):Calls prog 14 #[] w λe w'=>e=.returned (.bool true)/\w'=w:=by
 go_enter func14,ntmps14;go_wp2_with fail
 refine (z2p _ _ (by unfold maxLen;decide)).mono ?_;rw [zkU];rintro e w1 ⟨rfl,rfl⟩;go_wp2;go_ret;exact ⟨rfl,rfl⟩
theorem zch (v:Value) (l:List Int) (hl:l.length<=1000) (hw:l.all wtB=true) (w:World) (h:zA w v l) :
  Calls prog 24 #[v] w λe w'=>e=.returned (int i64 l.sum)/\w'=w:=by
 obtain ⟨a,cap,rfl,_⟩:=h.form;have H:=O h;have HW:=O (z3E hw);have HG:=O (λi hi=>z2P (i:=i) hw hi);clear h hw;go_enter func24,ntmps24;go_wp2_with fail
 go_loop [3,4] (λs i=>∃ k:Nat,k<=l.length/\i=int i64 k/\s=int i64 (zK l k)) (λ_ i=>l.length - (intOf i).toNat)
 case atStart=>exact ⟨0,nZ,rfl,by simp [zK]⟩
 case round =>
  obtain ⟨k,hk,rfl,rfl⟩:=hrel;by_cases hlt:k < l.length
  ·obtain ⟨b,off,cap',e',hc1,hc2,hbl,hx⟩:=H.out.get hlt;simp only [Value.slice.injEq,true_and] at e';obtain ⟨rfl,rfl⟩:=e';have hb1:=HW.out k hk;have hb2:=HG.out k hlt;have HS:=O (z1w hlt);generalize l.getD k 0=x at hx HS hb2;generalize zK l k=s at HS hb1;unfold maxLen at hc2;go_wp2
   go_round
   case rel=>exact ⟨k+1,by omega,by go_num,by rw [HS.out]⟩
   case measure=>simp [intOf];omega
  ·obtain rfl:k=l.length:=by omega
   have HE:=O (z1t l);go_wp2;go_ret;exact ⟨by rw [<-HE.out];rfl,rfl⟩
theorem zhI:(prog.info? 3).map (λi=>(i.zero,i.size,i.bytes))=some (some (Value.int .i64 0),1,8):=by kernel_rfl
def z7O (w:World) (base:Nat) (v:Value) (l:List Int):Prop:=w.ownsRow base 3 1 v l.length (l.map (Value.int .i64))
theorem z7O.bk {r:Nat} {w w':World} {base:Nat} {v:Value} {l:List Int} (h:z7O w base v l) (k:Bk r w w') (hr:r < base):z7O w' base v l :=
 ⟨h.1,h.2.elim Or.inl (λ⟨g,cap,cur,hv,hg,hc,q⟩=>Or.inr ⟨g,cap,cur,hv,hg,(k.block g (bL hc) (by omega)).trans hc,q⟩)⟩
def z4M (w:World) (z:Nat) (v:Value) (l:List Int):Prop:=At w z v l.length 1 (λi b o=>w.cell? ⟨b,o,none⟩=some (int i64 (l.getD i 0)))
theorem z4M.since {w w':World} {z:Nat} {v:Value} {l:List Int} (h:z4M w z v l) (k:z0J z w w'):z4M w' z v l:=At.mono h k.size lR (λ_ _ _ _ hb hz he=>(k.cell hz hb _).trans he)
theorem z4M.base {w:World} {z z':Nat} {v:Value} {l:List Int} (h:z4M w z v l) (k:z'<=z):z4M w z' v l:=At.mono h lR k (λ_ _ _ _ _ _ he=>he)
theorem z4M.ints {w:World} {z:Nat} {v:Value} {l:List Int} (h:z4M w z v l):zA w v l:=by
 obtain ⟨a,cap,e,h1,h2,h3⟩:=h;refine ⟨a,cap,e,h1,h2,λi hi=>?_⟩;obtain ⟨b,off,e2,h4,_,h5⟩:=h3 i hi;rw [Nat.mul_one] at h5;exact ⟨b,off,e2,h4,h5⟩
theorem zhJ {w:World} {base:Nat} {v:Value} {l:List Int} (h:w.ownsRow base 3 1 v l.length (l.map (Value.int .i64))):z4M w base v l:=by
 rcases h.2 with ⟨hv,hn⟩ | ⟨g,cap,cur,hv,hg,hc,h3,h4,_⟩
 ·exact ⟨none,0,by rw [hn];exact hv,by omega,nZ,λi hi=>by omega⟩
 ·refine ⟨_,cap,hv,h3,h4,λi hi=>⟨g,0,rfl,(bL hc),hg,?_⟩⟩;subst hv;have e:l.getD i 0=l[i]:=(by simp [List.getD,hi]);rw [Nat.mul_one,Nat.zero_add,e];exact z4F h (by simp [hi])
theorem zjY {w w3 w4:World} {r B:Nat} {l:List Int} {x:Int} {o v':Value} {T:TypeId} {arr:Array Value} (hr:r < w.heap.size) (hO:z7O w3 w.heap.size o l) (hR:Rd w3 r B) (hB:Bk r w w3)
  (hg:(w3.alloc (.cells arr T)).grownBy w4 o.ownBlock) (hown:w4.ownsRow w.heap.size 3 1 v' (l.length+1) (l.map (Value.int .i64) ++ [int i64 x])) :
  Rd w4 r B/\Bk r w w4/\z7O w4 w.heap.size v' (l ++ [x]):=by
 have hlt:=hR.lt;have hA:=hB.alloc (.cells arr T);refine ⟨?_,?_,by unfold z7O;rw [List.length_append,List.map_append];simpa using hown⟩
 ·refine (hR.alloc (.cells arr T)).keep (λk hk=>hg.block k (by simp;omega) (λhb=>?_));have:=(World.ownsRow.lt hO k hb.symm).1;omega
 ·refine ⟨hg.os.trans hA.os,hg.tape.trans hA.tape,hg.output.trans hA.output,nT hA.size hg.size,λk hk hkr=>(hg.block k (nL hk hA.size) (λhb=>?_)).trans (hA.block k hk hkr)⟩;have:=(World.ownsRow.lt hO k hb.symm).1;omega
theorem hi7 (k:Int) (h0:0<=k) (h1:k < 7):∃ v:Int,(-1<=v/\v<=101)/\(#[Value.int .i64 0,int i64 1,int i64 2,int i64 3,int i64 5,int i64 8,int i64 20]:Array Value)[k.toNat]?=some (int i64 v):=by
 rcases (by omega:k=0\/k=1\/k=2\/k=3\/k=4\/k=5\/k=6) with rfl | rfl | rfl | rfl | rfl | rfl | rfl
 ·exact ⟨0,by omega,rfl⟩
 ·exact ⟨1,by omega,rfl⟩
 ·exact ⟨2,by omega,rfl⟩
 ·exact ⟨3,by omega,rfl⟩
 ·exact ⟨5,by omega,rfl⟩
 ·exact ⟨8,by omega,rfl⟩
 ·exact ⟨20,by omega,rfl⟩
def z6y (l:List Int):Prop:=l.length<=5/\∀ x ∈ l,-1<=x/\x<=101
theorem z6y.snoc {l:List Int} {x:Int} (h:∀ y ∈ l,-1<=y/\y<=101) (hx:-1<=x/\x<=101):∀ y ∈ l ++ [x],-1<=y/\y<=101:=by
 intro y hy
 rcases List.mem_append.1 hy with h1 | h1
 ·exact h y h1
 ·rw [List.mem_singleton.1 h1];exact hx
theorem z50 {w:World} {k:Nat} {o x:Obj} (h:w.heap[k]?=some o):(w.alloc x).heap[k]?=some o:=(bA (bL h)).trans h
theorem z6Q {w:World} {arr:Array Value} {t:TypeId} {k:Nat} (h:w.heap.size=k):(w.alloc (.cells arr t)).heap[k]?=some (.cells arr t):=by
 subst h;exact zj w _
theorem zb9 {w:World} {b z:Nat} {x:Int} (hz:z<=b) (h:w.heap[b]?=some (.cells #[int i64 x] 3)):z4M w z (.slice (some ⟨b,0,none⟩) 1 1) [x] :=
 zhJ (l:=[x]) ⟨rfl,.inr ⟨b,1,#[int i64 x],rfl,hz,h,lR,by unfold maxLen;omega,rfl,rfl⟩⟩
theorem zkx (w:World) (z:Nat) (a:Option Addr):z4M w z (.slice a 0 0) []:=⟨a,0,rfl,lR,nZ,λi hi=>absurd hi (Nat.not_lt_zero i)⟩
theorem hi4 {w:World} {b0 b1 b2 b3 z:Nat} (z1:z<=b1) (z2:z<=b2) (z3:z<=b3) (h1:w.heap[b1]?=some (.cells #[int i64 (-1)] 3)) (h2:w.heap[b2]?=some (.cells #[int i64 101] 3)) (h3:w.heap[b3]?=some (.cells #[int i64 100] 3)) (k:Int) (k0:0<=k) (k1:k < 4) :
  ∃ v l,(#[Value.slice (some ⟨b0,0,none⟩) 0 0,.slice (some ⟨b1,0,none⟩) 1 1,.slice (some ⟨b2,0,none⟩) 1 1,.slice (some ⟨b3,0,none⟩) 1 1]:Array Value)[k.toNat]?=some v/\z6y l/\z4M w z v l:=by
 rcases (by omega:k=0\/k=1\/k=2\/k=3) with rfl | rfl | rfl | rfl
 ·exact ⟨_,[],rfl,⟨nZ,λx hx=>by cases hx⟩,zkx w _ _⟩
 ·exact ⟨_,[-1],rfl,⟨by decide,λx hx=>by rw [List.mem_singleton.1 hx];omega⟩,zb9 z1 h1⟩
 ·exact ⟨_,[101],rfl,⟨by decide,λx hx=>by rw [List.mem_singleton.1 hx];omega⟩,zb9 z2 h2⟩
 ·exact ⟨_,[100],rfl,⟨by decide,λx hx=>by rw [List.mem_singleton.1 hx];omega⟩,zb9 z3 h3⟩
theorem zel (r B:Nat) (n:Int) (w:World) (h:Rd w r B) (hB:B<=900000) :
  Calls prog 63 #[.pointer (some ⟨r,0,none⟩),int i64 n] w λe w'=>∃ (v:Value) (l:List Int),e=.returned v/\z6y l/\z4M w' w.heap.size v l/\Rd w' r (B+20)/\Bk r w w':=by
 obtain ⟨i0,hi,hz0,hz1,hz2⟩:=info_parts zhI;have hr:=h.lt;have H:=O h;clear h;go_enter func63,ntmps63;go_wp2_with fail
 refine (zC _ B _ _ (H.out.alloc _) (by omega)).mono ?_;rintro e w2 ⟨m0,rfl,hm0,hR2,hb2⟩;obtain ⟨m1,m2⟩:=hm0 (by omega);obtain ⟨M,rfl⟩:=Int.eq_ofNat_of_zero_le m1;have O2:Hid (z7O w2 w.heap.size (.slice (some ⟨w.heap.size,0,none⟩) 0 0) []):=z7O.bk (l:=[]) (World.ownsRow_made (base:=w.heap.size) (e:=3) (size:=1) w #[] 0 lR nZ rfl) hb2 hr;have R2:=O hR2;have K2:=O (((Bk.refl r w).alloc (.cells #[] 3)).trans hb2);have hw1:IntKind.i64.wrap (1+(M:Int))=((M+1:Nat):Int):=(by rw [IntKind.wrap_i64];omega);clear hR2 hb2 hm0 m1;go_wp2_with fail
 go_loopw [5,6] (λo q W=>∃ (m:Nat) (l:List Int),q=int i64 m/\m+l.length<=5/\Hid (∀ x ∈ l,-1<=x/\x<=101)/\Hid (z7O W w.heap.size o l)/\Hid (Rd W r (B+1+l.length))/\Hid (Bk r w W)) (λ_ q _=>(intOf q).toNat)
 case atStart=>exact ⟨M+1,[],rfl,by simp;omega,λx hx=>(by cases hx),O2.out,R2.out,K2.out⟩
 case round =>
  clear O2 R2 K2 hw1;obtain ⟨m,l,rfl,hms,HS,HO,HR,HB⟩:=hrel;obtain ⟨oa,oc,rfl,_⟩:=zP HO.out;by_cases hm:0 < m
  case pos =>
   have hm':(0:Int) < (m:Int):=(by omega);have A1:=zj wr (.cells #[int i64 0,int i64 1,int i64 2,int i64 3,int i64 5,int i64 8,int i64 20] 3);have hwm:IntKind.i64.wrap ((m:Int) - 1)=((m - 1:Nat):Int):=(by rw [IntKind.wrap_i64];omega);go_wp2_with fail
   refine (zC _ _ _ _ (HR.out.alloc _) (by omega)).mono ?_;rintro e w4 ⟨k,rfl,hk7,hR4,hb4⟩;obtain ⟨ka,kb⟩:=hk7 (by omega);obtain ⟨v,hv,hvl⟩:=hi7 k ka kb;have A2:=(hb4.block wr.heap.size (by simp) (by have:=HR.out.lt;omega)).trans A1;have hc:w4.cell? ⟨wr.heap.size,k.toNat,none⟩=some (int i64 v):=(zf A2).trans hvl;have hK4:=(Bk.alloc (Bk.refl r wr) (.cells #[int i64 0,int i64 1,int i64 2,int i64 3,int i64 5,int i64 8,int i64 20] 3)).trans hb4;have hO4:=HO.out.bk hK4 hr;have hB4:=HB.out.trans hK4;have hsz:=hB4.size;have hO4':w4.ownsRow w.heap.size 3 1 (.slice oa l.length oc) l.length (l.map (Value.int .i64)):=hO4;clear A1 A2 hvl hk7 hb4 hK4;go_wp2_with (at_builtin;refine wpList_append_own _ rfl _ _ 27 rfl w.heap.size 3 i0 _ 1 8 underlying27 hi hz0 hz1 hz2 rfl (by decide) _ _ _ rfl (hO4'.alloc _) ⟨w4.heap.size,0,none⟩ 1 1 [int i64 v] rfl rfl (z0K (zj _ _)) (by simp [Value.oneCell']) (by unfold maxLen;omega) (by omega) (by simp;omega) ?_)
   intro v' w7 hown' hgrow' _;obtain ⟨hR7,hB7,hO7⟩:=zjY (x:=v) hr hO4 hR4 hB4 hgrow' hown';have HR7:Hid (Rd w7 r (B+1+(l ++ [v]).length)):=hR7.mono (by simp;omega);have HB7:=O hB7;have HO7:=O hO7;have HS7:=O (z6y.snoc HS.out hv);obtain ⟨g',cap',rfl⟩:=Joins.ownsRow_form hown' (by omega);have hms4:(m - 1)+(l ++ [v]).length<=5:=(by simp;omega);have HL:=O (by simp:(l ++ [v]).length=l.length+1);clear hown' hgrow' hO4 hO4' hB4 hR4 hR7 hB7 hO7;generalize l ++ [v]=l2 at *;go_wp2;go_roundw
   case rel=>exact ⟨m - 1,l2,by go_num,hms4,HS7,by first | exact HO7 | (rw [<-HL.out];exact HO7),HR7,HB7⟩
   case measure=>simp [intOf];omega
  obtain rfl:m=0:=by omega
  have HSm:Hid (z6y l):=O ⟨by omega,HS.out⟩;go_wp2_with fail
  refine (zC _ _ _ _ HR.out (by omega)).mono ?_;rintro e w4 ⟨k,rfl,hk7,hR4,hb4⟩;clear hk7;by_cases h0:k=0
  ·subst h0;go_wp2_with fail
   refine (zC _ _ _ _ (((((hR4.alloc _).alloc _).alloc _).alloc _).alloc _) (by omega)).mono ?_;rintro e w6 ⟨k,rfl,hk7,hR6,hb6⟩;obtain ⟨ka,kb⟩:=hk7 (by omega);have hr4:=hR4.lt;have n1:=z50 (x:=.cells #[.slice (some ⟨w4.heap.size,0,none⟩) 0 0,.slice (some ⟨w4.heap.size+1,0,none⟩) 1 1,.slice (some ⟨w4.heap.size+1+1,0,none⟩) 1 1,.slice (some ⟨w4.heap.size+1+1+1,0,none⟩) 1 1] 27) (z50 (x:=.cells #[int i64 100] 3) (z50 (x:=.cells #[int i64 101] 3) (z6Q (arr:=#[int i64 (-1)]) (t:=3) (show (w4.alloc (.cells #[] 3)).heap.size=w4.heap.size+1 by simp))));have n2:=z50 (x:=.cells #[.slice (some ⟨w4.heap.size,0,none⟩) 0 0,.slice (some ⟨w4.heap.size+1,0,none⟩) 1 1,.slice (some ⟨w4.heap.size+1+1,0,none⟩) 1 1,.slice (some ⟨w4.heap.size+1+1+1,0,none⟩) 1 1] 27) (z50 (x:=.cells #[int i64 100] 3) (z6Q (arr:=#[int i64 101]) (t:=3) (show ((w4.alloc (.cells #[] 3)).alloc (.cells #[int i64 (-1)] 3)).heap.size=w4.heap.size+1+1 by simp)));have n3:=z50 (x:=.cells #[.slice (some ⟨w4.heap.size,0,none⟩) 0 0,.slice (some ⟨w4.heap.size+1,0,none⟩) 1 1,.slice (some ⟨w4.heap.size+1+1,0,none⟩) 1 1,.slice (some ⟨w4.heap.size+1+1+1,0,none⟩) 1 1] 27) (z6Q (arr:=#[int i64 100]) (t:=3) (show (((w4.alloc (.cells #[] 3)).alloc (.cells #[int i64 (-1)] 3)).alloc (.cells #[int i64 101] 3)).heap.size=w4.heap.size+1+1+1 by simp));have n4:=z6Q (arr:=#[.slice (some ⟨w4.heap.size,0,none⟩) 0 0,.slice (some ⟨w4.heap.size+1,0,none⟩) 1 1,.slice (some ⟨w4.heap.size+1+1,0,none⟩) 1 1,.slice (some ⟨w4.heap.size+1+1+1,0,none⟩) 1 1]) (t:=27) (show ((((w4.alloc (.cells #[] 3)).alloc (.cells #[int i64 (-1)] 3)).alloc (.cells #[int i64 101] 3)).alloc (.cells #[int i64 100] 3)).heap.size=w4.heap.size+1+1+1+1 by simp);have m1:=(hb6.block _ (by simp) (by omega)).trans n1;have m2:=(hb6.block _ (by simp) (by omega)).trans n2;have m3:=(hb6.block _ (by simp) (by omega)).trans n3;have m4:=(hb6.block _ (by simp) (by omega)).trans n4;obtain ⟨v,l2,hvl,hs2,hI2⟩:=hi4 (b0:=w4.heap.size) (z:=w.heap.size) (by have:=HB.out.size;have:=hb4.size;omega) (by have:=HB.out.size;have:=hb4.size;omega) (by have:=HB.out.size;have:=hb4.size;omega) m1 m2 m3 k ka kb;have hc:w6.cell? ⟨w4.heap.size+1+1+1+1,k.toNat,none⟩=some v:=(zf m4).trans hvl;have HK:=O ((HB.out.trans hb4).trans ((((((Bk.refl r w4).alloc _).alloc _).alloc _).alloc _).alloc _ |>.trans hb6));have HR6:=O (hR6.mono (show B+1+l.length+1+1<=B+20 by omega));have HS2:=O hs2;have HI2:=O hI2;clear n1 n2 n3 n4 m1 m2 m3 m4 hvl hs2 hI2 hk7 hR6 hb6 hR4 hb4 HO HR HB;go_wp2;go_ret;exact ⟨v,l2,rfl,HS2.out,HI2.out,HR6.out,HK.out⟩
  ·have hne:(k == 0)=false:=beq_eq_false_iff_ne.2 h0;have HR4:=O (hR4.mono (show B+1+l.length+1<=B+20 by omega));have HK:=O (HB.out.trans hb4);have HI:=O (zhJ (HO.out.bk hb4 hr));clear hR4 hb4 h0 HO;go_wp2;go_ret;exact ⟨_,l,rfl,HSm.out,HI.out,HR4.out,HK.out⟩
theorem wd3 (k:Int) (h0:0<=k) (h1:k < 3):∃ v:Int,(-1<=v/\v<=301)/\(#[Value.int .i64 (-1),int i64 301,int i64 300]:Array Value)[k.toNat]?=some (int i64 v):=by
 rcases (by omega:k=0\/k=1\/k=2) with rfl | rfl | rfl
 ·exact ⟨-1,by omega,rfl⟩
 ·exact ⟨301,by omega,rfl⟩
 ·exact ⟨300,by omega,rfl⟩
theorem wd8 (x k:Int) (hx:0<=x/\x < 100) (h0:0<=k) (h1:k < 8):∃ v:Int,(-1<=v/\v<=301)/\(#[Value.int .i64 0,int i64 10,int i64 25,int i64 40,int i64 60,int i64 80,int i64 120,int i64 x]:Array Value)[k.toNat]?=some (int i64 v):=by
 rcases (by omega:k=0\/k=1\/k=2\/k=3\/k=4\/k=5\/k=6\/k=7) with rfl | rfl | rfl | rfl | rfl | rfl | rfl | rfl
 ·exact ⟨0,by omega,rfl⟩
 ·exact ⟨10,by omega,rfl⟩
 ·exact ⟨25,by omega,rfl⟩
 ·exact ⟨40,by omega,rfl⟩
 ·exact ⟨60,by omega,rfl⟩
 ·exact ⟨80,by omega,rfl⟩
 ·exact ⟨120,by omega,rfl⟩
 ·exact ⟨x,by omega,rfl⟩
theorem zci (r B:Nat) (n:Int) (w:World) (h:Rd w r B) (hB:B<=900000) :
  Calls prog 62 #[.pointer (some ⟨r,0,none⟩),int i64 n] w λe w'=>∃ x:Int,e=.returned (int i64 x)/\(-1<=x/\x<=301)/\Rd w' r (B+3)/\Bk r w w':=by
 have hlt:=h.lt;have HR:Hid (Rd w r B):=h;clear h;go_enter func62,ntmps62;go_wp2_with fail
 refine (zC r B _ _ HR.out (by omega)).mono ?_;rintro e w1 ⟨k1,rfl,hk1,hR1,hb1⟩;have hz1:=hb1.size;by_cases h0:k1=0
 ·subst h0;clear hk1;have A1:=z3A w1 (.cells #[int i64 (-1),int i64 301,int i64 300] 3);go_wp2_with fail
  refine (zC r (B+1) _ _ (hR1.alloc _) (by omega)).mono ?_;rintro e w2 ⟨k2,rfl,hk2,hR2,hb2⟩;obtain ⟨ka,kb⟩:=hk2 (by omega);obtain ⟨v,hv,hvl⟩:=wd3 k2 ka kb;have A2:=(hb2.block w1.heap.size (by simp) (by omega)).trans A1;have hc:w2.cell? ⟨w1.heap.size,k2.toNat,none⟩=some (int i64 v):=(zf A2).trans hvl;have HK:=O ((hb1.trans (Bk.alloc (Bk.refl _ _) _)).trans hb2);have HRr:=O (hR2.mono (show B+1+1<=B+3 by omega));clear A1 A2 hb1 hb2 hR1 hR2 hvl hk2;go_wp2;go_ret;exact ⟨v,rfl,hv,HRr.out,HK.out⟩
 ·have hne:(k1 == 0)=false:=beq_eq_false_iff_ne.2 h0;clear h0 hk1;go_wp2_with fail
  refine (zC r (B+1) _ _ hR1 (by omega)).mono ?_;rintro e w2 ⟨x,rfl,hx,hR2,hb2⟩;have hxb:=hx (by omega);have hz2:=hb2.size;have A1:=z3A w2 (.cells #[int i64 0,int i64 10,int i64 25,int i64 40,int i64 60,int i64 80,int i64 120,int i64 x] 3);go_wp2_with fail
  refine (zC r (B+2) _ _ (hR2.alloc _) (by omega)).mono ?_;rintro e w3 ⟨k3,rfl,hk3,hR3,hb3⟩;obtain ⟨ka,kb⟩:=hk3 (by omega);obtain ⟨v,hv,hvl⟩:=wd8 x k3 hxb ka kb;have A2:=(hb3.block w2.heap.size (by simp) (by omega)).trans A1;have hc:w3.cell? ⟨w2.heap.size,k3.toNat,none⟩=some (int i64 v):=(zf A2).trans hvl;have HK:=O (((hb1.trans hb2).trans (Bk.alloc (Bk.refl _ _) _)).trans hb3);have HRr:=O (hR3.mono (show B+2+1<=B+3 by omega));clear A1 A2 hb1 hb2 hb3 hR1 hR2 hR3 hvl hk3 hx;go_wp2;go_ret;exact ⟨v,rfl,hv,HRr.out,HK.out⟩
end
end Go.Proofs.YtggmjiddadjilahGreat
