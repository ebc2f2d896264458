/-
  PROVED HERE: a table that is owned, behind a write into one place of one of its cells. Also: 22 more texts of the same proof.
-/
import Derived.Test.YtggmjiddadjilalGreatB18
import Derived.Test.YtggmjiddadjilalGreatB17
set_option maxRecDepth 1000000
set_option maxHeartbeats 40000000
namespace Go.Proofs.YtggmjiddadjilalGreat
open Value (int)
open IntKind (i64)
section
open Go.RowKit
theorem z1z.put {w W9:World} {B D:Nat} {vc vr:Value} {cols:List (Int × Int)} {ur:List (Value × R)} (h:z1z w B D vc vr cols ur) (hb:Below w.heap.size w W9) {r a j:Nat} {p:Value × R} (hp:ur[r]?=some p) {g cap:Nat} (hpv:p.1=.slice (some ⟨g,0,none⟩) p.2.cells.length cap) (ha:a < p.2.cells.length) (hj:j < 11) {x:C} {v:Value} (hx:z01 x=(z01 p.2.cells[a]).set j v) :
  z1z (W9.setCell ⟨g,a * 11+j,none⟩ v) B D vc vr cols (ur.set r (p.1,⟨p.2.cells.set a x,p.2.whole⟩)):=by
 have h9:=h.kept hb;have hpm:p ∈ ur:=List.mem_of_getElem? hp;have hC:=h9.2.1.cells p hpm;rw [hpv] at hC;have hC2:=z0a.put hC ha hj hx;have hG:W9.grownBy (W9.setCell ⟨g,a * 11+j,none⟩ v) p.1.ownBlock:=(by rw [hpv];exact zcJ (zbF _ _) rfl _);have hR:=h9.2.1.upd hp (r:=⟨p.2.cells.set a x,p.2.whole⟩) rfl (by rw [hpv];simpa [z0a] using hC2) hG;refine ⟨?_,hR,h.2.2.1,h.2.2.2.1,fun q hq b e=>?_⟩
 ·have hne:=z1k h9.1 (h9.2.1.cells p hpm) (by decide);exact z05 h9.1 (Off.grown (b1:=none) (n:=0) hG) (Nat.zero_le _) (by rcases hb:vc.ownBlock with _ | b;exact .inl rfl;exact .inr (by simp)) hne
 ·rcases List.mem_or_eq_of_mem_set hq with hm | rfl
  ·exact h.2.2.2.2 q hm b e
  ·exact h.2.2.2.2 p hpm b e
theorem z1z.other {W W':World} {B D n:Nat} {vc vr:Value} {cols:List (Int × Int)} {ur:List (Value × R)} (h:z1z W B D vc vr cols ur) (hn:D<=n) (hk:∀ k,k ≠ n->W'.heap[k]?=W.heap[k]?):z1z W' B D vc vr cols ur:=by
 obtain ⟨h1,h2,h3,h4,h5⟩:=h
 have key:∀ {e:TypeId} {sz:Nat} {v:Value} {m:Nat} {xs:List Value},W.ownsRow B e sz v m xs->(∀ b,v.ownBlock=some b->b < D)->W'.ownsRow B e sz v m xs:=fun h hv=>by
  refine ⟨h.1,h.2.elim Or.inl (fun ⟨g,cap,cur,e,hg,hc,q⟩=>Or.inr ⟨g,cap,cur,e,hg,?_,q⟩)⟩;have hgD:g < D:=hv g (by rw [e];rfl);exact (hk g (by omega)).trans hc
 exact ⟨key h1 h3,⟨key h2.own h4,fun p hp=>key (h2.cells p hp) (h5 p hp),h2.apart⟩,h3,h4,h5⟩
theorem zaB {w W W':World} (h:Below w.heap.size w W) {n:Nat} (hn:w.heap.size<=n) (hk:∀ k,k ≠ n->W'.heap[k]?=W.heap[k]?) (hs:W'.heap.size=W.heap.size) (ho:W'.os=W.os) (ht:W'.tape=W.tape) (hu:W'.output=W.output):Below w.heap.size w W' :=
 ⟨ho.trans h.os,ht.trans h.tape,hu.trans h.output,by rw [hs];exact h.size,fun k h1=>(hk k (by omega)).trans (h.block k h1)⟩
theorem zbd {w:World} {B:Nat} {vr:Value} {ur:List (Value × R)} (h:zD w B vr ur) {r:Nat} {p:Value × R} (hp:ur[r]?=some p) {a:Nat} (ha:a < p.2.cells.length):∃ g cap cur,p.1=.slice (some ⟨g,0,none⟩) p.2.cells.length cap/\w.heap[g]?=some (.cells cur 36)/\p.2.cells.length<=cap/\cap<=maxLen/\cur.size=cap * 11:=by
 rcases (h.cells p (List.mem_of_getElem? hp)).2 with ⟨_,e⟩ | ⟨g,cap,cur,e,hg,hc,a1,a2,a3,_⟩
 ·omega
 ·exact ⟨g,cap,cur,e,hc,a1,a2,a3⟩
theorem z6J (ur:List (Value × R)) (r:Nat) (q:Value × R):(ur.set r q).map (·.2)=(ur.map (·.2)).set r q.2:=by simp
theorem z40 {w:World} {B D:Nat} {vc vr:Value} {cols:List (Int × Int)} {ur:List (Value × R)} (h:z1z w B D vc vr cols ur) {t:T} (hc:t.cols=cols) (hr:ur.map (·.2)=t.rows):z0M w B vc vr t:=⟨ur,hr,by rw [hc];exact h.1,h.2.1⟩
def zgt (t:T) (row at':Int):T × Bool :=
 if zq t=true then (if z32 t row at'=true then (z1A t row.toNat ((t.rows.getD row.toNat dR).cells.eraseIdx at'.toNat),true) else (t,false)) else (zT,false)
theorem zD.slice {w1:World} {base:Nat} {v:Value} {ur:List (Value × R)} {i g cap:Nat} (hv:v=.slice (some ⟨g,0,none⟩) ur.length cap) {p:Value × R} (hi:ur[i]?=some p) {u:Value} {r:R} (hw:r.whole=p.2.whole)
  (hR:w1.ownsRow base 32 2 v ur.length (ur.flatMap zG)) (hC:∀ j,j ≠ i->∀ q,ur[j]?=some q->z0a w1 base q.1 q.2.cells) (hc:z0a w1 base u r.cells)
  (ha:ur.Pairwise fun p q=>p.1.ownBlock=none\/p.1.ownBlock ≠ q.1.ownBlock) (hu:∀ j,j ≠ i->∀ q,ur[j]?=some q->q.1.ownBlock=none\/q.1.ownBlock ≠ u.ownBlock) :
  zD (w1.setCell ⟨g,i * 2,none⟩ u) base v (ur.set i (u,r)):=by
 have hil:i < ur.length:=(List.getElem?_eq_some_iff.1 hi).1;have ep:ur[i]=p:=(by rw [List.getElem?_eq_getElem hil] at hi;exact Option.some.inj hi);have hvg:v.ownBlock=some g:=(by rw [hv];rfl);have hS:Off 0 (some g) none w1 (w1.setCell ⟨g,i * 2,none⟩ u):=Off.set w1 ⟨g,i * 2,none⟩ rfl _;have hnn:∀ u:Value,u.ownBlock=none\/u.ownBlock ≠ none:=fun u=>by rcases hb:u.ownBlock with _ | b;exact .inl rfl;exact .inr (by simp)
 have hcw:∀ {x:Value} {cs:List C},z0a w1 base x cs->z0a (w1.setCell ⟨g,i * 2,none⟩ u) base x cs:=fun h=>by
  refine z05 h hS (Nat.zero_le _) ?_ (hnn _)
  rcases z1k h hR (by decide) with e | e
  ·exact .inl e
  ·exact .inr (by rw [<-hvg];exact e)
 refine ⟨?_,fun q hq=>?_,?_⟩
 ·rcases hR.2 with ⟨e,_⟩ | ⟨g',cap',cur,e,hg',hcur,a1,a2,a3,a4⟩
  ·rw [hv] at e;simp at e
  ·rw [hv] at e;simp only [Value.slice.injEq,Option.some.injEq,Addr.mk.injEq,and_true,true_and] at e;obtain ⟨rfl,rfl⟩:=e;refine ⟨by rw [z11 zG 2 (fun _=>rfl)],.inr ⟨g,cap,cur.setIfInBounds (i * 2) u,by rw [List.length_set];exact hv,hg',zM hcur _,by rw [List.length_set];exact a1,a2,by rw [Array.size_setIfInBounds];exact a3,?_⟩⟩;refine z4X zG 2 (fun _=>rfl) (ur.set i (u,r)) (cur.setIfInBounds (i * 2) u) (by rw [List.length_set,Array.size_setIfInBounds,a3];omega) (fun j hj0 m hm=>?_);have hj:j < ur.length:=(by rw [List.length_set] at hj0;exact hj0)
   have hold:cur[j * 2+m]?=(zG ur[j])[m]?:=by
    have e:=z0P zG 2 (fun _=>rfl) ur j hj m hm;rw [<-a4,List.getElem?_take_of_lt (by omega),Array.getElem?_toList] at e;exact e
   by_cases hji:j=i
   ·subst hji;rw [List.getElem_set_self]
    match m,hm with
    | 0,_ =>
     rw [Nat.add_zero,Array.getElem?_setIfInBounds_self_of_lt (by rw [a3];omega)];rfl
    | 1,_ =>
     rw [Array.getElem?_setIfInBounds_ne (by omega),hold,ep];show some (Value.bool p.2.whole)=some (Value.bool r.whole);rw [hw]
   ·rw [List.getElem_set_ne (by omega),Array.getElem?_setIfInBounds_ne (by omega)];exact hold
 ·obtain ⟨j,hj0,rfl⟩:=List.mem_iff_getElem.1 hq;have hj:j < ur.length:=(by rw [List.length_set] at hj0;exact hj0);by_cases hji:j=i
  ·subst hji;rw [List.getElem_set_self];exact hcw hc
  ·rw [List.getElem_set_ne (by omega)];exact hcw (hC j hji _ (List.getElem?_eq_getElem hj))
 ·rw [List.pairwise_iff_getElem] at ha |-;intro x y hx0 hy0 hxy;have hx:x < ur.length:=(by rw [List.length_set] at hx0;exact hx0);have hy:y < ur.length:=(by rw [List.length_set] at hy0;exact hy0);by_cases hxi:x=i
  ·subst hxi;rw [List.getElem_set_self,List.getElem_set_ne (by omega)]
   rcases hb:u.ownBlock with _ | b
   ·exact .inl rfl
   ·refine .inr (fun e=>?_)
    rcases hu y (by omega) _ (List.getElem?_eq_getElem hy) with h1 | h1
    ·rw [h1] at e;cases e
    ·exact h1 (e.symm.trans hb.symm)
  ·by_cases hyi:y=i
   ·subst hyi;rw [List.getElem_set_self,List.getElem_set_ne (by omega)];exact hu x (by omega) _ (List.getElem?_eq_getElem hx)
   ·rw [List.getElem_set_ne (by omega),List.getElem_set_ne (by omega)];exact ha x y hx hy hxy
theorem z1z.take {w W9:World} {B D:Nat} {vc vr:Value} {cols:List (Int × Int)} {ur:List (Value × R)} (h:z1z w B D vc vr cols ur) {r g cg:Nat} (hv:vr=.slice (some ⟨g,0,none⟩) ur.length cg) {p:Value × R} (hp:ur[r]?=some p) {b:Nat} (hpb:p.1.ownBlock=some b) (hG:w.grownBy W9 (some b)) {u:Value} {cs:List C} (hub:u.ownBlock=some b) (hc:z0a W9 B u cs) :
  z1z (W9.setCell ⟨g,r * 2,none⟩ u) B D vc vr cols (ur.set r (u,⟨cs,p.2.whole⟩)):=by
 have hpm:p ∈ ur:=List.mem_of_getElem? hp;have hrl:r < ur.length:=(List.getElem?_eq_some_iff.1 hp).1;have ep:ur[r]=p:=(by rw [List.getElem?_eq_getElem hrl] at hp;exact Option.some.inj hp);have hnn:∀ u:Value,u.ownBlock=none\/u.ownBlock ≠ none:=fun u=>by rcases hb:u.ownBlock with _ | b;exact .inl rfl;exact .inr (by simp)
 have hG':w.grownBy W9 p.1.ownBlock:=(by rw [hpb];exact hG);have K1:Off 0 none p.1.ownBlock w W9:=Off.grown hG';have hR:=z05 h.2.1.own K1 (Nat.zero_le _) (hnn vr) (z1k h.2.1.own (h.2.1.cells p hpm) (by decide))
 have hap:∀ j,j ≠ r->∀ q,ur[j]?=some q->q.1.ownBlock=none\/q.1.ownBlock ≠ p.1.ownBlock:=fun j hj q hq=>by
  have hjl:j < ur.length:=(List.getElem?_eq_some_iff.1 hq).1;have eq:ur[j]=q:=(by rw [List.getElem?_eq_getElem hjl] at hq;exact Option.some.inj hq);have hpw:=List.pairwise_iff_getElem.1 h.2.1.apart
  rcases Nat.lt_or_gt_of_ne hj with hl | hl
  ·rw [<-ep,<-eq];exact hpw j r hjl hrl hl
  ·have:=hpw r j hrl hjl hl;rw [ep,eq] at this
   rcases hb:q.1.ownBlock with _ | b'
   ·exact .inl rfl
   ·refine .inr (fun e=>?_)
    rcases this with e1 | e1
    ·rw [e1] at e;cases e
    ·exact e1 (e.symm.trans hb.symm)
 have hC:∀ j,j ≠ r->∀ q,ur[j]?=some q->z0a W9 B q.1 q.2.cells:=fun j hj q hq=>z05 (h.2.1.cells q (List.mem_of_getElem? hq)) K1 (Nat.zero_le _) (hnn _) (hap j hj q hq);have hO:=zD.slice (r:=⟨cs,p.2.whole⟩) hv hp rfl hR hC hc h.2.1.apart (fun j hj q hq=>by rw [hub,<-hpb];exact hap j hj q hq);have hgB:vr.ownBlock=some g:=(by rw [hv];rfl);refine ⟨?_,hO,h.2.2.1,h.2.2.2.1,fun q hq b' e=>?_⟩
 ·have c1:=z05 h.1 K1 (Nat.zero_le _) (hnn vc) (z1k h.1 (h.2.1.cells p hpm) (by decide));have hS:Off 0 (some g) none W9 (W9.setCell ⟨g,r * 2,none⟩ u):=Off.set W9 ⟨g,r * 2,none⟩ rfl _;refine z05 c1 hS (Nat.zero_le _) ?_ (hnn _)
  rcases z1k c1 hR (by decide) with e | e
  ·exact .inl e
  ·exact .inr (by rw [<-hgB];exact e)
 ·rcases List.mem_or_eq_of_mem_set hq with hm | rfl
  ·exact h.2.2.2.2 q hm b' e
  ·rw [hub] at e;exact h.2.2.2.2 p hpm b' (by rw [hpb];exact e)
theorem zaC (ac ar:Option Addr) (cc cr:Nat) (t:T) (row:Int) (hrow:-9223372036854775808<=row/\row<=9223372036854775807) (w:World) {z:Nat} (hr:zJ w z (.slice ar t.rows.length cr) t.rows) :
  Calls Tryz.prog 51 #[.agg #[.slice ac t.cols.length cc,int i64 t.head,int i64 t.foot,.slice ar t.rows.length cr,int i64 t.gap],int i64 row] w fun e w'=>e=.returned (int i64 (z1c t row))/\Below w.heap.size w w':=by
 obtain ⟨_,_,_,hlen⟩:=At.form hr;unfold maxLen at hlen;have K0:=ze (Below.refl w.heap.size w) (.cells #[.slice ac t.cols.length cc,int i64 t.head,int i64 t.foot,.slice ar t.rows.length cr,int i64 t.gap] 26);have HK:=Hd K0;have HR:=Hd (hr.kept K0);have HX:=Hd (zk w (.cells #[.slice ac t.cols.length cc,int i64 t.head,int i64 t.foot,.slice ar t.rows.length cr,int i64 t.gap] 26));have HV:Hid (z1c t row=if inB row 0 ((t.rows.length:Int) - 1)=true then ((t.rows.getD row.toNat dR).cells.length:Int) else -1):=rfl;clear hr K0;have HI:=Hd (fun W=>zA row 0 ((t.rows.length:Int) - 1) W);by_cases hin:inB row 0 ((t.rows.length:Int) - 1)=true
 ·have hv:=HV.out;rw [if_pos hin] at hv;rw [hin] at HI;obtain ⟨r,rfl⟩:∃ r:Nat,row=r:=⟨row.toNat,by simp only [inB,decide_eq_true_eq] at hin;omega⟩;have hrl:r < t.rows.length:=(by simp only [inB,decide_eq_true_eq] at hin;omega);rw [Int.toNat_natCast] at hv;obtain ⟨b,off,cap',e',hc1,hc2,hbl,u,hx0,hx1,hx⟩:=At.get HR.out hrl;simp only [Value.slice.injEq,true_and] at e';obtain ⟨rfl,rfl⟩:=e';obtain ⟨au,cu,rfl,hul⟩:=At.form hx;have Hv:=Hd hv;generalize (t.rows.getD r dR).cells.length=m at hx0 Hv hul;unfold maxLen at hc2 hul;clear hv HV hin hx hx1;go_enter Tryz.func51,Tryz.ntmps51;go_upto_region 1 with fail
  generalize w.alloc (.cells #[.slice ac t.cols.length cc,int i64 t.head,int i64 t.foot,.slice (some ⟨b,off,none⟩) t.rows.length cr,int i64 t.gap] 26)=W0 at HK HR HX hx0 hbl |-;have z3:=zf (p:=3) HX.out;go_wp2_with fail
  refine (HI.out _).mono ?_;rintro e w1 ⟨rfl,e1⟩;subst e1;go_wp2;go_ret;exact ⟨by rw [Hv.out];rfl,HK.out⟩
 ·have hv:=HV.out;rw [if_neg hin] at hv;rw [Bool.eq_false_iff.2 hin] at HI;have Hv:=Hd hv;clear hv HV hin;go_enter Tryz.func51,Tryz.ntmps51;go_upto_region 1 with fail
  generalize w.alloc (.cells #[.slice ac t.cols.length cc,int i64 t.head,int i64 t.foot,.slice ar t.rows.length cr,int i64 t.gap] 26)=W0 at HK HR HX |-;have z3:=zf (p:=3) HX.out;go_wp2_with fail
  refine (HI.out _).mono ?_;rintro e w1 ⟨rfl,e1⟩;subst e1;go_wp2;go_ret;exact ⟨by rw [Hv.out];rfl,HK.out⟩
theorem z9a (t:T) (row:Int) (h:∀ r ∈ t.rows,r.cells.length<=1048576):-1<=z1c t row/\z1c t row<=1048576:=by
 unfold z1c
 split
 ·rename_i hin
  have hl:row.toNat < t.rows.length:=(by simp only [inB,decide_eq_true_eq] at hin;omega);have:=h _ (List.getElem_mem hl);rw [zI dR hl];omega
 ·omega
theorem zaD (ac ar:Option Addr) (cc cr:Nat) (t:T) (row at':Int) (hrow:-9223372036854775808<=row/\row<=9223372036854775807) (hcs:∀ r ∈ t.rows,r.cells.length<=1048576) (w:World) {z:Nat} (hr:zJ w z (.slice ar t.rows.length cr) t.rows) :
  Calls Tryz.prog 28 #[.agg #[.slice ac t.cols.length cc,int i64 t.head,int i64 t.foot,.slice ar t.rows.length cr,int i64 t.gap],int i64 row,int i64 at'] w fun e w'=>e=.returned (.bool (z32 t row at'))/\Below w.heap.size w w':=by
 have K0:=ze (Below.refl w.heap.size w) (.cells #[.slice ac t.cols.length cc,int i64 t.head,int i64 t.foot,.slice ar t.rows.length cr,int i64 t.gap] 26);have HK:=Hd K0;have HX:=Hd (zk w (.cells #[.slice ac t.cols.length cc,int i64 t.head,int i64 t.foot,.slice ar t.rows.length cr,int i64 t.gap] 26));have KC:=Hd (zaC ac ar cc cr t row hrow _ (hr.kept K0));have hcb:=z9a t row hcs;have HI:=Hd (fun W=>zA at' 0 (z1c t row - 1) W);have HV:Hid (z32 t row at'=inB at' 0 (z1c t row - 1)):=rfl;clear hr K0 hcs;go_enter Tryz.func28,Tryz.ntmps28;go_upto_region 1 with fail
 generalize w.alloc (.cells #[.slice ac t.cols.length cc,int i64 t.head,int i64 t.foot,.slice ar t.rows.length cr,int i64 t.gap] 26)=W0 at HK HX KC |-;obtain ⟨z0,z1,z2,z3,z4⟩:=zy HX.out;generalize z1c t row=cv at KC hcb HI HV;go_wp2_with fail
 refine KC.out.mono ?_;rintro e w1 ⟨rfl,hb1⟩;have HB1:=Hd (zg HK.out hb1);clear hb1 z0 z1 z2 z3 z4;go_wp2_with fail
 refine (HI.out _).mono ?_;rintro e w2 ⟨rfl,e2⟩;subst e2;go_wp2;go_ret;exact ⟨by rw [HV.out];rfl,HB1.out⟩
def plB (t:T) (row at':Int):Bool:=inB at' 0 (z1c t row) && decide (z1c t row < 5)
def zge (cs:List C) (a:Nat) (x:C):List C:=cs.take a ++ x :: cs.drop a
def zgx (t:T) (row at':Int) (x:C):T × Bool :=
 if zq t=true then (if (cB x && plB t row at')=true then (z1A t row.toNat (zge (t.rows.getD row.toNat dR).cells at'.toNat x),true) else (t,false)) else (zT,false)
def zdG (w:World) (B n:Nat) (vc vr:Value) (cols:List (Int × Int)) (ur:List (Value × R)):Prop :=
 zO w B vc cols/\zD w B vr ur/\vc.ownBlock ≠ some n/\vr.ownBlock ≠ some n/\∀ q ∈ ur,q.1.ownBlock ≠ some n
theorem zdG.other {W W':World} {B n:Nat} {vc vr:Value} {cols:List (Int × Int)} {ur:List (Value × R)} (h:zdG W B n vc vr cols ur) (hk:∀ k,k ≠ n->W'.heap[k]?=W.heap[k]?):zdG W' B n vc vr cols ur:=by
 obtain ⟨h1,h2,h3,h4,h5⟩:=h
 have key:∀ {e:TypeId} {sz:Nat} {v:Value} {m:Nat} {xs:List Value},W.ownsRow B e sz v m xs->v.ownBlock ≠ some n->W'.ownsRow B e sz v m xs:=fun h hv=>by
  refine ⟨h.1,h.2.elim Or.inl (fun ⟨g,cap,cur,e,hg,hc,q⟩=>Or.inr ⟨g,cap,cur,e,hg,?_,q⟩)⟩;exact (hk g (fun e'=>hv (by rw [e,e'];rfl))).trans hc
 exact ⟨key h1 h3,⟨key h2.own h4,fun p hp=>key (h2.cells p hp) (h5 p hp),h2.apart⟩,h3,h4,h5⟩
theorem zbG (t:T) (r:Nat) (cs:List C):(z1A t r cs).rows.length=t.rows.length:=by simp [z1A]
def z41 (s:ByteArray):Nat:=if zC s=true then s.size else 0
theorem z8I (s:ByteArray):z41 s<=30:=by
 unfold z41
 split
 ·rename_i h
  exact ((z1u s).1 h).1
 ·omega
abbrev z07:=Nat × Nat × Int
def z0D (up:List Int) (h:Int) (c:z07):Int:=if c.1+c.2.1=up.length+1 then max h (c.2.2 - (up.sum - zx up c.1)) else h
def z9Z (up:List Int) (cs:List z07):Int:=cs.foldl (z0D up) 0
def zF (cs:List z07):Nat->List Int
 | 0=>[]
 | k+1=>zF cs k ++ [z9Z (zF cs k) cs]
theorem z00 (cs:List z07):∀ k,(zF cs k).length=k
 | 0=>rfl
 | k+1=>by rw [zF,List.length_append,z00 cs k];rfl
theorem z5D (cs:List z07) {k:Nat}:∀ n,k<=n->(zF cs n).take k=zF cs k
 | 0,h=>by
  have:k=0:=(by omega);subst this;rfl
 | n+1,h=>by
  rcases Nat.lt_or_ge n k with h1 | h1
  ·have:k=n+1:=(by omega);subst this;exact List.take_of_length_le (by rw [z00];omega)
  ·rw [zF,List.take_append_of_le_length (by rw [z00];exact h1)];exact z5D cs n h1
theorem z6d (cs:List z07) {k n:Nat} (h:k < n):(zF cs n).getD k 0=z9Z (zF cs k) cs:=by
 have h1:=z5D cs n (show k+1<=n by omega)
 have h2:(zF cs n).getD k 0=((zF cs n).take (k+1)).getD k 0:=by
  simp [List.getD_eq_getElem?_getD]
 rw [h2,h1,zF,List.getD_eq_getElem?_getD,List.getElem?_append_right (by rw [z00];omega),z00];simp
theorem z5E (cs:List z07) {k n:Nat} (h:k<=n):zx (zF cs n) k=(zF cs k).sum:=by
 rw [zx,z5D cs n h]
theorem z8P (cs:List z07) {j k n:Nat} (h:j<=k) (h1:k<=n):zx (zF cs k) j=zx (zF cs n) j:=by
 rw [z5E cs h,z5E cs (by omega:j<=n)]
theorem zeT (up:List Int) (h:Int) (c:z07):h<=z0D up h c:=by
 unfold z0D
 split <;> omega
theorem z6u (up:List Int):∀ (cs:List z07) (h:Int),h<=cs.foldl (z0D up) h
 | [],h=>Int.le_refl h
 | c :: cs,h=>Int.le_trans (zeT up h c) (z6u up cs _)
theorem za0 (up:List Int):∀ (cs:List z07) (h:Int) {c:z07},c ∈ cs->c.1+c.2.1=up.length+1->c.2.2 - (up.sum - zx up c.1)<=cs.foldl (z0D up) h
 | [],_,_,hc,_=>by cases hc
 | d :: cs,h,c,hc,he=>by
  rcases List.mem_cons.mp hc with rfl | h1
  ·have h2:=z6u up cs (z0D up h c)
   have h3:c.2.2 - (up.sum - zx up c.1)<=z0D up h c:=by
    unfold z0D;rw [if_pos he];omega
   exact Int.le_trans h3 h2
  ·exact za0 up cs _ h1 he
theorem z6e (up:List Int):∀ (cs:List z07) (h:Int),cs.foldl (z0D up) h=h\/∃ c ∈ cs,c.1+c.2.1=up.length+1/\cs.foldl (z0D up) h=c.2.2 - (up.sum - zx up c.1)
 | [],_=>.inl rfl
 | d :: cs,h=>by
  rw [List.foldl_cons]
  rcases z6e up cs (z0D up h d) with h1 | ⟨c,hc,he,h1⟩
  ·rw [h1];by_cases he:d.1+d.2.1=up.length+1
   ·rcases Int.le_total h (d.2.2 - (up.sum - zx up d.1)) with h2 | h2
    ·refine .inr ⟨d,List.mem_cons_self ..,he,?_⟩;unfold z0D;rw [if_pos he];omega
    ·refine .inl ?_;unfold z0D;rw [if_pos he];omega
   ·refine .inl ?_;unfold z0D;rw [if_neg he]
  ·exact .inr ⟨c,List.mem_cons_of_mem _ hc,he,h1⟩
theorem z8Q (up:List Int):∀ (cs:List z07) (h:Int),(∀ c ∈ cs,up.length < c.1/\1<=c.2.1)->cs.foldl (z0D up) h=h
 | [],_,_=>rfl
 | d :: cs,h,hl=>by
  have h1:=hl d (List.mem_cons_self ..)
  have h2:z0D up h d=h:=by
   unfold z0D;rw [if_neg (by omega)]
  rw [List.foldl_cons,h2];exact z8Q up cs h (fun c hc=>hl c (List.mem_cons_of_mem _ hc))
theorem za1 (up:List Int) {M:Int}:∀ (cs:List z07) (h:Int),(∀ c ∈ cs,c.2.2 - (up.sum - zx up c.1)<=M)->h<=M->cs.foldl (z0D up) h<=M:=fun cs h hl hh=>by
 rcases z6e up cs h with h1 | ⟨c,hc,_,h1⟩
 ·rw [h1];exact hh
 ·rw [h1];exact hl c hc
theorem zeU (up:List Int) (cs:List z07):0<=z9Z up cs:=z6u up cs 0
theorem z4z (cs:List z07):∀ n,∀ x ∈ zF cs n,0<=x
 | 0,_,h=>by cases h
 | n+1,x,h=>by
  rcases List.mem_append.mp (by rw [zF] at h;exact h) with h1 | h1
  ·exact z4z cs n x h1
  ·rw [List.mem_singleton.mp h1];exact zeU ..
theorem z7B:∀ {l:List Int},(∀ x ∈ l,0<=x)->0<=l.sum
 | [],_=>Int.le_refl 0
 | y :: l,h=>by
  rw [List.sum_cons];have h1:=h y (List.mem_cons_self ..);have h2:=z7B (l:=l) (fun x hx=>h x (List.mem_cons_of_mem _ hx));omega
theorem z89 {l:List Int} (h:∀ x ∈ l,0<=x) (k:Nat):0<=l.sum - zx l k:=by
 have h1:l.sum=(l.take k).sum+(l.drop k).sum:=(by rw [<-List.sum_append,List.take_append_drop]);have h2:=z7B (l:=l.drop k) (fun x hx=>h x (List.mem_of_mem_drop hx));rw [zx];omega
theorem z71 {M:Int} (hM:0<=M) (cs:List z07) (hc:∀ c ∈ cs,c.2.2<=M):∀ n,∀ x ∈ zF cs n,x<=M
 | 0,_,h=>by cases h
 | n+1,x,h=>by
  rcases List.mem_append.mp (by rw [zF] at h;exact h) with h1 | h1
  ·exact z71 hM cs hc n x h1
  ·rw [List.mem_singleton.mp h1];refine za1 _ cs 0 (fun c h2=>?_) hM;have h3:=z89 (z4z cs n) c.1;have h4:=hc c h2;omega
theorem zcP {cs:List z07} {n:Nat} {c:z07} (hc:c ∈ cs) (h1:1<=c.2.1) (h2:c.1+c.2.1<=n):c.2.2<=zx (zF cs n) (c.1+c.2.1) - zx (zF cs n) c.1:=by
 obtain ⟨k,hk⟩:∃ k,c.1+c.2.1=k+1:=⟨c.1+c.2.1 - 1,by omega⟩;have h3:=za0 (zF cs k) cs 0 hc (by rw [z00];exact hk);rw [hk,z0E (by rw [z00];omega),z6d cs (by omega),z5E cs (by omega:k<=n)];rw [z8P cs (by omega:c.1<=k) (by omega:k<=n)] at h3;unfold z9Z;omega
theorem zcQ {cs:List z07} (hp:∀ c ∈ cs,1<=c.2.1) {n k:Nat} (h:k < n):(zF cs n).getD k 0=0\/∃ c ∈ cs,c.1+c.2.1=k+1/\zx (zF cs n) (k+1) - zx (zF cs n) c.1=c.2.2:=by
 rw [z6d cs h]
 rcases z6e (zF cs k) cs 0 with h1 | ⟨c,hc,he,h1⟩
 ·exact .inl h1
 ·refine .inr ⟨c,hc,by rw [z00] at he;exact he,?_⟩;rw [z00] at he;have h4:=hp c hc;rw [z0E (by rw [z00];exact h),z6d cs h,z5E cs (by omega:k<=n)];rw [z8P cs (by omega:c.1<=k) (by omega:k<=n)] at h1;unfold z9Z;omega
theorem zdP (h n s:Int):h+max 0 (n - (s+h))=max h (n - s):=by omega
def eS:ByteArray:=ByteArray.empty
def z1X (w:World) (B:Nat) (v:Value) (l:List ByteArray):Prop :=
 (v=.slice none 0 0/\l=[])\/∃ g cap cur,v=.slice (some ⟨g,0,none⟩) l.length cap/\B<=g/\w.heap[g]?=some (.cells cur 9 (0,0))/\l.length<=cap/\cap<=maxLen/\cur.size=cap/\∀ i,i < l.length->cur[i]?=some (.string (l.getD i eS))
theorem z1X.of_owns {w:World} {B:Nat} {v:Value} {l:List ByteArray} (h:w.ownsRow B 9 1 v l.length (l.map Value.string)):z1X w B v l:=by
 rcases h.2 with ⟨hv,h0⟩ | ⟨g,cap,cur,hv,hb,hg,h1,h2,h3,h4⟩
 ·exact .inl ⟨hv,List.eq_nil_of_length_eq_zero h0⟩
 ·refine .inr ⟨g,cap,cur,hv,hb,hg,h1,h2,by omega,fun i hi=>?_⟩;have:cur.toList[i]?=(l.map Value.string)[i]?:=(by rw [<-h4,List.getElem?_take_of_lt (by omega)]);rw [<-Array.getElem?_toList,this];simp [List.getD,hi]
theorem z1X.below {w w':World} {B C:Nat} {v:Value} {l:List ByteArray} (h:z1X w B v l) (k:Below C w w') (hC:w.heap.size<=C):z1X w' B v l:=by
 rcases h with h | ⟨g,cap,cur,hv,hb,hg,r⟩
 ·exact .inl h
 ·exact .inr ⟨g,cap,cur,hv,hb,(k.block g (Nat.lt_of_lt_of_le (bL hg) hC)).trans hg,r⟩
theorem z1X.base {w:World} {B B':Nat} {v:Value} {l:List ByteArray} (h:z1X w B v l) (hB:B'<=B):z1X w B' v l:=by
 rcases h with h | ⟨g,cap,cur,hv,hb,r⟩
 ·exact .inl h
 ·exact .inr ⟨g,cap,cur,hv,Nat.le_trans hB hb,r⟩
theorem z5R {w w':World} {base size n:Nat} {e:TypeId} {v:Value} {xs:List Value} (h:w.ownsRow base e size v n xs) (hb:Below w.heap.size w w'):w'.ownsRow base e size v n xs :=
 ⟨h.1,h.2.elim Or.inl (fun ⟨g,cap,cur,hv,hg,hc,r⟩=>Or.inr ⟨g,cap,cur,hv,hg,(hb.block g (bL hc)).trans hc,r⟩)⟩
theorem z1X.form {w:World} {B:Nat} {v:Value} {l:List ByteArray} (h:z1X w B v l):∃ a cap,v=.slice a l.length cap:=by
 rcases h with ⟨rfl,rfl⟩ | ⟨g,cap,cur,hv,_⟩
 ·exact ⟨none,0,rfl⟩
 ·exact ⟨_,_,hv⟩
theorem z1X.get {w:World} {B:Nat} {v:Value} {l:List ByteArray} (h:z1X w B v l) {i:Nat} (hi:i < l.length) :
  ∃ g cap,v=.slice (some ⟨g,0,none⟩) l.length cap/\B<=g/\g < w.heap.size/\l.length<=cap/\cap<=maxLen/\w.cell? ⟨g,i,none⟩=some (.string (l.getD i eS))/\w.frozen? ⟨g,i,none⟩=false:=by
 rcases h with ⟨_,rfl⟩ | ⟨g,cap,cur,hv,hb,hg,h1,h2,h3,h4⟩
 ·cases hi
 ·exact ⟨g,cap,hv,hb,(bL hg),h1,h2,(zf hg).trans (h4 i hi),zr hg⟩
theorem z1X.set {w:World} {B g cap n:Nat} {l:List ByteArray} (h:z1X w B (.slice (some ⟨g,0,none⟩) n cap) l) {i:Nat} (hi:i < l.length) (x:ByteArray):z1X (w.setCell ⟨g,i,none⟩ (.string x)) B (.slice (some ⟨g,0,none⟩) n cap) (l.set i x):=by
 rcases h with ⟨hv,_⟩ | ⟨g',cap',cur,hv,hb,hg,h1,h2,h3,h4⟩
 ·simp at hv
 ·simp only [Value.slice.injEq,Option.some.injEq,Addr.mk.injEq,and_true] at hv;obtain ⟨rfl,rfl,rfl⟩:=hv;refine .inr ⟨g,cap,cur.setIfInBounds i (.string x),by simp,hb,zM hg _,by simpa using h1,h2,by simpa using h3,fun j hj=>?_⟩;rw [List.length_set] at hj;by_cases e:i=j
  ·subst e;simp [List.getD,hj,show i < cur.size by omega]
  ·rw [Array.getElem?_setIfInBounds_ne e,h4 j hj];simp [List.getD,e]
def dS:ByteArray:=ByteArray.empty
def z1Y (w:World) (z:Nat) (v:Value) (ss:List ByteArray):Prop:=At w z v ss.length 1 (fun i b o=>w.cell? ⟨b,o,none⟩=some (.string (ss.getD i dS))/\(ss.getD i dS).size<=maxLen)
theorem z1Y.since {w w':World} {z:Nat} {v:Value} {ss:List ByteArray} (h:z1Y w z v ss) (k:zi z w w'):z1Y w' z v ss :=
 At.mono h k.size (Nat.le_refl _) (fun _ _ _ _ hb hz he=>⟨(k.cell hz hb _).trans he.1,he.2⟩)
theorem z1Y.kept {w w':World} {z:Nat} {v:Value} {ss:List ByteArray} (h:z1Y w z v ss) (k:Below w.heap.size w w'):z1Y w' z v ss:=h.since (.of_below k)
def zgf (ss:List ByteArray) (k:Nat):Nat:=((ss.take k).map (fun x=>x.size)).sum
def zgJ (ss:List ByteArray):Nat:=ss.length+zgf ss ss.length
def zfx (ss:List ByteArray):Nat->ByteArray
 | 0=>⟨#[]⟩
 | k+1=>if k=0 then ss.getD 0 dS else zfx ss k ++ ⟨#[32]⟩ ++ ss.getD k dS
theorem zbN (v:Value) (l:List Int) (w:World) (h:z0g w v l) :
  Calls Tryz.prog 83 #[v] w fun e w'=>e=.returned (int i64 (wrap64 l.sum))/\w'=w:=by
 obtain ⟨a,cap,rfl,hlen⟩:=h.form;have H:=Hd h;clear h;go_enter Tryz.func83,Tryz.ntmps83;go_wp2_with fail
 go_loop [3,8] (fun s i=>∃ k:Nat,k<=l.length/\i=int i64 k/\s=int i64 (wrap64 (zx l k))) (fun _ i=>l.length - (intOf i).toNat)
 case atStart=>exact ⟨0,Nat.zero_le _,rfl,by simp [zx,z9o]⟩
 case round =>
  obtain ⟨k,hk,rfl,rfl⟩:=hrel;by_cases hlt:k < l.length
  ·obtain ⟨b,off,cap',e',hc1,hc2,hbl,hx⟩:=H.out.get hlt;simp only [Value.slice.injEq,true_and] at e';obtain ⟨rfl,rfl⟩:=e';have HS:Hid (wrap64 (wrap64 (zx l k)+l.getD k 0)=wrap64 (zx l (k+1))):=(by rw [Hid,z0E hlt,zcc]);generalize l.getD k 0=x at hx HS;generalize wrap64 (zx l k)=s at HS |-;unfold maxLen at hc2;go_wp2
   go_round
   case rel=>exact ⟨k+1,by omega,by go_num,by rw [<-HS.out]⟩
   case measure=>simp [intOf];omega
  ·obtain rfl:k=l.length:=by omega
   have HE:=Hd (z12 l);go_wp2;go_ret;exact ⟨by rw [<-HE.out];rfl,rfl⟩
theorem z47 (v:Value) (l:List Int) (gap:Int) (w:World) (h:z0g w v l) :
  Calls Tryz.prog 67 #[v,int i64 gap] w fun e w'=>e=.returned (int i64 (z1F l gap))/\w'=w:=by
 obtain ⟨a,cap,rfl,hlen⟩:=h.form;have H:=Hd h;clear h;by_cases h0:l.length=0
 ·have HV:=Hd (zdq h0 gap);rw [h0] at H |-;clear h0;go_enter Tryz.func67,Tryz.ntmps67;go_wp2;go_ret;exact ⟨by rw [HV.out];rfl,rfl⟩
 ·have HV:Hid (z1F l gap=wrap64 (wrap64 l.sum+wrap64 (gap * ((l.length:Int) - 1)))):=(by rw [Hid,z3W h0,zcc,zfn]);have h0':((l.length:Int) == 0)=false:=beq_eq_false_iff_ne.2 (by omega);have KS:=Hd (zbN _ l w H.out);go_enter Tryz.func67,Tryz.ntmps67;go_wp2_with fail
  refine KS.out.mono ?_;rintro e w1 ⟨rfl,rfl⟩;go_wp2;go_ret;exact ⟨by rw [HV.out];rfl,rfl⟩
theorem zcS {a b:Bool} (h:a=b):Ending.returned (.bool a)=.returned (.bool b):=by rw [h]
def zgK (row ins:Int) (x:GC):Bool:=(x.row == row) && (x.ins == ins)
def z27 (x first many:Int):Bool:=decide (first<=x) && decide (0 < many) && decide (x - first < many)
def zgu (row col:Int) (x:GC):Bool:=z27 row x.row x.rows && z27 col x.col x.cols
theorem zdV {x f:Int} (hx:-9223372036854775808<=x/\x<=9223372036854775807) (hf:-9223372036854775808<=f/\f<=9223372036854775807) (h:f<=x):IntKind.u64.wrap (IntKind.u64.wrap x - IntKind.u64.wrap f)=x - f:=by
 simp [IntKind.wrap,IntKind.bits,IntKind.signed];omega
theorem zaF (x f m:Int) (hx:I64 x) (hf:I64 f) (hm:I64 m) (w:World) :
  Calls Tryz.prog 77 #[int i64 f,int i64 m,int i64 x] w fun e w'=>e=.returned (.bool (z27 x f m))/\w'=w:=by
 unfold I64 at hx hf hm;by_cases h1:f<=x
 ·by_cases h2:0 < m
  ·have e:z27 x f m=decide (x - f < m):=(by simp [z27];omega);rw [e];go_enter Tryz.func77,Tryz.ntmps77;go_wp2;go_ret;exact ⟨zcS (by rw [zdV hx hf h1]),rfl⟩
  ·have e:z27 x f m=false:=(by simp [z27];omega);rw [e];go_enter Tryz.func77,Tryz.ntmps77;go_wp2;go_ret;exact ⟨rfl,rfl⟩
 ·have e:z27 x f m=false:=(by simp [z27];omega);rw [e];go_enter Tryz.func77,Tryz.ntmps77;go_wp2;go_ret;exact ⟨rfl,rfl⟩
def z2g (x:GC) (k:Nat):Bool:=z27 (k:Int) x.col x.cols
def z2z (l:List Int) (gap:Int) (x:GC):Int:=z1F (z2l l (z2g x) l.length) gap
theorem zcT:(Tryz.prog.info? 3).map (fun i=>(i.zero,i.size,i.bytes))=some (some (Value.int .i64 0),1,8):=by kernel_rfl
theorem z8S {w w3 w4:World} {B n:Nat} {xs:List Value} {x:Int} {o:Value} (hB:w.heap.size<=B) (hO:w3.ownsRow B 3 1 o n xs) (K:Below w.heap.size w w3)
  (hg:(w3.alloc (.cells #[int i64 x] 3)).grownBy w4 o.ownBlock):Below w.heap.size w w4/\∀ g,g < B->g < w3.heap.size->w4.heap[g]?=w3.heap[g]?:=by
 have hA:=ze K (.cells #[int i64 x] 3);refine ⟨⟨hg.os.trans hA.os,hg.tape.trans hA.tape,hg.output.trans hA.output,Nat.le_trans hA.size hg.size,fun k hk=>(hg.block k (Nat.lt_of_lt_of_le hk hA.size) (fun hb=>?_)).trans (hA.block k hk)⟩,fun k hk hl=>(hg.block k (by simp;omega) (fun hb=>?_)).trans (Below.heap_alloc _ _ _ hl)⟩
 ·have:=(hO.lt k hb.symm).1;omega
 ·have:=(hO.lt k hb.symm).1;omega
theorem za5 {l:List Int} {p:Nat->Bool} {k:Nat} (h:p k=true):z2l l p (k+1)=z2l l p k ++ [l.getD k 0]:=by rw [z2l,if_pos h]
theorem zbi {l:List Int} {p:Nat->Bool} {k:Nat} (h:p k=false):z2l l p (k+1)=z2l l p k:=by rw [z2l,if_neg (by rw [h];simp)]
theorem z6L (v:Value) (l:List Int) (hl:l.length<=1048576) (gap:Int) (x:GC) (hx:GOk x) (w:World) (h:z0g w v l) :
  Calls Tryz.prog 58 #[v,int i64 gap,.agg #[int i64 x.row,int i64 x.col,int i64 x.rows,int i64 x.cols,int i64 x.ins]] w fun e w'=>e=.returned (int i64 (z2z l gap x))/\Below w.heap.size w w':=by
 obtain ⟨i0,hi,hz0,hz1,hz2⟩:=info_parts zcT;obtain ⟨a,cap,rfl,hlen⟩:=h.form;obtain ⟨_,b1,_,b3,_⟩:=hx;have K0:=ze (Below.refl w.heap.size w) (.cells #[int i64 x.row,int i64 x.col,int i64 x.rows,int i64 x.cols,int i64 x.ins] 73);have X0:=zk w (.cells #[int i64 x.row,int i64 x.col,int i64 x.rows,int i64 x.cols,int i64 x.ins] 73);have H:=Hd h;have HR:=Hd (fun (k:Nat) (hk:k<=1048576)=>zaF (k:Int) x.col x.cols (by unfold I64;omega) b1 b3);clear h b1 b3;go_enter Tryz.func58,Tryz.ntmps58;go_wp2_with fail
 go_loopw [7,12] (fun o i W=>∃ k:Nat,i=int i64 k/\k<=l.length/\Hid (W.ownsRow (w.heap.size+1) 3 1 o (z2l l (z2g x) k).length ((z2l l (z2g x) k).map (Value.int .i64)))/\Hid (Below w.heap.size w W)/\Hid (W.heap[w.heap.size]?=some (.cells #[int i64 x.row,int i64 x.col,int i64 x.rows,int i64 x.cols,int i64 x.ins] 73))) (fun _ i _=>l.length - (intOf i).toNat)
 case atStart=>exact ⟨0,rfl,Nat.zero_le _,⟨by simp [z2l],.inl ⟨rfl,rfl⟩⟩,K0,X0⟩
 case round =>
  obtain ⟨k,rfl,hk,HO,HB,HX⟩:=hrel;have c1:wr.cell? ⟨w.heap.size,1,none⟩=some (int i64 x.col):=zf HX.out;have c3:wr.cell? ⟨w.heap.size,3,none⟩=some (int i64 x.cols):=zf HX.out;by_cases hlt:k < l.length
  ·obtain ⟨b,off,cap',e',hc1,hc2,hbl,hy⟩:=(H.out.kept HB.out).get hlt;simp only [Value.slice.injEq,true_and] at e';obtain ⟨rfl,rfl⟩:=e';unfold maxLen at hc2;have KR:=Hd (HR.out k (by omega) wr);have hol:=z9p l (z2g x) k
   cases hin:z2g x k with
   | false =>
    have HL:=Hd (zbi (l:=l) hin);have hin':z27 (k:Int) x.col x.cols=false:=hin;rw [hin'] at KR;clear hin hin';generalize l.getD k 0=y at hy;go_wp2_with fail
    refine KR.out.mono ?_;rintro e w1 ⟨rfl,rfl⟩;go_wp2;go_roundw
    case rel=>exact ⟨k+1,by go_num,by omega,by rw [HL.out];exact HO,HB,HX⟩
    case measure=>simp [intOf];omega
   | true =>
    have HL:=Hd (za5 (l:=l) hin);have hin':z27 (k:Int) x.col x.cols=true:=hin;rw [hin'] at KR;clear hin hin';generalize l.getD k 0=y at hy HL;generalize z2l l (z2g x) k=xs at HO HL hol;go_wp2_with fail
    refine KR.out.mono ?_;rintro e w1 ⟨rfl,rfl⟩;have hO4:=HO.out;have hsz:w.heap.size < w1.heap.size:=(bL HX.out);go_wp2_with (at_builtin;refine wpList_append_own _ rfl _ _ 42 rfl (w.heap.size+1) 3 i0 (int i64 0) 1 8 Tryz.underlying42 hi hz0 hz1 hz2 rfl (by decide) _ _ _ rfl (hO4.alloc _) ⟨w1.heap.size,0,none⟩ 1 1 [int i64 y] rfl rfl ?c1 ?c2 ?c3 ?c4 ?c5 ?_)
    case c1 =>
     intro i u hi
     match i,hi with
     | 0,hi=>simp at hi;subst hi;simp [Addr.add]
    case c2=>intro u hu;simp at hu;subst hu;rfl
    case c3=>unfold maxLen;omega
    case c4=>omega
    case c5=>simp;omega
    intro v' w5 hown' hgrow' _;obtain ⟨hB5,hX5⟩:=z8S (Nat.le_succ _) hO4 HB.out hgrow';have HB5:=Hd hB5;have HX5:=Hd ((hX5 w.heap.size (Nat.lt_succ_self _) (bL HX.out)).trans HX.out);have HO5:Hid (w5.ownsRow (w.heap.size+1) 3 1 v' (xs ++ [y]).length ((xs ++ [y]).map (Value.int .i64))):=(by rw [List.length_append,List.map_append];exact hown');obtain ⟨g',cap'',rfl⟩:=Joins.ownsRow_form hown' (by omega);clear hown' hgrow' hO4 hB5 hX5 HO HB HX;go_wp2;go_roundw
    case rel=>exact ⟨k+1,by go_num,by omega,by rw [HL.out];exact HO5,HB5,HX5⟩
    case measure=>simp [intOf];omega
  ·obtain rfl:k=l.length:=by omega
   have hI:=(zH.of_owns HO.out).at;obtain ⟨aa,cc,rfl,_⟩:=hI.form;have KA:=Hd (z47 _ _ gap wr hI);have HV:Hid (z2z l gap x=z1F (z2l l (z2g x) l.length) gap):=rfl;clear hI;go_wp2_with fail
   refine KA.out.mono ?_;rintro e w1 ⟨rfl,rfl⟩;go_wp2;go_ret;exact ⟨rfl,HB.out⟩
theorem za6 {l:List Int} {x:GC} {c m:Nat} (hc:x.col=c) (hm:x.cols=m):∀ k,k<=l.length->(z2l l (z2g x) k).length=min m (k - c)/\(z2l l (z2g x) k).sum=zx l (min k (c+m)) - zx l (min k c)
 | 0,_=>by simp [z2l,zx]
 | k+1,hk=>by
  obtain ⟨h1,h2⟩:=za6 (l:=l) hc hm k (by omega);by_cases hin:c<=k/\k < c+m
  ·have e:z2g x k=true:=(by simp [z2g,z27,hc,hm];omega);rw [za5 e,List.length_append,List.sum_append,h1,h2];have e1:min (k+1) (c+m)=k+1:=(by omega);have e2:min k (c+m)=k:=(by omega);have e3:min (k+1) c=c:=(by omega);have e4:min k c=c:=(by omega);rw [e1,e2,e3,e4,z0E (by omega)];simp;omega
  ·have e:z2g x k=false:=(by simp [z2g,z27,hc,hm];omega);rw [zbi e,h1,h2];have e1:min (k+1) (c+m)=min k (c+m)\/min (k+1) c=k+1:=(by omega);by_cases hkc:k < c
   ·have a1:min (k+1) (c+m)=k+1:=(by omega);have a2:min k (c+m)=k:=(by omega);have a3:min (k+1) c=k+1:=(by omega);have a4:min k c=k:=(by omega);rw [a1,a2,a3,a4];omega
   ·have a1:min (k+1) (c+m)=min k (c+m):=(by omega);have a3:min (k+1) c=min k c:=(by omega);rw [a1,a3];omega
def za7 (x:GC):GC:=⟨0,x.row,0,x.rows,0⟩
theorem zeZ {x:GC} (h:GOk x):GOk (za7 x):=by
 obtain ⟨a,b,c,d,e⟩:=h;exact ⟨⟨by show (-9223372036854775808:Int)<=0;omega,by show (0:Int) < 9223372036854775808;omega⟩,a,⟨by show (-9223372036854775808:Int)<=0;omega,by show (0:Int) < 9223372036854775808;omega⟩,c,⟨by show (-9223372036854775808:Int)<=0;omega,by show (0:Int) < 9223372036854775808;omega⟩⟩
def z3r (l:List Int) (x:GC):Int:=z2z l 0 (za7 x)
theorem zaI (v:Value) (l:List Int) (hl:l.length<=1048576) (x:GC) (hx:GOk x) (w:World) (h:z0g w v l) :
  Calls Tryz.prog 37 #[v,.agg #[int i64 x.row,int i64 x.col,int i64 x.rows,int i64 x.cols,int i64 x.ins]] w fun e w'=>e=.returned (int i64 (z3r l x))/\Below w.heap.size w w':=by
 obtain ⟨a,cap,rfl,hlen⟩:=h.form;have KC:=Hd (fun W=>z6L (.slice a l.length cap) l hl 0 (za7 x) (zeZ hx) W);have K0:=ze (Below.refl w.heap.size w) (.cells #[int i64 x.row,int i64 x.col,int i64 x.rows,int i64 x.cols,int i64 x.ins] 73);have HK:=Hd K0;have H:=Hd (h.kept K0);clear h hx K0;go_enter Tryz.func37,Tryz.ntmps37;go_wp2_with fail
 refine (KC.out _ H.out).mono ?_;rintro e w1 ⟨rfl,hb1⟩;have HK1:=Hd (zg HK.out hb1);have HV:Hid (z2z l 0 (za7 x)=z3r l x):=rfl;rw [HV.out];clear hb1 H HK;go_wp2;go_ret;exact ⟨rfl,HK1.out⟩
end
section
open Go.RowKit
section
variable {P:Program} {ops:Array Oper} {C:World->Prop}
def z5I (ops:Array Oper) (z:Nat):Bool:=(List.range z).all fun i=>(List.range (z+1)).any fun j=>decide (i < j) && z5w ops j i
theorem z6h {z:Nat} {L:Nat->Bool} (hs:z5I ops z=true) (hc:z1S ops L) {o:Oper} (ho:ops[z]?=some o) (ha:∀ e ∈ o.after,Region.binds .any e=true->L e.on=true):∀ n i,z - i<=n->i < z->L i=true
 | 0,i,h,hi=>by omega
 | n+1,i,h,hi=>by
  have h1:=List.all_eq_true.1 hs i (List.mem_range.2 hi);obtain ⟨j,hj,h2⟩:=List.any_eq_true.1 h1;have hjz:=List.mem_range.1 hj;rw [Bool.and_eq_true] at h2;obtain ⟨h3,h4⟩:=h2;have h3:=of_decide_eq_true h3;by_cases e:j=z
  ·subst e;unfold z5w at h4;rw [ho] at h4;simp only [Option.map_some,Option.getD_some,List.any_eq_true,Bool.and_eq_true,beq_iff_eq] at h4;obtain ⟨e,he1,he2,he3⟩:=h4;have:=ha e (by simpa using he1) he2
   rwa [he3] at this
  ·have hLj:=z6h hs hc ho ha n j (by omega) (by omega)
   cases hLi:L i with
   | true=>rfl
   | false=>rw [hc j i h4 hLi] at hLj;cases hLj
theorem z4p {listed:Array Bool} {j:Nat} (h:z1S ops (fun k=>listed.getD k false)) (hj:j ∈ Region.ready .any ops listed):z1S ops (fun k=>(listed.setIfInBounds j true).getD k false):=by
 obtain ⟨h0,o,ho,ha⟩:=mem_ready.1 hj
 have hlt:j < listed.size:=by
  rcases Nat.lt_or_ge j listed.size with h' | h'
  ·exact h'
  ·rw [Array.getD_eq_getD_getElem?,Array.getElem?_eq_none h'] at h0
   cases h0
 rw [z7o hlt];exact h.next ho ha
def z6i (P:Program) (ops:Array Oper) (C:World->Prop) (z:Nat) (R:Act->Prop):Nat->Array Bool->Act->Prop
 | 0,_,_=>False
 | fuel+1,listed,a=>Region.ready .any ops listed ≠ []/\∀ i ∈ Region.ready .any ops listed,if i=z then (fuel=0/\Region.ready .any ops (listed.setIfInBounds z true)=[]/\R a) else qOp P ops C i (z6i P ops C z R fuel (listed.setIfInBounds i true)) a
theorem z7G {Q:Exit->Act->World->Prop} {R:Act->Prop} {z:Nat} (hR:∀ a w,C w->R a->wpOp P ops Q z (fun a' w'=>Q .normal a' w') a w):∀ (fuel:Nat) (listed:Array Bool) (a:Act) (w:World),C w->z6i P ops C z R fuel listed a->wpAny P .any ops Q fuel listed a w
 | 0,_,_,_,_,h=>h.elim
 | fuel+1,listed,a,w,hw,h=>⟨fun h0=>absurd h0 h.1,fun i hi=>by
   have h2:=h.2 i hi;by_cases hz:i=z
   ·rw [if_pos hz] at h2;obtain ⟨h3,hr,hRa⟩:=h2;subst h3;subst hz;exact wpOp_mono (fun a' w' h'=>⟨hr,h'⟩) (hR a w hw hRa)
   ·rw [if_neg hz] at h2;exact wpOp_of_qOp hw (fun a' w' hw'=>z7G hR fuel _ a' w' hw') h2⟩
theorem zag {R:Act->Prop} {z i:Nat} {oi:Oper} {v:Value} (hs:z5I ops z=true) (hi:ops[i]?=some oi) (hiz:i < z) (hsel:∀ (j:Nat) (o:Oper) cs b,ops[j]?=some o->o.op ≠ .select cs b) :
  ∀ (fuel:Nat) (listed:Array Bool) (a:Act),z1S ops (fun k=>listed.getD k false) ->
   (∀ j oj,ops[j]?=some oj->j ≠ i->listed.getD j true=false->(∀ e ∈ oj.after,Region.binds .any e=true->e.on ≠ i)->oi.apart ops oj=true) ->
   i ∈ Region.ready .any ops listed->YieldsIn P ops C oi v a ->
   z6i P ops C z R fuel (listed.setIfInBounds i true) (a.put oi.dst v)->z6i P ops C z R (fuel+1) listed a:=by
 intro fuel
 induction fuel with
 | zero=>intro listed a _ _ _ _ H;exact H.elim
 | succ fuel ih =>
  intro listed a hcl hfree hr hy H;refine ⟨fun h=>(by rw [h] at hr;cases hr),fun j hj=>?_⟩;by_cases hji:j=i
  ·rw [if_neg (by omega)];subst hji;exact hy.qOp hi H
  ·have hjz:j ≠ z:=fun e=>by
    subst e;obtain ⟨_,o,ho,ha⟩:=mem_ready.1 hj;have h1:=z6h hs hcl ho ha _ i (Nat.le_refl _) hiz;have h0:=(mem_ready.1 hr).1
    rcases Nat.lt_or_ge i listed.size with h' | h'
    ·simp [h'] at h0 h1;rw [h0] at h1;cases h1
    ·simp [Array.getElem?_eq_none h'] at h1
   rw [if_neg hjz];have h1:=H.2 j (ready_mono hj hji);rw [if_neg hjz] at h1;obtain ⟨hjun,oj,hoj,hall⟩:=mem_ready.1 hj
   have hnot:∀ e ∈ oj.after,Region.binds .any e=true->e.on ≠ i:=fun e he hb heq=>by
    have h1:=hall e he hb;have h0:=(mem_ready.1 hr).1;rw [heq] at h1
    rcases Nat.lt_or_ge i listed.size with h' | h'
    ·simp [h'] at h0 h1;rw [h0] at h1;cases h1
    ·simp [Array.getElem?_eq_none h'] at h1
   have h2:=qOp_put hoj (hfree j oj hoj hji hjun hnot) (fun cs b=>hsel i oi cs b hi) (fun cs b=>hsel j oj cs b hoj) hy h1
   have hfree':∀ k ok,ops[k]?=some ok->k ≠ i->(listed.setIfInBounds j true).getD k true=false ->
     (∀ e ∈ ok.after,Region.binds .any e=true->e.on ≠ i)->oi.apart ops ok=true:=fun k ok hk hki hun hno=>by
    refine hfree k ok hk hki ?_ hno;by_cases hjk:j=k
    ·subst hjk;exact hjun
    ·rw [getD_set_ne true hjk] at hun;exact hun
   refine qOp_mono (fun a' h3=>ih (listed.setIfInBounds j true) a' (z4p hcl hj) hfree' (ready_mono hr (Ne.symm hji)) h3.1 ?_) h2;rw [Array.setIfInBounds_comm _ _ hji];exact h3.2
theorem z7H {R:Act->Prop} {z:Nat} (hns:Region.noSelect ops=true) (hs:z5I ops z=true):∀ (l:List Oper) (k:Nat) (listed:Array Bool) (a:Act),k+l.length=z->(∀ j,j < l.length->l[j]?=ops[k+j]?)->z1S ops (fun k=>listed.getD k false) ->
  Region.lexFrom .any ops (l.length+1) k listed=true->wpQuiet P ops C R l a->z6i P ops C z R (l.length+1) listed a
 | [],k,listed,a,hk,_,_,hB,h=>by
  simp only [List.length_nil,Region.lexFrom,Bool.and_eq_true] at hB;obtain ⟨⟨hr,_⟩,he⟩:=hB;have hk':k=z:=(by simpa using hk);subst hk';have hr':k ∈ Region.ready .any ops listed:=(by simpa using hr);have he':Region.ready .any ops (listed.setIfInBounds k true)=[]:=(by simpa using he);refine ⟨fun h=>(by rw [h] at hr';cases hr'),fun i hi=>?_⟩;by_cases hik:i=k
  ·rw [if_pos hik];exact ⟨rfl,he',h⟩
  ·have:=ready_mono hi hik;rw [he'] at this
   cases this
 | o :: l,k,listed,a,hk,hl,hcl,hB,h=>by
  have h0:ops[k]?=some o:=(by simpa using (hl 0 (by simp)).symm);simp only [List.length_cons] at hk hB |-;rw [Region.lexFrom] at hB;simp only [Bool.and_eq_true] at hB;obtain ⟨⟨hr,hf⟩,hB'⟩:=hB;have hr':k ∈ Region.ready .any ops listed:=(by simpa using hr);have hst:qOp P ops C k (wpQuiet P ops C R l) a:=(by unfold qOp;simp only [h0];exact h);obtain ⟨v,hy,hK⟩:=yieldsIn_of_qOp h0 hst
  exact zag hs h0 (by omega) (Region.noSelect_spec hns) (l.length+1) listed a hcl (Region.free_spec h0 hf) hr' hy
   (z7H hns hs l (k+1) _ _ (by omega) (fun j hj=>by have:=hl (j+1) (by simpa using hj);simpa [Nat.add_assoc,Nat.add_comm 1 j] using this) (z4p hcl hr') hB' hK)
end
theorem z1p {P:Program} {id:Nat} {Q:Exit->Act->World->Prop} {a:Act} {w:World} {l:List Oper} (n:Nat) {o:Oper} (hm:P.follows .mixedOrders=true) (hl:l.length=n+1) (ho:l[n]?=some o) (hB:Region.lexB .any l.toArray=true) (hs:z5I l.toArray n=true)
  (h:wpQuiet P l.toArray (fun w'=>∃ p:BW w,w'=p.u) (fun a'=>∀ w',(∃ p:BW w,w'=p.u)->if Region.wanted o (yielded l.toArray a'.tmps)=true then o.wp P a' w' (fun a w=>Q .normal a w) Q else Q .normal (a'.put o.dst undef) w') (l.take n) a):(Code.region id l.toArray true).wp P Q a w:=by
 simp only [Region.lexB,Bool.and_eq_true] at hB;have hlt:(l.take n).length=n:=(by rw [List.length_take];omega);refine wp_region_any hm (z7G (C:=fun w'=>∃ p:BW w,w'=p.u) (z:=n) (R:=fun a'=>∀ w',(∃ p:BW w,w'=p.u)->if Region.wanted o (yielded l.toArray a'.tmps)=true then o.wp P a' w' (fun a w=>Q .normal a w) Q else Q .normal (a'.put o.dst undef) w') ?_ _ _ _ _ ⟨⟨_,z1P (Below.refl _ _)⟩,rfl⟩ ?_)
 ·intro a' w' hw' hR;have h1:=hR w' hw';unfold wpOp;rw [show l.toArray[n]?=some o by simpa using ho];dsimp only
  split
  ·rename_i hw;rw [if_pos hw] at h1;exact .inl h1
  ·rename_i hw;rw [if_neg hw] at h1;exact h1
 ·have:=z7H (P:=P) (C:=fun w'=>∃ p:BW w,w'=p.u) hB.1 hs (l.take n) 0 (Array.replicate l.toArray.size false) a (by omega) (fun j hj=>by rw [hlt] at hj;simp [hj]) (fun j i _ _=>by
   show (Array.replicate l.toArray.size false).getD j false=false;rw [Array.getD_eq_getD_getElem?,Array.getElem?_replicate]
   split <;> rfl) (by rw [hlt,<-hl];simpa using hB.2) h
  rw [hlt,<-hl] at this
  simpa using this
end
section
open Go.RowKit
theorem z7K (v:Value) (ps:List (Int × Int)) (q:Int) (w:World) {z:Nat} (h:zY w z v ps) :
  Calls Tryz.prog 40 #[v,int i64 q] w fun e w'=>e=.returned (.agg #[int i64 (sd ps q).1,int i64 (sd ps q).2])/\Below w.heap.size w w':=by
 obtain ⟨a,cap,rfl,hlen⟩:=At.form h;have HI:=Hd (zA q 0 ((ps.length:Int) - 1));unfold maxLen at hlen
 cases hin:inB q 0 ((ps.length:Int) - 1) with
 | false =>
  rw [hin] at HI;rw [z9g hin];clear hin h;go_enter Tryz.func40,Tryz.ntmps40;go_wp2_with fail
  refine (HI.out _).mono ?_;rintro e w1 ⟨rfl,rfl⟩;go_wp2;exact bodyPost_ret (v:=.agg #[int i64 0,int i64 0]) (by simp [results,Tryz.results40,go_sem]) rfl ⟨rfl,by repeat (first | exact Below.refl _ _ | apply ze)⟩
 | true =>
  rw [hin] at HI;have hk:0<=q/\q<=(ps.length:Int) - 1:=(by simpa [inB] using hin);clear hin;obtain ⟨k,rfl⟩:=Int.eq_ofNat_of_zero_le hk.1;have hkl:k < ps.length:=(by omega);rw [z7t hkl];obtain ⟨b,off,cap',e',hc1,hc2,hbl,hx0,hx1⟩:=At.get h hkl;simp only [Value.slice.injEq,true_and] at e';obtain ⟨rfl,rfl⟩:=e';unfold maxLen at hc2;generalize ps.getD k (0,0)=p at hx0 hx1 |-;clear h;go_enter Tryz.func40,Tryz.ntmps40;go_wp2_with fail
  refine (HI.out _).mono ?_;rintro e w1 ⟨rfl,rfl⟩;go_wp2;exact bodyPost_ret (v:=.agg #[int i64 p.1,int i64 p.2]) (by simp [results,Tryz.results40,go_sem]) rfl ⟨rfl,by repeat (first | exact Below.refl _ _ | apply ze)⟩
def z2A (w:World) (z:Nat) (v:Value) (ls:List (List ByteArray)):Prop:=At w z v ls.length 1 (fun i b o=>∃ u,w.cell? ⟨b,o,none⟩=some u/\z1Y w z u (ls.getD i []))
theorem z1Y.base {w:World} {z z':Nat} {v:Value} {ss:List ByteArray} (h:z1Y w z v ss) (hz:z'<=z):z1Y w z' v ss:=At.mono h (Nat.le_refl _) hz (fun _ _ _ _ _ _ he=>he)
theorem z2A.since {w w':World} {z:Nat} {v:Value} {ls:List (List ByteArray)} (h:z2A w z v ls) (k:zi z w w'):z2A w' z v ls :=
 At.mono h k.size (Nat.le_refl _) (fun _ _ _ _ hb hz ⟨u,h1,h2⟩=>⟨u,(k.cell hz hb _).trans h1,h2.since k⟩)
theorem z2A.kept {w w':World} {z:Nat} {v:Value} {ls:List (List ByteArray)} (h:z2A w z v ls) (k:Below w.heap.size w w'):z2A w' z v ls:=h.since (.of_below k)
theorem z2A.base {w:World} {z z':Nat} {v:Value} {ls:List (List ByteArray)} (h:z2A w z v ls) (hz:z'<=z):z2A w z' v ls:=At.mono h (Nat.le_refl _) hz (fun _ _ _ _ _ _ ⟨u,h1,h2⟩=>⟨u,h1,h2.base hz⟩)
theorem z2A.get {w:World} {z:Nat} {v:Value} {ls:List (List ByteArray)} (h:z2A w z v ls) {i:Nat} (hi:i < ls.length):∃ b off cap u,v=.slice (some ⟨b,off,none⟩) ls.length cap/\ls.length<=cap/\cap<=maxLen/\b < w.heap.size/\w.cell? ⟨b,off+i,none⟩=some u/\z1Y w z u (ls.getD i []):=by
 obtain ⟨b,off,cap,e,h1,h2,h3,u,h4,h5⟩:=At.get h hi;rw [Nat.mul_one] at h4;exact ⟨b,off,cap,u,e,h1,h2,h3,h4,h5⟩
def z51 (w:World) (z:Nat) (us:List Value) (ls:List (List ByteArray)):Prop:=us.length=ls.length/\∀ i,i < ls.length->z1Y w z (us.getD i (.slice none 0 0)) (ls.getD i [])
theorem z51.nil (w:World) (z:Nat):z51 w z [] []:=⟨rfl,fun i hi=>absurd hi (Nat.not_lt_zero i)⟩
theorem z51.since {w w':World} {z:Nat} {us:List Value} {ls:List (List ByteArray)} (h:z51 w z us ls) (k:zi z w w'):z51 w' z us ls:=⟨h.1,fun i hi=>(h.2 i hi).since k⟩
theorem z51.next {w:World} {z:Nat} {us:List Value} {ls:List (List ByteArray)} (h:z51 w z us ls) {u:Value} {l:List ByteArray} (hu:z1Y w z u l):z51 w z (us ++ [u]) (ls ++ [l]):=by
 refine ⟨by rw [List.length_append,List.length_append,h.1];rfl,fun i hi=>?_⟩;rw [List.length_append,List.length_singleton] at hi
 rcases Nat.lt_or_ge i ls.length with h1 | h1
 ·have e1:(us ++ [u]).getD i (.slice none 0 0)=us.getD i (.slice none 0 0):=by
   rw [List.getD_eq_getElem?_getD,List.getElem?_append_left (by rw [h.1];exact h1),<-List.getD_eq_getElem?_getD]
  have e2:(ls ++ [l]).getD i []=ls.getD i []:=by
   rw [List.getD_eq_getElem?_getD,List.getElem?_append_left h1,<-List.getD_eq_getElem?_getD]
  rw [e1,e2];exact h.2 i h1
 ·obtain rfl:i=ls.length:=by omega
  have e1:(us ++ [u]).getD ls.length (.slice none 0 0)=u:=by
   rw [List.getD_eq_getElem?_getD,List.getElem?_append_right (by rw [h.1];omega),h.1,Nat.sub_self];rfl
  have e2:(ls ++ [l]).getD ls.length []=l:=by
   rw [List.getD_eq_getElem?_getD,List.getElem?_append_right (Nat.le_refl _),Nat.sub_self];rfl
  rw [e1,e2];exact hu
theorem zfA:(Tryz.prog.info? 74).map (fun i=>(i.zero,i.size,i.bytes))=some (some (Value.slice none 0 0),1,24):=by kernel_rfl
theorem zd4 {w:World} {B:Nat} {v:Value} {l:List ByteArray} (h:z1X w B v l) (hs:∀ x ∈ l,x.size<=maxLen):z1Y w B v l:=by
 unfold z1Y
 rcases h with ⟨rfl,rfl⟩ | ⟨g,cap,cur,hv,hb,hg,h1,h2,h3,h4⟩
 ·exact ⟨none,0,rfl,Nat.le_refl _,Nat.zero_le _,fun i hi=>absurd hi (Nat.not_lt_zero _)⟩
 ·refine ⟨some ⟨g,0,none⟩,cap,hv,h1,h2,fun i hi=>⟨g,0,rfl,(bL hg),hb,?_,?_⟩⟩
  ·rw [Nat.zero_add,Nat.mul_one,zf hg,h4 i hi];rfl
  ·have:=hs l[i] (List.getElem_mem hi)
   simpa [List.getD,hi] using this
theorem z1X.grown {w w':World} {B base:Nat} {v U:Value} {l:List ByteArray} {m:Nat} {xs:List Value} (h:z1X w B v l) (hU:w.ownsRow base 74 1 U m xs) (k:w.grownBy w' U.ownBlock):z1X w' B v l:=by
 rcases h with h | ⟨g,cap,cur,hv,hb,hg,r⟩
 ·exact .inl h
 ·exact .inr ⟨g,cap,cur,hv,hb,z0e hg k (z0h (zl hU hg (by decide))),r⟩
def z2b (w:World) (B:Nat) (us:List Value) (ls:List (List ByteArray)):Prop:=us.length=ls.length/\∀ i,i < ls.length->z1X w B (us.getD i (.slice none 0 0)) (ls.getD i [])
theorem z2b.nil (w:World) (B:Nat):z2b w B [] []:=⟨rfl,fun i hi=>absurd hi (Nat.not_lt_zero i)⟩
theorem z2b.kept {w w':World} {B:Nat} {us:List Value} {ls:List (List ByteArray)} (h:z2b w B us ls) (k:Below w.heap.size w w'):z2b w' B us ls:=⟨h.1,fun i hi=>(h.2 i hi).below k (Nat.le_refl _)⟩
theorem z2b.grown {w w':World} {B base:Nat} {U:Value} {us:List Value} {ls:List (List ByteArray)} {m:Nat} {xs:List Value} (h:z2b w B us ls) (hU:w.ownsRow base 74 1 U m xs) (k:w.grownBy w' U.ownBlock):z2b w' B us ls:=⟨h.1,fun i hi=>(h.2 i hi).grown hU k⟩
theorem z2b.next {w:World} {B:Nat} {us:List Value} {ls:List (List ByteArray)} (h:z2b w B us ls) {u:Value} {l:List ByteArray} (hu:z1X w B u l):z2b w B (us ++ [u]) (ls ++ [l]):=by
 refine ⟨by rw [List.length_append,List.length_append,h.1];rfl,fun i hi=>?_⟩;rw [List.length_append,List.length_singleton] at hi
 rcases Nat.lt_or_ge i ls.length with h1 | h1
 ·have e1:(us ++ [u]).getD i (.slice none 0 0)=us.getD i (.slice none 0 0):=by
   rw [List.getD_eq_getElem?_getD,List.getElem?_append_left (by rw [h.1];exact h1),<-List.getD_eq_getElem?_getD]
  have e2:(ls ++ [l]).getD i []=ls.getD i []:=by
   rw [List.getD_eq_getElem?_getD,List.getElem?_append_left h1,<-List.getD_eq_getElem?_getD]
  rw [e1,e2];exact h.2 i h1
 ·obtain rfl:i=ls.length:=by omega
  have e1:(us ++ [u]).getD ls.length (.slice none 0 0)=u:=by
   rw [List.getD_eq_getElem?_getD,List.getElem?_append_right (by rw [h.1];omega),h.1,Nat.sub_self];rfl
  have e2:(ls ++ [l]).getD ls.length []=l:=by
   rw [List.getD_eq_getElem?_getD,List.getElem?_append_right (Nat.le_refl _),Nat.sub_self];rfl
  rw [e1,e2];exact hu
theorem z2b.lls {w:World} {B base z:Nat} {v:Value} {us:List Value} {ls:List (List ByteArray)} (h:z2b w B us ls) (hO:w.ownsRow base 74 1 v us.length us) (hz:z<=base) (hzB:z<=B) (hs:∀ l ∈ ls,∀ x ∈ l,x.size<=maxLen):z2A w z v ls:=by
 unfold z2A;have hul:=h.1
 rcases hO.2 with ⟨hv,h0⟩ | ⟨g,cap,cur,hv,hb,hg,h1,h2,h3,h4⟩
 ·exact ⟨none,0,by rw [<-hul,h0];exact hv,by omega,Nat.zero_le _,fun i hi=>by omega⟩
 ·refine ⟨some ⟨g,0,none⟩,cap,by rw [<-hul];exact hv,by omega,h2,fun i hi=>⟨g,0,rfl,(bL hg),by omega,us.getD i (.slice none 0 0),?_,?_⟩⟩
  ·have:cur.toList[i]?=us[i]?:=(by rw [<-h4,List.getElem?_take_of_lt (by omega)]);rw [Nat.zero_add,Nat.mul_one,zf hg,<-Array.getElem?_toList,this];simp [List.getD,show i < us.length by omega]
  ·have hl:ls.getD i []=ls[i]:=(by simp [List.getD,hi]);exact (zd4 (h.2 i hi) (by rw [hl];exact hs _ (List.getElem_mem hi))).base hzB
theorem zfB (a b:Value) (W:World):(Instr.field 55 (.agg #[a,b]) 0).run Tryz.prog W=.ok a W:=by
 kernel_rfl
theorem zda {w:World} {b off n cap:Nat} {l:List Int} (H:z0g w (.slice (some ⟨b,off,none⟩) n cap) l) {w':World} (K:Below w.heap.size w w'):∀ j x,(l.map (Value.int .i64))[j]?=some x->w'.cell? ((⟨b,off,none⟩:Addr).add j)=some x:=by
 intro j x hx;rw [List.getElem?_map] at hx;obtain ⟨y,hy,rfl⟩:=Option.map_eq_some_iff.1 hx;have hj:=(List.getElem?_eq_some_iff.1 hy).1;rw [Go.WideShapes.add_plain];obtain ⟨bq,oq,cq,eq1,_,_,hbw,hcq⟩:=H.get hj;simp only [Value.slice.injEq,Option.some.injEq,Addr.mk.injEq,and_true] at eq1;obtain ⟨⟨rfl,rfl⟩,_⟩:=eq1;rw [K.cell (p:=⟨b,off+j,none⟩) hbw,hcq];simp [List.getD,hy]
theorem zfc (l:List Int):∀ x ∈ l.map (Value.int .i64),x.oneCell'=true:=fun x hx=>by obtain ⟨y,_,rfl⟩:=List.mem_map.1 hx;rfl
theorem zaQ (s:ByteArray) (hs:s.size<=maxLen) (w:World):Calls Tryz.prog 91 #[.string s] w fun e w'=>e=.returned (int i64 (z41 s))/\w'=w:=by
 unfold z41;have hm:=hs;unfold maxLen at hm
 cases hok:zC s
 all_goals
  go_enter Tryz.func91,Tryz.ntmps91;go_wp2_with (go_at_call 26;refine (z1f _ _ hs).mono ?_;rintro e w' ⟨rfl,rfl⟩;rw [hok])
  go_ret;exact ⟨rfl,rfl⟩
end
end Go.Proofs.YtggmjiddadjilalGreat
