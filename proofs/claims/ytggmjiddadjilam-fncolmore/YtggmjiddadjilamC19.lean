/-
  PROVED HERE: a table behind a cell taken out of a row, as a list; a row's slice of cells another one, in memory. Also: 9 more texts of the same proof.
-/
import Derived.Test.YtggmjiddadjilamC18
set_option maxRecDepth 1000000
set_option maxHeartbeats 40000000
namespace Go.Proofs.Ytggmjiddadjilam
section
open Go.RowKit
def zb5 (t:T) (row at':Int):T × Bool :=
 if zq t=true then (if z1R t row at'=true then (z0W t row.toNat ((t.rows.getD row.toNat dR).cells.eraseIdx at'.toNat),true) else (t,false)) else (zT,false)
theorem zr.slice {w1:World} {base:Nat} {v:Value} {ur:List (Value × R)} {i g cap:Nat} (hv:v=.slice (some ⟨g,0,none⟩) ur.length cap) {p:Value × R} (hi:ur[i]?=some p) {u:Value} {r:R} (hw:r.whole=p.2.whole)
  (hR:w1.ownsRow base 33 2 v ur.length (ur.flatMap zt)) (hC:∀ j,j ≠ i→∀ q,ur[j]?=some q→zL w1 base q.1 q.2.cells) (hc:zL w1 base u r.cells)
  (ha:ur.Pairwise fun p q=>p.1.ownBlock=none∨p.1.ownBlock ≠ q.1.ownBlock) (hu:∀ j,j ≠ i→∀ q,ur[j]?=some q→q.1.ownBlock=none∨q.1.ownBlock ≠ u.ownBlock) :
  zr (w1.setCell ⟨g,i * 2,none⟩ u) base v (ur.set i (u,r)):=by
 have hil:i < ur.length:=(List.getElem?_eq_some_iff.1 hi).1;have ep:ur[i]=p:=(by rw [List.getElem?_eq_getElem hil] at hi;exact Option.some.inj hi);have hvg:v.ownBlock=some g:=(by rw [hv];rfl);have hS:Off 0 (some g) none w1 (w1.setCell ⟨g,i * 2,none⟩ u):=Off.set w1 ⟨g,i * 2,none⟩ rfl _;have hnn:∀ u:Value,u.ownBlock=none∨u.ownBlock ≠ none:=fun u=>by rcases hb:u.ownBlock with _ | b;exact .inl rfl;exact .inr (by simp)
 have hcw:∀ {x:Value} {cs:List C},zL w1 base x cs→zL (w1.setCell ⟨g,i * 2,none⟩ u) base x cs:=fun h=>by
  refine zJ h hS (Nat.zero_le _) ?_ (hnn _)
  rcases z0L h hR (by decide) with e | e
  ·exact .inl e
  ·exact .inr (by rw [← hvg];exact e)
 refine ⟨?_,fun q hq=>?_,?_⟩
 ·rcases hR.2 with ⟨e,_⟩ | ⟨g',cap',cur,e,hg',hcur,a1,a2,a3,a4⟩
  ·rw [hv] at e;simp at e
  ·rw [hv] at e;simp only [Value.slice.injEq,Option.some.injEq,Addr.mk.injEq,and_true,true_and] at e;obtain ⟨rfl,rfl⟩:=e;refine ⟨by rw [z0y zt 2 (fun _=>rfl)],.inr ⟨g,cap,cur.setIfInBounds (i * 2) u,by rw [List.length_set];exact hv,hg',zy hcur _,by rw [List.length_set];exact a1,a2,by rw [Array.size_setIfInBounds];exact a3,?_⟩⟩;refine z2U zt 2 (fun _=>rfl) (ur.set i (u,r)) (cur.setIfInBounds (i * 2) u) (by rw [List.length_set,Array.size_setIfInBounds,a3];omega) (fun j hj0 m hm=>?_);have hj:j < ur.length:=(by rw [List.length_set] at hj0;exact hj0)
   have hold:cur[j * 2+m]?=(zt ur[j])[m]?:=by
    have e:=z0p zt 2 (fun _=>rfl) ur j hj m hm;rw [← a4,List.getElem?_take_of_lt (by omega),Array.getElem?_toList] at e;exact e
   by_cases hji:j=i
   ·subst hji;rw [List.getElem_set_self]
    match m,hm with
    | 0,_ =>
     rw [Nat.add_zero,Array.getElem?_setIfInBounds_self_of_lt (by rw [a3];omega)];rfl
    | 1,_ =>
     rw [Array.getElem?_setIfInBounds_ne (by omega),hold,ep];show some (Value.bool p.2.whole)=some (Value.bool r.whole);rw [hw]
   ·rw [List.getElem_set_ne (by omega),Array.getElem?_setIfInBounds_ne (by omega)];exact hold
 ·obtain ⟨j,hj0,rfl⟩:=List.mem_iff_getElem.1 hq;have hj:j < ur.length:=(by rw [List.length_set] at hj0;exact hj0);by_cases hji:j=i
  ·subst hji;rw [List.getElem_set_self];exact hcw hc
  ·rw [List.getElem_set_ne (by omega)];exact hcw (hC j hji _ (List.getElem?_eq_getElem hj))
 ·rw [List.pairwise_iff_getElem] at ha ⊢;intro x y hx0 hy0 hxy;have hx:x < ur.length:=(by rw [List.length_set] at hx0;exact hx0);have hy:y < ur.length:=(by rw [List.length_set] at hy0;exact hy0);by_cases hxi:x=i
  ·subst hxi;rw [List.getElem_set_self,List.getElem_set_ne (by omega)]
   rcases hb:u.ownBlock with _ | b
   ·exact .inl rfl
   ·refine .inr (fun e=>?_)
    rcases hu y (by omega) _ (List.getElem?_eq_getElem hy) with h1 | h1
    ·rw [h1] at e;cases e
    ·exact h1 (e.symm.trans hb.symm)
  ·by_cases hyi:y=i
   ·subst hyi;rw [List.getElem_set_self,List.getElem_set_ne (by omega)];exact hu x (by omega) _ (List.getElem?_eq_getElem hx)
   ·rw [List.getElem_set_ne (by omega),List.getElem_set_ne (by omega)];exact ha x y hx hy hxy
theorem z0V.take {w W9:World} {B D:Nat} {vc vr:Value} {cols:List (Int × Int)} {ur:List (Value × R)} (h:z0V w B D vc vr cols ur) {r g cg:Nat} (hv:vr=.slice (some ⟨g,0,none⟩) ur.length cg) {p:Value × R} (hp:ur[r]?=some p) {b:Nat} (hpb:p.1.ownBlock=some b) (hG:w.grownBy W9 (some b)) {u:Value} {cs:List C} (hub:u.ownBlock=some b) (hc:zL W9 B u cs) :
  z0V (W9.setCell ⟨g,r * 2,none⟩ u) B D vc vr cols (ur.set r (u,⟨cs,p.2.whole⟩)):=by
 have hpm:p ∈ ur:=List.mem_of_getElem? hp;have hrl:r < ur.length:=(List.getElem?_eq_some_iff.1 hp).1;have ep:ur[r]=p:=(by rw [List.getElem?_eq_getElem hrl] at hp;exact Option.some.inj hp);have hnn:∀ u:Value,u.ownBlock=none∨u.ownBlock ≠ none:=fun u=>by rcases hb:u.ownBlock with _ | b;exact .inl rfl;exact .inr (by simp)
 have hG':w.grownBy W9 p.1.ownBlock:=(by rw [hpb];exact hG);have K1:Off 0 none p.1.ownBlock w W9:=Off.grown hG';have hR:=zJ h.2.1.own K1 (Nat.zero_le _) (hnn vr) (z0L h.2.1.own (h.2.1.cells p hpm) (by decide))
 have hap:∀ j,j ≠ r→∀ q,ur[j]?=some q→q.1.ownBlock=none∨q.1.ownBlock ≠ p.1.ownBlock:=fun j hj q hq=>by
  have hjl:j < ur.length:=(List.getElem?_eq_some_iff.1 hq).1;have eq:ur[j]=q:=(by rw [List.getElem?_eq_getElem hjl] at hq;exact Option.some.inj hq);have hpw:=List.pairwise_iff_getElem.1 h.2.1.apart
  rcases Nat.lt_or_gt_of_ne hj with hl | hl
  ·rw [← ep,← eq];exact hpw j r hjl hrl hl
  ·have:=hpw r j hrl hjl hl;rw [ep,eq] at this
   rcases hb:q.1.ownBlock with _ | b'
   ·exact .inl rfl
   ·refine .inr (fun e=>?_)
    rcases this with e1 | e1
    ·rw [e1] at e;cases e
    ·exact e1 (e.symm.trans hb.symm)
 have hC:∀ j,j ≠ r→∀ q,ur[j]?=some q→zL W9 B q.1 q.2.cells:=fun j hj q hq=>zJ (h.2.1.cells q (List.mem_of_getElem? hq)) K1 (Nat.zero_le _) (hnn _) (hap j hj q hq);have hO:=zr.slice (r:=⟨cs,p.2.whole⟩) hv hp rfl hR hC hc h.2.1.apart (fun j hj q hq=>by rw [hub,← hpb];exact hap j hj q hq);have hgB:vr.ownBlock=some g:=(by rw [hv];rfl);refine ⟨?_,hO,h.2.2.1,h.2.2.2.1,fun q hq b' e=>?_⟩
 ·have c1:=zJ h.1 K1 (Nat.zero_le _) (hnn vc) (z0L h.1 (h.2.1.cells p hpm) (by decide));have hS:Off 0 (some g) none W9 (W9.setCell ⟨g,r * 2,none⟩ u):=Off.set W9 ⟨g,r * 2,none⟩ rfl _;refine zJ c1 hS (Nat.zero_le _) ?_ (hnn _)
  rcases z0L c1 hR (by decide) with e | e
  ·exact .inl e
  ·exact .inr (by rw [← hgB];exact e)
 ·rcases List.mem_or_eq_of_mem_set hq with hm | rfl
  ·exact h.2.2.2.2 q hm b' e
  ·rw [hub] at e;exact h.2.2.2.2 p hpm b' (by rw [hpb];exact e)
theorem z6S (ac ar:Option Addr) (cc cr:Nat) (t:T) (row:Int) (hrow:-9223372036854775808≤row∧row≤9223372036854775807) (w:World) {z:Nat} (hr:zC w z (.slice ar t.rows.length cr) t.rows) :
  Calls Try.prog 78 #[.agg #[.slice ac t.cols.length cc,.int .i64 t.head,.int .i64 t.foot,.slice ar t.rows.length cr,.int .i64 t.gap],.int .i64 row] w fun e w'=>e=.returned (.int .i64 (z0H t row))∧Below w.heap.size w w':=by
 obtain ⟨_,_,_,hlen⟩:=At.form hr;unfold maxLen at hlen;have K0:=zb (Below.refl w.heap.size w) (.cells #[.slice ac t.cols.length cc,.int .i64 t.head,.int .i64 t.foot,.slice ar t.rows.length cr,.int .i64 t.gap] 26);have HK:=Hd K0;have HR:=Hd (hr.kept K0);have HX:=Hd (zi w (.cells #[.slice ac t.cols.length cc,.int .i64 t.head,.int .i64 t.foot,.slice ar t.rows.length cr,.int .i64 t.gap] 26));have HV:Hid (z0H t row=if inB row 0 ((t.rows.length:Int) - 1)=true then ((t.rows.getD row.toNat dR).cells.length:Int) else -1):=rfl;clear hr K0;have HI:=Hd (fun W=>zo row 0 ((t.rows.length:Int) - 1) W);by_cases hin:inB row 0 ((t.rows.length:Int) - 1)=true
 ·have hv:=HV.out;rw [if_pos hin] at hv;rw [hin] at HI;obtain ⟨r,rfl⟩:∃ r:Nat,row=r:=⟨row.toNat,by simp only [inB,decide_eq_true_eq] at hin;omega⟩;have hrl:r < t.rows.length:=(by simp only [inB,decide_eq_true_eq] at hin;omega);rw [Int.toNat_natCast] at hv;obtain ⟨b,off,cap',e',hc1,hc2,hbl,u,hx0,hx1,hx⟩:=At.get HR.out hrl;simp only [Value.slice.injEq,true_and] at e';obtain ⟨rfl,rfl⟩:=e';obtain ⟨au,cu,rfl,hul⟩:=At.form hx;have Hv:=Hd hv;generalize (t.rows.getD r dR).cells.length=m at hx0 Hv hul;unfold maxLen at hc2 hul;clear hv HV hin hx hx1;go_enter Try.func78,Try.ntmps78;go_upto_region 1 with fail
  generalize w.alloc (.cells #[.slice ac t.cols.length cc,.int .i64 t.head,.int .i64 t.foot,.slice (some ⟨b,off,none⟩) t.rows.length cr,.int .i64 t.gap] 26)=W0 at HK HR HX hx0 hbl ⊢;have z3:=zc (p:=3) HX.out;go_wp2_with fail
  refine (HI.out _).mono ?_;rintro e w1 ⟨rfl,e1⟩;subst e1;go_wp2;go_ret;exact ⟨by rw [Hv.out];rfl,HK.out⟩
 ·have hv:=HV.out;rw [if_neg hin] at hv;rw [Bool.eq_false_iff.2 hin] at HI;have Hv:=Hd hv;clear hv HV hin;go_enter Try.func78,Try.ntmps78;go_upto_region 1 with fail
  generalize w.alloc (.cells #[.slice ac t.cols.length cc,.int .i64 t.head,.int .i64 t.foot,.slice ar t.rows.length cr,.int .i64 t.gap] 26)=W0 at HK HR HX ⊢;have z3:=zc (p:=3) HX.out;go_wp2_with fail
  refine (HI.out _).mono ?_;rintro e w1 ⟨rfl,e1⟩;subst e1;go_wp2;go_ret;exact ⟨by rw [Hv.out];rfl,HK.out⟩
theorem z5N (t:T) (row:Int) (h:∀ r ∈ t.rows,r.cells.length≤1048576):-1≤z0H t row∧z0H t row≤1048576:=by
 unfold z0H
 split
 ·rename_i hin
  have hl:row.toNat < t.rows.length:=(by simp only [inB,decide_eq_true_eq] at hin;omega);have:=h _ (List.getElem_mem hl);rw [zx dR hl];omega
 ·omega
theorem z6T (ac ar:Option Addr) (cc cr:Nat) (t:T) (row at':Int) (hrow:-9223372036854775808≤row∧row≤9223372036854775807) (hcs:∀ r ∈ t.rows,r.cells.length≤1048576) (w:World) {z:Nat} (hr:zC w z (.slice ar t.rows.length cr) t.rows) :
  Calls Try.prog 49 #[.agg #[.slice ac t.cols.length cc,.int .i64 t.head,.int .i64 t.foot,.slice ar t.rows.length cr,.int .i64 t.gap],.int .i64 row,.int .i64 at'] w fun e w'=>e=.returned (.bool (z1R t row at'))∧Below w.heap.size w w':=by
 have K0:=zb (Below.refl w.heap.size w) (.cells #[.slice ac t.cols.length cc,.int .i64 t.head,.int .i64 t.foot,.slice ar t.rows.length cr,.int .i64 t.gap] 26);have HK:=Hd K0;have HX:=Hd (zi w (.cells #[.slice ac t.cols.length cc,.int .i64 t.head,.int .i64 t.foot,.slice ar t.rows.length cr,.int .i64 t.gap] 26));have KC:=Hd (z6S ac ar cc cr t row hrow _ (hr.kept K0));have hcb:=z5N t row hcs;have HI:=Hd (fun W=>zo at' 0 (z0H t row - 1) W);have HV:Hid (z1R t row at'=inB at' 0 (z0H t row - 1)):=rfl;clear hr K0 hcs;go_enter Try.func49,Try.ntmps49;go_upto_region 1 with fail
 generalize w.alloc (.cells #[.slice ac t.cols.length cc,.int .i64 t.head,.int .i64 t.foot,.slice ar t.rows.length cr,.int .i64 t.gap] 26)=W0 at HK HX KC ⊢;obtain ⟨z0,z1,z2,z3,z4⟩:=zn HX.out;generalize z0H t row=cv at KC hcb HI HV;go_wp2_with fail
 refine KC.out.mono ?_;rintro e w1 ⟨rfl,hb1⟩;have HB1:=Hd (zh HK.out hb1);clear hb1 z0 z1 z2 z3 z4;go_wp2_with fail
 refine (HI.out _).mono ?_;rintro e w2 ⟨rfl,e2⟩;subst e2;go_wp2;go_ret;exact ⟨by rw [HV.out];rfl,HB1.out⟩
def plB (t:T) (row at':Int):Bool:=inB at' 0 (z0H t row) && decide (z0H t row < 5)
def zaS (cs:List C) (a:Nat) (x:C):List C:=cs.take a ++ x :: cs.drop a
def zb8 (t:T) (row at':Int) (x:C):T × Bool :=
 if zq t=true then (if (cB x && plB t row at')=true then (z0W t row.toNat (zaS (t.rows.getD row.toNat dR).cells at'.toNat x),true) else (t,false)) else (zT,false)
def z9j (w:World) (B n:Nat) (vc vr:Value) (cols:List (Int × Int)) (ur:List (Value × R)):Prop :=
 zw w B vc cols∧zr w B vr ur∧vc.ownBlock ≠ some n∧vr.ownBlock ≠ some n∧∀ q ∈ ur,q.1.ownBlock ≠ some n
theorem z9j.other {W W':World} {B n:Nat} {vc vr:Value} {cols:List (Int × Int)} {ur:List (Value × R)} (h:z9j W B n vc vr cols ur) (hk:∀ k,k ≠ n→W'.heap[k]?=W.heap[k]?):z9j W' B n vc vr cols ur:=by
 obtain ⟨h1,h2,h3,h4,h5⟩:=h
 have key:∀ {e:TypeId} {sz:Nat} {v:Value} {m:Nat} {xs:List Value},W.ownsRow B e sz v m xs→v.ownBlock ≠ some n→W'.ownsRow B e sz v m xs:=fun h hv=>by
  refine ⟨h.1,h.2.elim Or.inl (fun ⟨g,cap,cur,e,hg,hc,q⟩=>Or.inr ⟨g,cap,cur,e,hg,?_,q⟩)⟩;exact (hk g (fun e'=>hv (by rw [e,e'];rfl))).trans hc
 exact ⟨key h1 h3,⟨key h2.own h4,fun p hp=>key (h2.cells p hp) (h5 p hp),h2.apart⟩,h3,h4,h5⟩
theorem z7J (t:T) (r:Nat) (cs:List C):(z0W t r cs).rows.length=t.rows.length:=by simp [z0W]
end
section
open Go.RowKit Go.Shelf Go.Lib Go.Sort
theorem z6U (a b:Int) (w:World):Calls Try.prog 120 #[.int .i64 a,.int .i64 b] w fun e w'=>e=.returned (.int .i64 (if a < b then -1 else if b < a then 1 else 0))∧w'=w:=by
 have hn:∀ (x:Int) (W:World),Calls Try.prog 124 #[.int .i64 x] W fun e w'=>e=.returned (.bool false)∧w'=W:=fun x W=>by
  have hx:(x != x)=false:=(by simp);go_enter Try.func124,Try.ntmps124;go_wp2;go_ret;exact ⟨rfl,rfl⟩
 by_cases h1:a < b
 ·rw [if_pos h1];go_enter Try.func120,Try.ntmps120;go_wp2_with (go_at_call 124;refine (hn _ _).mono ?_;rintro e w' ⟨rfl,rfl⟩)
  go_ret;exact ⟨rfl,rfl⟩
 ·rw [if_neg h1];by_cases h2:b < a
  ·rw [if_pos h2];go_enter Try.func120,Try.ntmps120;go_wp2_with (go_at_call 124;refine (hn _ _).mono ?_;rintro e w' ⟨rfl,rfl⟩)
   go_ret;exact ⟨rfl,rfl⟩
  ·rw [if_neg h2];go_enter Try.func120,Try.ntmps120;go_wp2_with (go_at_call 124;refine (hn _ _).mono ?_;rintro e w' ⟨rfl,rfl⟩)
   go_ret;exact ⟨rfl,rfl⟩
theorem z9m (x y:Cl) (W:World):Calls Try.prog 117 #[.agg #[.int .i64 x.p,.int .i64 x.w,.int .i64 x.o],.agg #[.int .i64 y.p,.int .i64 y.w,.int .i64 y.o]] W fun e w'=>e=.returned (.int .i64 (cfC x y))∧∃ q os',w'=grow (W.drewN q) os':=by
 have hcon:=fun W'=>z6U y.o x.o W';have he:cfC x y=(if y.o < x.o then -1 else if x.o < y.o then 1 else 0):=rfl;rw [he];generalize (if y.o < x.o then (-1:Int) else if x.o < y.o then 1 else 0)=r at hcon;go_enter Try.func117,Try.ntmps117;go_wp2_with (go_at_call 120;refine (hcon _).mono ?_;rintro e w' ⟨rfl,rfl⟩)
 go_ret;exact ⟨rfl,0,_,by rw [alloc_eq_grow,alloc_eq_grow,grow_grow];rfl⟩
theorem z6w (blk off size:Nat) (w:World):CmpLays Try.prog 117 #[] z0u 3 cfC blk off size w:=fun _ _ _ _ x y=>z9m x y _
theorem egC:∀ args w,(callFunc 117 args).run Try.prog w=.ok (.enter 117 args) w:=enters_of Try.func117 (by kernel_rfl) rfl
theorem z3s (lt:Cl→Cl→Bool) (a:Nat):∀ (j:Nat) (d:Array Cl),(insInner lt a j d).size=d.size
 | 0,d=>by unfold insInner;rfl
 | j+1,d=>by
  unfold insInner
  split
  ·rw [z3s lt a j,size_swp]
  ·rfl
theorem z3t (lt:Cl→Cl→Bool) (a b:Nat):∀ (n i:Nat) (d:Array Cl),b - i=n→(insOuter lt a b i d).size=d.size
 | 0,i,d,hn=>by rw [insOuter_stop _ _ _ _ _ (by omega)]
 | n+1,i,d,hn=>by rw [insOuter_go _ _ _ _ _ (by omega),z3t lt a b n (i+1) _ (by omega),z3s]
theorem z9n (d:Array Cl) (a b:Nat):(Sort.insertionSort (ltOf cfC) d a b).size=d.size:=z3t _ _ _ _ _ _ rfl
shelf_lay_g SlLaysF0.n20 Slsf 20 at Try 122 as insSC
theorem za1 (blk off cap a b:Nat) (d0 d:Array Cl) (w0 w:World) (R:RowK z0u 3 w0 blk off d0) (hs:d0.size=d.size) (S:SWK z0u 3 w0 blk off d w) (hab:a≤b) (hb:b≤d.size) (hsz:d.size < 4611686018427387904) :
  Calls Try.prog 122 #[.slice (some ⟨blk,off,none⟩) d.size cap,.int .i64 a,.int .i64 b,.func (.func 117) #[] #[]] w fun e w' =>
   e=.returned (.tuple #[])∧SWK z0u 3 w0 blk off (Sort.insertionSort (ltOf cfC) d a b) w':=by
 have hbl:blk < w.heap.size:=Nat.lt_of_lt_of_le R.hblk S.le;refine (AnyQ.insertionSortCmpFunc insSC 3 Try.isAgg163 Try.sizeOf163 z0u z49 z4a cfC 117 #[] blk off cap a b d w egC (z6w blk off d.size w) (S.holds R.hblk R.hH (by omega)) hbl hab hb hsz).mono ?_;rintro e w' ⟨rfl,n,os,rfl⟩;exact ⟨rfl,S.on R.hblk n _ os (z9n d a b)⟩
end
section
open Go.Sort
structure SwR (a b n:Nat) (d d':Array Cl):Prop where
 size:d'.size=d.size
 left:∀ t,t < n→d'[a+t]! = d[b+t]!
 right:∀ t,t < n→d'[b+t]! = d[a+t]!
 rest:∀ t,(t < a∨a+n≤t)→(t < b∨b+n≤t)→d'[t]! = d[t]!
theorem SwR.zero (a b:Nat) (d:Array Cl):SwR a b 0 d d:=⟨rfl,fun _ h=>absurd h (Nat.not_lt_zero _),fun _ h=>absurd h (Nat.not_lt_zero _),fun _ _ _=>rfl⟩
theorem SwR.next {a b i:Nat} {d dk:Array Cl} (h:SwR a b i d dk) (hab:a+i < b) (hb:b+i < d.size):SwR a b (i+1) d (swp dk (a+i) (b+i)):=by
 have hs:=h.size;refine ⟨by rw [size_swp];exact hs,fun t ht=>?_,fun t ht=>?_,fun t h1 h2=>?_⟩
 ·by_cases e:t=i
  ·subst e;rw [swp_left _ _ _ (by omega) (by omega)];exact h.rest _ (by omega) (by omega)
  ·rw [swp_other _ _ _ _ (by omega) (by omega)];exact h.left t (by omega)
 ·by_cases e:t=i
  ·subst e;rw [swp_right _ _ _ (by omega)];exact h.rest _ (by omega) (by omega)
  ·rw [swp_other _ _ _ _ (by omega) (by omega)];exact h.right t (by omega)
 ·rw [swp_other _ _ _ _ (by omega) (by omega)];exact h.rest t (by omega) (by omega)
theorem ix {d:Array Cl} {i j:Nat} (h:i=j):d[i]! = d[j]! := by rw [h]
structure z02 (a m b:Nat) (d d':Array Cl):Prop where
 size:d'.size=d.size
 low:∀ t,a≤t→t < a+(b - m)→d'[t]! = d[t+(m - a)]!
 high:∀ t,a+(b - m)≤t→t < b→d'[t]! = d[t - (b - m)]!
 rest:∀ t,t < a∨b≤t→d'[t]! = d[t]!
theorem z02.left_none (m b:Nat) (d:Array Cl):z02 m m b d d :=
 ⟨rfl,fun t _ _=>ix (by omega),fun t h1 h2=>by omega,fun _ _=>rfl⟩
theorem z02.right_none (a m:Nat) (d:Array Cl):z02 a m m d d :=
 ⟨rfl,fun t h1 h2=>by omega,fun t _ _=>ix (by omega),fun _ _=>rfl⟩
theorem z02.more {m i j:Nat} {d dk f:Array Cl} (hj:j < i) (hi:i≤m) (h:SwR (m - i) m j d dk) (k:z02 (m - i+j) m (m+j) dk f):z02 (m - i) m (m+j) d f:=by
 refine ⟨k.size.trans h.size,fun t h1 h2=>?_,fun t h1 h2=>?_,fun t h1=>?_⟩
 ·rw [k.rest t (by omega),ix (show t=m - i+(t - (m - i)) by omega),h.left _ (by omega)];exact ix (by omega)
 ·by_cases e:t < m - i+j+j
  ·rw [k.low t (by omega) (by omega),ix (show t+(m - (m - i+j))=m+(t+i - j - m) by omega),h.right _ (by omega)];exact ix (by omega)
  ·rw [k.high t (by omega) (by omega),h.rest _ (by omega) (by omega)]
 ·rw [k.rest t (by omega),h.rest t (by omega) (by omega)]
theorem z02.less {m i j:Nat} {d dk f:Array Cl} (hj:i < j) (hi:i≤m) (h:SwR (m - i) (m+j - i) i d dk) (k:z02 (m - i) m (m+j - i) dk f):z02 (m - i) m (m+j) d f:=by
 refine ⟨k.size.trans h.size,fun t h1 h2=>?_,fun t h1 h2=>?_,fun t h1=>?_⟩
 ·by_cases e:t < m - i+(j - i)
  ·rw [k.low t (by omega) (by omega),h.rest _ (by omega) (by omega)]
  ·rw [k.high t (by omega) (by omega),ix (show t - (m+j - i - m)=m - i+(t - (j - i) - (m - i)) by omega),h.left _ (by omega)];exact ix (by omega)
 ·rw [k.rest t (by omega),ix (show t=m+j - i+(t - (m+j - i)) by omega),h.right _ (by omega)];exact ix (by omega)
 ·rw [k.rest t (by omega),h.rest t (by omega) (by omega)]
theorem z02.even {m i:Nat} {d f:Array Cl} (hi:i≤m) (h:SwR (m - i) m i d f):z02 (m - i) m (m+i) d f:=by
 refine ⟨h.size,fun t h1 h2=>?_,fun t h1 h2=>?_,fun t h1=>h.rest t (by omega) (by omega)⟩
 ·rw [ix (show t=m - i+(t - (m - i)) by omega),h.left _ (by omega)];exact ix (by omega)
 ·rw [ix (show t=m+(t - m) by omega),h.right _ (by omega)];exact ix (by omega)
theorem z02.up {a k:Nat} {d dk:Array Cl} (h:z02 a (a+1) (k+1) d dk) (hk:a≤k) (hs:k+1 < d.size):z02 a (a+1) (k+2) d (swp dk k (k+1)):=by
 have hz:=h.size;refine ⟨by rw [size_swp];exact hz,fun t h1 h2=>?_,fun t h1 h2=>?_,fun t h1=>?_⟩
 ·by_cases e:t=k
  ·subst e;rw [swp_left _ _ _ (by omega) (by omega),h.rest _ (by omega)];exact ix (by omega)
  ·rw [swp_other _ _ _ _ (by omega) (by omega),h.low t (by omega) (by omega)]
 ·obtain rfl:t=k+1:=by omega
  rw [swp_right _ _ _ (by omega),h.high k (by omega) (by omega)];exact ix (by omega)
 ·rw [swp_other _ _ _ _ (by omega) (by omega),h.rest t (by omega)]
theorem z02.down {m k:Nat} {d dk:Array Cl} (h:z02 (k+1) m (m+1) d dk) (hk:k+1≤m) (hs:m < d.size):z02 k m (m+1) d (swp dk (k+1) k):=by
 have hz:=h.size;refine ⟨by rw [size_swp];exact hz,fun t h1 h2=>?_,fun t h1 h2=>?_,fun t h1=>?_⟩
 ·obtain rfl:t=k:=by omega
  rw [swp_right _ _ _ (by omega),h.low (t+1) (by omega) (by omega)];exact ix (by omega)
 ·by_cases e:t=k+1
  ·subst e;rw [swp_left _ _ _ (by omega) (by omega),h.rest k (by omega)];exact ix (by omega)
  ·rw [swp_other _ _ _ _ (by omega) (by omega),h.high t (by omega) (by omega)]
 ·rw [swp_other _ _ _ _ (by omega) (by omega),h.rest t (by omega)]
theorem z02.perm {a m b:Nat} {d d':Array Cl} (h:z02 a m b d d') (h1:a≤m) (h2:m≤b) (hb:b≤d.size):PermIn a b d d':=by
 refine ⟨h.size,h.rest,?_⟩;rw [extract_toList _ _ _ (by rw [h.size];exact hb),extract_toList _ _ _ hb]
 have e1:(List.range' a (b - a)).map (fun i=>d'[i]!)=(List.range' m (b - m)).map (fun i=>d[i]!) ++ (List.range' a (m - a)).map (fun i=>d[i]!):=by
  apply List.ext_getElem
  ·simp;omega
  ·intro i g1 g2;simp only [List.length_map,List.length_range'] at g1;by_cases e:i < b - m
   ·rw [List.getElem_append_left (by simpa using e)];simp only [List.getElem_map,List.getElem_range'];rw [h.low _ (by omega) (by omega)];exact ix (by omega)
   ·rw [List.getElem_append_right (by simp;omega)];simp only [List.getElem_map,List.getElem_range',List.length_map,List.length_range'];rw [h.high _ (by omega) (by omega)];exact ix (by omega)
 have e2:(List.range' a (b - a)).map (fun i=>d[i]!)=(List.range' a (m - a)).map (fun i=>d[i]!) ++ (List.range' m (b - m)).map (fun i=>d[i]!):=by
  rw [← List.map_append]
  have e3:List.range' a (b - a)=List.range' a (m - a) ++ List.range' m (b - m):=by
   have:=List.range'_append (s:=a) (m:=m - a) (n:=b - m) (step:=1);rw [show a+1 * (m - a)=m by omega,show m - a+(b - m)=b - a by omega] at this;exact this.symm
  rw [e3]
 rw [e1,e2];exact List.perm_append_comm
def zaF (a m b:Nat) (d:Array Cl):Prop:=∀ x y,a≤x→x < m→m≤y→y < b→d[x]!.p < d[y]!.p
structure z1D (a m b:Nat) (d:Array Cl):Prop where
 l:SortedIn tB a m d
 r:SortedIn tB m b d
 c:zaF a m b d
theorem z2D {d:Array Cl} {a b i j:Nat} (h:SortedIn tB a b d) (h1:a≤i) (h2:i≤j) (h3:j < b):tB d[j]! d[i]! = false:=by
 rcases Nat.lt_or_eq_of_le h2 with h4 | rfl
 ·exact h i j h1 h4 h3
 ·exact z2b.irrefl _
theorem z5b {a i b:Nat} {d d':Array Cl} (h:z1D a (a+1) b d) (hr:z02 a (a+1) i d d') (hi:a+1≤i) (hib:i≤b)
  (h1:a+1 < i→tB d[i - 1]! d[a]! = true) (h2:i < b→tB d[i]! d[a]! = false):SortedIn tB a b d':=by
 have hx:∀ q,a+1≤q→q < i→tB d[a]! d[q]! = false:=fun q g1 g2 =>
  z2b.ntrans _ d[i - 1]! _ (z3c (h1 (by omega))) (z2D h.r g1 (by omega) (by omega))
 have hy:∀ q,i≤q→q < b→tB d[q]! d[a]! = false:=fun q g1 g2 =>
  z2b.ntrans _ d[i]! _ (z2D h.r (by omega) g1 g2) (h2 (by omega))
 intro x y g1 g2 g3;have lo:∀ t,a≤t→t < i - 1→d'[t]! = d[t+1]! := fun t q1 q2=>by rw [hr.low t q1 (by omega)];exact ix (by omega)
 have mi:d'[i - 1]! = d[a]! := by rw [hr.high (i - 1) (by omega) (by omega)];exact ix (by omega)
 have hh:∀ t,i≤t→d'[t]! = d[t]! := fun t q=>hr.rest t (by omega);by_cases e1:y < i - 1
 ·rw [lo x g1 (by omega),lo y (by omega) e1];exact h.r _ _ (by omega) (by omega) (by omega)
 ·by_cases e2:y=i - 1
  ·rw [e2,mi,lo x g1 (by omega)];exact hx _ (by omega) (by omega)
  ·rw [hh y (by omega)];by_cases e3:x < i - 1
   ·rw [lo x g1 e3];exact h.r _ _ (by omega) (by omega) g3
   ·by_cases e4:x=i - 1
    ·rw [e4,mi];exact hy y (by omega) g3
    ·rw [hh x (by omega)];exact h.r _ _ (by omega) g2 g3
theorem z4N {a i m:Nat} {d d':Array Cl} (h:z1D a m (m+1) d) (hr:z02 i m (m+1) d d') (hi:a≤i) (hib:i≤m)
  (h1:a < i→tB d[m]! d[i - 1]! = false) (h2:i < m→tB d[m]! d[i]! = true):SortedIn tB a (m+1) d':=by
 have hx:∀ q,a≤q→q < i→tB d[m]! d[q]! = false:=fun q g1 g2 =>
  z2b.ntrans _ d[i - 1]! _ (h1 (by omega)) (z2D h.l g1 (by omega) (by omega))
 have hy:∀ q,i≤q→q < m→tB d[q]! d[m]! = false:=fun q g1 g2 =>
  z2b.ntrans _ d[i]! _ (z2D h.l hi g1 g2) (z3c (h2 (by omega))) |> fun _=>by
   have t1:=z3c (h2 (by omega))
   cases e:tB d[q]! d[m]!
   ·rfl
   ·have:=z2b.trans _ _ _ e (h2 (by omega));rw [z2D h.l hi g1 g2] at this
    cases this
 intro x y g1 g2 g3;have lo:∀ t,t < i→d'[t]! = d[t]! := fun t q=>hr.rest t (by omega);have mi:d'[i]! = d[m]! := by rw [hr.low i (by omega) (by omega)];exact ix (by omega)
 have hh:∀ t,i < t→t < m+1→d'[t]! = d[t - 1]! := fun t q1 q2=>by rw [hr.high t (by omega) (by omega)];exact ix (by omega)
 by_cases e1:y < i
 ·rw [lo x (by omega),lo y e1];exact h.l _ _ g1 g2 (by omega)
 ·by_cases e2:y=i
  ·rw [e2,mi,lo x (by omega)];exact hx x g1 (by omega)
  ·rw [hh y (by omega) g3];by_cases e3:x < i
   ·rw [lo x e3];exact h.l _ _ g1 (by omega) (by omega)
   ·by_cases e4:x=i
    ·rw [e4,mi];exact hy _ (by omega) (by omega)
    ·rw [hh x (by omega) (by omega)];exact h.l _ _ (by omega) (by omega) (by omega)
end
section
open Go.RowKit Go.Shelf Go.Lib Go.Sort
theorem za2 (k:Nat) (zE:∀ w,(Go.sizeOf 163).run Try.prog w=.ok k w) (enc:Cl→List Value) (fv:Value) (blk off cap a b n:Nat) (d0 d:Array Cl) (w0 w:World)
  (R:RowK enc k w0 blk off d0) (hs:d0.size=d.size) (S:SWK enc k w0 blk off d w) (hab:a+n≤b) (hb:b+n≤d.size) (hsz:d.size < 4611686018427387904) :
  Calls Try.prog 128 #[.slice (some ⟨blk,off,none⟩) d.size cap,.int .i64 a,.int .i64 b,.int .i64 n,fv] w fun e w'=>e=.returned (.tuple #[])∧∃ d',SwR a b n d d'∧SWK enc k w0 blk off d' w':=by
 have mixed:Try.prog.follows Departure.mixedOrders=true:=(by kernel_rfl);have S0:Aside (SWK enc k w0 blk off d w):=S;clear S;go_enter Try.func128,Try.ntmps128;go_wp2_with fail
 go_loopg [10] n (fun kx s10 wr=>∃ (i:Nat) (dk:Array Cl),s10=.int .i64 i∧i≤n∧n - i≤kx∧dk.size=d.size∧Aside (SWK enc k w0 blk off dk wr)∧Hid (SwR a b i d dk))
 case atStart=>exact ⟨0,d,rfl,Nat.zero_le _,Nat.le_refl _,rfl,S0,SwR.zero a b d⟩
 case round =>
  clear S0;obtain ⟨i,dk,rfl,hin,hkx,hds,S1,HE⟩:=hrel;by_cases hlt:i < n
  ·have hltz:(i:Int) < (n:Int):=(by omega);have ea:((a:Int)+(i:Int)).toNat=a+i:=(by omega);have pa:(0:Int)≤(a:Int)+(i:Int):=(by omega);have ba:(a:Int)+(i:Int) < (d.size:Int):=(by omega);have ra:IntKind.i64.wrap ((a:Int)+(i:Int))=(a:Int)+(i:Int):=(by rw [IntKind.wrap_i64];omega);have ec:((b:Int)+(i:Int)).toNat=b+i:=(by omega);have pc:(0:Int)≤(b:Int)+(i:Int):=(by omega);have bc:(b:Int)+(i:Int) < (d.size:Int):=(by omega);have rc:IntKind.i64.wrap ((b:Int)+(i:Int))=(b:Int)+(i:Int):=(by rw [IntKind.wrap_i64];omega);have S2:Aside (SWK enc k w0 blk off (swp dk (a+i) (b+i)) ((wr.drew.setCells blk (off+(a+i) * k) (enc dk[b+i]!)).setCells blk (off+(b+i) * k) (enc dk[a+i]!))):=S1.out.swapped R (a+i) (b+i) (by omega) (by omega);have la:=S1.out.ld1 R (by omega) Try.prog (a+i) (by omega);have lb:=S1.out.ld1 R (by omega) Try.prog (b+i) (by omega);have sa:=S1.out.st1 R (by omega) Try.prog (a+i) (by omega) dk[b+i]!;have sb:=S1.out.st2 R (by omega) Try.prog (a+i) (b+i) (by omega) (by omega) dk[b+i]! dk[a+i]!;have na:(enc dk[a+i]!).length=k:=R.hk _;have nb:(enc dk[b+i]!).length=k:=R.hk _;have HN:=Hd (HE.out.next (show a+i < b by omega) (by omega));generalize enc dk[a+i]! = cI at S2 la sb na;generalize enc dk[b+i]! = cJ at S2 lb sa sb nb;clear S1;go_wp2_with fail
   go_big_region_o
   clear la lb sa sb;generalize (wr.drew.setCells blk (off+(a+i) * k) cJ).setCells blk (off+(b+i) * k) cI=w2 at S2 ⊢;go_wp2;go_roundg (n - (i+1))
   case measure=>omega
   case rel=>exact ⟨i+1,swp dk (a+i) (b+i),by go_num,by omega,Nat.le_refl _,by rw [size_swp];exact hds,S2,HN⟩
  ·obtain rfl:i=n:=by omega
   go_wp2
   go_end0
   exact ⟨rfl,dk,HE.out,S1.out⟩
theorem zaG (k:Nat) (zE:∀ w,(Go.sizeOf 163).run Try.prog w=.ok k w) (enc:Cl→List Value) (g:Nat) (cb:Array Value) (blk off cap a m b:Nat) (d0 d:Array Cl) (w0 w:World)
  (R:RowK enc k w0 blk off d0) (hs:d0.size=d.size) (S:SWK enc k w0 blk off d w) (ham:a < m) (hmb:m < b) (hb:b≤d.size) (hsz:d.size < 4611686018427387904) :
  Calls Try.prog 127 #[.slice (some ⟨blk,off,none⟩) d.size cap,.int .i64 a,.int .i64 m,.int .i64 b,.func (.func g) #[] cb] w fun e w'=>e=.returned (.tuple #[])∧∃ d',z02 a m b d d'∧SWK enc k w0 blk off d' w':=by
 have HS:Hid (SWK enc k w0 blk off d w):=S;have HC:=Hd (fun a b n dk W h1 h2 h3 h4=>za2 k zE enc (.func (.func g) #[] cb) blk off cap a b n d0 dk w0 W R h1 h2 h3 h4);clear S zE;have e0:((m - a:Nat):Int)=(m:Int) - (a:Int):=(by omega);have e1:((b - m:Nat):Int)=(b:Int) - (m:Int):=(by omega);go_enter Try.func127,Try.ntmps127;go_wp2_with fail
 go_loopw [10,11] (fun s10 s11 W=>∃ (i j:Nat) (dk:Array Cl),s10=.int .i64 i∧s11=.int .i64 j∧0 < i∧i≤m - a∧0 < j∧j≤b - m∧dk.size=d.size∧Hid (SWK enc k w0 blk off dk W)∧Hid (∀ f,z02 (m - i) m (m+j) dk f→z02 a m b d f)) (fun s10 s11 _=>(intOf s10).toNat+(intOf s11).toNat)
 case atStart=>exact ⟨m - a,b - m,d,by rw [e0],by rw [e1],by omega,Nat.le_refl _,by omega,Nat.le_refl _,rfl,HS,fun f hf=>by rw [show m - (m - a)=a by omega,show m+(b - m)=b by omega] at hf;exact hf⟩
 case round =>
  obtain ⟨i,j,dk,rfl,rfl,hi0,hi,hj0,hj,hds,HK,HF⟩:=hrel;by_cases hij:i=j
  ·subst hij;have hne:((i:Int) != (i:Int))=false:=(by simp);have HW:=HC.out (m - i) m i dk wr (by omega) HK.out (by omega) (by omega) (by omega);have e2:((m - i:Nat):Int)=(m:Int) - (i:Int):=(by omega);rw [e2,hds] at HW;go_wp2_with fail
   refine HW.mono ?_;rintro e w2 ⟨rfl,d2,h2,S2⟩;have HE:=Hd (HF.out d2 (z02.even (by omega) h2));have HS2:=Hd S2;clear h2 S2;go_wp2
   go_end0
   exact ⟨rfl,d2,HE.out,HS2.out⟩
  ·have hne:((i:Int) != (j:Int))=true:=(by simp;omega);by_cases hlt:j < i
   ·have hltz:(j:Int) < (i:Int):=(by omega);have HW:=HC.out (m - i) m j dk wr (by omega) HK.out (by omega) (by omega) (by omega);have e2:((m - i:Nat):Int)=(m:Int) - (i:Int):=(by omega);rw [e2,hds] at HW;go_wp2_with fail
    refine HW.mono ?_;rintro e w2 ⟨rfl,d2,h2,S2⟩;have hd2:=h2.size;have HE:Hid (∀ f,z02 (m - (i - j)) m (m+j) d2 f→z02 a m b d f):=fun f hf=>HF.out f (z02.more hlt (by omega) h2 (by rw [show m - i+j=m - (i - j) by omega];exact hf));have HS2:=Hd S2;clear h2 S2;go_wp2;go_roundw
    case rel=>exact ⟨i - j,j,d2,by rw [show ((i - j:Nat):Int)=(i:Int) - (j:Int) by omega],rfl,by omega,by omega,hj0,hj,by omega,HS2,HE⟩
    case measure=>simp [intOf];omega
   ·have hltz:¬ (j:Int) < (i:Int):=(by omega);have HW:=HC.out (m - i) (m+j - i) i dk wr (by omega) HK.out (by omega) (by omega) (by omega);have e2:((m - i:Nat):Int)=(m:Int) - (i:Int):=(by omega);have e3:((m+j - i:Nat):Int)=(m:Int)+(j:Int) - (i:Int):=(by omega);rw [e2,e3,hds] at HW;go_wp2_with fail
    refine HW.mono ?_;rintro e w2 ⟨rfl,d2,h2,S2⟩;have hd2:=h2.size;have HE:Hid (∀ f,z02 (m - i) m (m+(j - i)) d2 f→z02 a m b d f):=fun f hf=>HF.out f (z02.less (by omega) (by omega) h2 (by rw [show m+j - i=m+(j - i) by omega];exact hf));have HS2:=Hd S2;clear h2 S2;go_wp2;go_roundw
    case rel=>exact ⟨i,j - i,d2,rfl,by rw [show ((j - i:Nat):Int)=(j:Int) - (i:Int) by omega],hi0,hi,by omega,by omega,by omega,HS2,HE⟩
    case measure=>simp [intOf];omega
end
section
open Go.Sort
theorem z8F {a m b s e mid:Nat} {d d1:Array Cl} (h:z1D a m b d) (hr:z02 s m e d d1) (ha:a≤s) (hs:s≤m) (hm:m≤e) (he:e≤b) (hmid:s+e=mid+m)
  (hLo:a < s→e < b→tB d[e]! d[s - 1]! = false) (hHi:s < m→m < e→tB d[e - 1]! d[s]! = true) :
  z1D a s mid d1∧z1D mid e b d1∧∀ x y,a≤x→x < mid→mid≤y→y < b→tB d1[y]! d1[x]! = false:=by
 have p1:∀ t,t < s→d1[t]! = d[t]! := fun t q=>hr.rest t (by omega);have p2:∀ t,s≤t→t < mid→d1[t]! = d[t+(m - s)]! := fun t q1 q2=>hr.low t q1 (by omega);have p3:∀ t,mid≤t→t < e→d1[t]! = d[t - (e - m)]! := fun t q1 q2=>hr.high t (by omega) q2;have p4:∀ t,e≤t→d1[t]! = d[t]! := fun t q=>hr.rest t (by omega);refine ⟨⟨?_,?_,?_⟩,⟨?_,?_,?_⟩,?_⟩
 ·intro x y g1 g2 g3;rw [p1 x (by omega),p1 y g3];exact h.l x y g1 g2 (by omega)
 ·intro x y g1 g2 g3;rw [p2 x g1 (by omega),p2 y (by omega) g3];exact h.r _ _ (by omega) (by omega) (by omega)
 ·intro x y g1 g2 g3 g4;rw [p1 x g2,p2 y g3 g4];exact h.c _ _ g1 (by omega) (by omega) (by omega)
 ·intro x y g1 g2 g3;rw [p3 x g1 (by omega),p3 y (by omega) g3];exact h.l _ _ (by omega) (by omega) (by omega)
 ·intro x y g1 g2 g3;rw [p4 x g1,p4 y (by omega)];exact h.r _ _ (by omega) g2 g3
 ·intro x y g1 g2 g3 g4;rw [p3 x g1 g2,p4 y g3];exact h.c _ _ (by omega) (by omega) (by omega) g4
 ·intro x y g1 g2 g3 g4;by_cases e1:x < s
  ·rw [p1 x e1];by_cases e2:y < e
   ·rw [p3 y g3 e2];exact h.l _ _ g1 (by omega) (by omega)
   ·rw [p4 y (by omega)];exact z2b.ntrans _ d[e]! _ (z2D h.r hm (by omega) g4) (z2b.ntrans _ d[s - 1]! _ (hLo (by omega) (by omega)) (z2D h.l g1 (by omega) (by omega)))
  ·rw [p2 x (by omega) g2];by_cases e2:y < e
   ·rw [p3 y g3 e2];have t1:=hHi (by omega) (by omega);have t2:=z2D h.r (show m≤x+(m - s) by omega) (show x+(m - s)≤e - 1 by omega) (by omega);have t3:=z2D h.l (show a≤s by omega) (show s≤y - (e - m) by omega) (by omega)
    cases e3:tB d[y - (e - m)]! d[x+(m - s)]!
    ·rfl
    ·exfalso
     have t4:=z2b.ntrans _ _ _ t2 (z3c e3);have t5:=z2b.ntrans _ _ _ t4 t3;rw [t1] at t5
     cases t5
   ·rw [p4 y (by omega)];exact h.r _ _ (by omega) (by omega) g4
theorem z1D.kept {a m b c:Nat} {d d':Array Cl} (h:z1D a m b d) (ham:a≤m) (hp:PermIn c a d d'):z1D a m b d':=by
 have e:∀ t,a≤t→d'[t]! = d[t]! := fun t q=>hp.2.1 t (Or.inr q);refine ⟨fun x y g1 g2 g3=>?_,fun x y g1 g2 g3=>?_,fun x y g1 g2 g3 g4=>?_⟩
 ·rw [e x g1,e y (by omega)];exact h.l x y g1 g2 g3
 ·rw [e x (by omega),e y (by omega)];exact h.r x y g1 g2 g3
 ·rw [e x g1,e y (by omega)];exact h.c x y g1 g2 g3 g4
theorem z5z {a mid b:Nat} {d1 d2 d3:Array Cl} (h1:a≤mid) (h2:mid≤b) (hb:b≤d1.size) (hA:∀ x y,a≤x→x < mid→mid≤y→y < b→tB d1[y]! d1[x]! = false)
  (p2:PermIn a mid d1 d2) (s2:SortedIn tB a mid d2) (p3:PermIn mid b d2 d3) (s3:SortedIn tB mid b d3):PermIn a b d1 d3∧SortedIn tB a b d3:=by
 have z2:=p2.1;refine ⟨permIn_trans _ _ _ a b (permIn_mono _ _ a mid a b (Nat.le_refl _) h2 hb p2) (permIn_mono _ _ mid b a b h1 (Nat.le_refl _) (by omega) p3),fun x y g1 g2 g3=>?_⟩;by_cases e1:y < mid
 ·rw [p3.2.1 x (by omega),p3.2.1 y (by omega)];exact s2 x y g1 g2 e1
 ·by_cases e2:mid≤x
  ·exact s3 x y e2 g2 g3
  ·rw [p3.2.1 x (by omega)];refine permIn_all d2 d3 mid b (fun z=>tB z d2[x]! = false) (by omega) p3 (fun q q1 q2=>?_) y (by omega) g3;show tB d2[q]! d2[x]! = false;rw [p2.2.1 q (by omega)];exact permIn_all d1 d2 a mid (fun z=>tB d1[q]! z=false) (by omega) p2 (fun r r1 r2=>hA r q r1 r2 q1 q2) x g1 (by omega)
end
section
open Go.RowKit Go.Shelf Go.Lib Go.Sort
theorem z9o (k:Nat) (zE:∀ w,(Go.sizeOf 163).run Try.prog w=.ok k w) (enc:Cl→List Value) (g:Nat) (cb:Array Value) (blk off cap a m b:Nat) (d0 d:Array Cl) (w0 w:World)
  (eg:∀ args w,(callFunc g args).run Try.prog w=.ok (.enter g args) w) (hcmp:CmpLays Try.prog g cb enc k cfC blk off d0.size w0) (R:RowK enc k w0 blk off d0) (hs:d0.size=d.size) (S:SWK enc k w0 blk off d w) (M:z1D a m b d) (ham:a < m) (hmb:m < b) (hb:b≤d.size) (hsz:d.size < 4611686018427387904) (h1:m=a+1) :
  Calls Try.prog 123 #[.slice (some ⟨blk,off,none⟩) d.size cap,.int .i64 a,.int .i64 m,.int .i64 b,.func (.func g) #[] cb] w fun e w'=>e=.returned (.tuple #[])∧∃ d',PermIn a b d d'∧SortedIn tB a b d'∧SWK enc k w0 blk off d' w':=by
 have mixed:Try.prog.follows Departure.mixedOrders=true:=(by kernel_rfl);have HC:Aside _:=hcmp;have S0:Aside (SWK enc k w0 blk off d w):=S;have HM:Hid (z1D a m b d):=M;clear S hcmp M;have t1:(((m:Int) - (a:Int)) == 1)=true:=(by simp;omega);have hle:m≤a+1:=(by omega);have H1:=Hd h1;clear h1;go_enter Try.func123,Try.ntmps123;go_wp2_with fail
 go_loopg [10,11] (b - m) (fun kx s10 s11 wr=>∃ lo hi:Nat,s10=.int .i64 lo∧s11=.int .i64 hi∧m≤lo∧lo≤hi∧hi≤b∧hi - lo≤kx∧Aside (SWK enc k w0 blk off d wr) ∧
  Hid ((m < lo→tB d[lo - 1]! d[a]! = true)∧(hi < b→tB d[hi]! d[a]! = false)))
 case atStart=>exact ⟨m,b,rfl,rfl,Nat.le_refl _,by omega,Nat.le_refl _,Nat.le_refl _,S0,fun h=>absurd h (Nat.lt_irrefl _),fun h=>absurd h (Nat.lt_irrefl _)⟩
 case round =>
  clear S0;obtain ⟨lo,hi,rfl,rfl,h2,h3,h4,h5,S1,I⟩:=hrel;by_cases hlt:lo < hi
  ·obtain ⟨mi,hmi⟩:∃ mi,mi=(lo+hi) / 2:=⟨_,rfl⟩;have em:((lo:Int)+(hi:Int)) / 2=(mi:Int):=(by omega);have m1:lo≤mi:=(by omega);have m2:mi < hi:=(by omega);clear hmi;have hcv:ltOf cfC d[mi]! d[a]! = tB d[mi]! d[a]! := z5S (HM.out.c a mi (Nat.le_refl _) ham (by omega) (by omega));by_cases hv:cfC d[mi]! d[a]! < 0
   ·have I2:Hid ((m < mi+1→tB d[mi+1 - 1]! d[a]! = true)∧(hi < b→tB d[hi]! d[a]! = false)):=⟨fun _=>by rw [Nat.add_sub_cancel,← hcv];exact decide_eq_true hv,I.out.2⟩;clear hcv;have ea:((mi:Int)).toNat=mi:=(by omega);have pa:(0:Int)≤(mi:Int):=(by omega);have ba:(mi:Int) < (d.size:Int):=(by omega);have ra:IntKind.i64.wrap ((mi:Int))=(mi:Int):=(by rw [IntKind.wrap_i64];omega);have ec:((a:Int)).toNat=a:=(by omega);have pc:(0:Int)≤(a:Int):=(by omega);have bc:(a:Int) < (d.size:Int):=(by omega);have rc:IntKind.i64.wrap ((a:Int))=(a:Int):=(by rw [IntKind.wrap_i64];omega);have la:=S1.out.ld R (by omega) Try.prog (mi) (by omega);have lb:=S1.out.ld R (by omega) Try.prog (a) (by omega);have hc:=S1.out.cmp HC.out (by omega) d[mi]! d[a]!;generalize d[mi]! = x at hc la hv;generalize d[a]! = y at hc lb hv;have hd:decide (cfC x y < 0)=true:=(by simpa using hv);go_wp2_with fail
    go_quiet_grown (first | (go_at_fn g;refine Calls.grown_of (hc _ _)))
    have S2:Aside (SWK enc k w0 blk off d (grow (wr.drewN nq) osq)):=S1.out.grown nq osq;clear la lb hc S1 hd hv;generalize grow (wr.drewN nq) osq=w2 at S2 ⊢;clear nq osq;go_wp2;go_roundg (hi - (mi+1))
    case measure=>omega
    case rel=>exact ⟨mi+1,hi,by go_num,rfl,by omega,by omega,h4,Nat.le_refl _,S2,I2⟩
   ·have I2:Hid ((m < lo→tB d[lo - 1]! d[a]! = true)∧(mi < b→tB d[mi]! d[a]! = false)):=⟨I.out.1,fun _=>by rw [← hcv];exact decide_eq_false hv⟩;clear hcv;have ea:((mi:Int)).toNat=mi:=(by omega);have pa:(0:Int)≤(mi:Int):=(by omega);have ba:(mi:Int) < (d.size:Int):=(by omega);have ra:IntKind.i64.wrap ((mi:Int))=(mi:Int):=(by rw [IntKind.wrap_i64];omega);have ec:((a:Int)).toNat=a:=(by omega);have pc:(0:Int)≤(a:Int):=(by omega);have bc:(a:Int) < (d.size:Int):=(by omega);have rc:IntKind.i64.wrap ((a:Int))=(a:Int):=(by rw [IntKind.wrap_i64];omega);have la:=S1.out.ld R (by omega) Try.prog (mi) (by omega);have lb:=S1.out.ld R (by omega) Try.prog (a) (by omega);have hc:=S1.out.cmp HC.out (by omega) d[mi]! d[a]!;generalize d[mi]! = x at hc la hv;generalize d[a]! = y at hc lb hv;have hd:decide (cfC x y < 0)=false:=(by simpa using hv);go_wp2_with fail
    go_quiet_grown (first | (go_at_fn g;refine Calls.grown_of (hc _ _)))
    have S2:Aside (SWK enc k w0 blk off d (grow (wr.drewN nq) osq)):=S1.out.grown nq osq;clear la lb hc S1 hd hv;generalize grow (wr.drewN nq) osq=w2 at S2 ⊢;clear nq osq;go_wp2;go_roundg (mi - lo)
    case measure=>omega
    case rel=>exact ⟨lo,mi,rfl,rfl,h2,m1,by omega,Nat.le_refl _,S2,I2⟩
  ·obtain rfl:hi=lo:=by omega
   clear hlt h5;go_wp2_with fail
   go_loopg [13] (hi - 1 - a) (fun kx s13 wr2=>∃ (q:Nat) (dk:Array Cl),s13=.int .i64 q∧a≤q∧q≤hi - 1∧hi - 1 - q≤kx∧dk.size=d.size∧Aside (SWK enc k w0 blk off dk wr2)∧Hid (z02 a (a+1) (q+1) d dk))
   case atStart=>exact ⟨a,d,rfl,Nat.le_refl _,by omega,Nat.le_refl _,rfl,S1,z02.right_none a (a+1) d⟩
   case round =>
    clear S1;obtain ⟨q,dk,rfl,g1,g2,g3,hds,S1,HE⟩:=hrel;by_cases hlt:q < hi - 1
    ·have hltz:(q:Int) < (hi:Int) - 1:=(by omega);have HN:=Hd (HE.out.up g1 (by omega));have ea:((q:Int)).toNat=q:=(by omega);have pa:(0:Int)≤(q:Int):=(by omega);have ba:(q:Int) < (d.size:Int):=(by omega);have ra:IntKind.i64.wrap ((q:Int))=(q:Int):=(by rw [IntKind.wrap_i64];omega);have ec:((q:Int)+1).toNat=q+1:=(by omega);have pc:(0:Int)≤(q:Int)+1:=(by omega);have bc:(q:Int)+1 < (d.size:Int):=(by omega);have rc:IntKind.i64.wrap ((q:Int)+1)=(q:Int)+1:=(by rw [IntKind.wrap_i64];omega);have S2:Aside (SWK enc k w0 blk off (swp dk (q) (q+1)) ((wr.drew.setCells blk (off+(q) * k) (enc dk[q+1]!)).setCells blk (off+(q+1) * k) (enc dk[q]!))):=S1.out.swapped R (q) (q+1) (by omega) (by omega);have la:=S1.out.ld1 R (by omega) Try.prog (q) (by omega);have lb:=S1.out.ld1 R (by omega) Try.prog (q+1) (by omega);have sa:=S1.out.st1 R (by omega) Try.prog (q) (by omega) dk[q+1]!;have sb:=S1.out.st2 R (by omega) Try.prog (q) (q+1) (by omega) (by omega) dk[q+1]! dk[q]!;have na:(enc dk[q]!).length=k:=R.hk _;have nb:(enc dk[q+1]!).length=k:=R.hk _;generalize enc dk[q]! = cI at S2 la sb na;generalize enc dk[q+1]! = cJ at S2 lb sa sb nb;clear S1;go_wp2_with fail
     go_big_region_o
     clear la lb sa sb;generalize (wr.drew.setCells blk (off+(q) * k) cJ).setCells blk (off+(q+1) * k) cI=w2 at S2 ⊢;go_wp2;go_roundg (hi - 1 - (q+1))
     case measure=>omega
     case rel=>exact ⟨q+1,swp dk q (q+1),by go_num,by omega,by omega,Nat.le_refl _,by rw [size_swp];exact hds,S2,HN⟩
    ·have hltz:¬ (q:Int) < (hi:Int) - 1:=(by omega);obtain rfl:q=hi - 1:=by omega
     have HR:z02 a (a+1) hi d dk:=(by have:=HE.out;rwa [show hi - 1+1=hi by omega] at this)
     have HD:Hid (PermIn a b d dk∧SortedIn tB a b dk):=by
      refine ⟨permIn_mono _ _ a hi a b (Nat.le_refl _) h4 (by omega) (HR.perm (by omega) (by omega) (by omega)),?_⟩;have h1:=H1.out;subst h1;exact z5b HM.out HR (by omega) h4 I.out.1 I.out.2
     clear HR;go_wp2
     (try simp only [Exit.inBlock,Exit.then])
     refine bodyPost_ret (results_none rfl _ _ _) rfl ?_;exact ⟨rfl,dk,HD.out.1,HD.out.2,S1.out⟩
end
end Go.Proofs.Ytggmjiddadjilam
