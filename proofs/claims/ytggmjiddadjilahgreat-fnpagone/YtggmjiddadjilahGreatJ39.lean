/-
  PROVED HERE: the model's PagBody at a drawn table, any width and heights: the pages of its body, in memory of their own; nothing that was in memory is turned. Also: 1 more texts of the same proof.
-/
import Derived.Test.YtggmjiddadjilahGreatJ36
import Derived.Test.YtggmjiddadjilahGreatJ38
set_option maxRecDepth 1000000
set_option maxHeartbeats 40000000
open Go.Proofs.Tryz
namespace Go.Proofs.YtggmjiddadjilahGreat
open Value (int)
open IntKind (i64)
open Go.RowKit
theorem z3C (hs:List Int):∀ (n a:Nat),a+n<=hs.length->zu (zT hs a n)=(z07 hs a n).sum
 | 0,a,_=>by simp [zT,zu,z07]
 | n+1,a,h=>by
  have e:zu (zT hs a (n+1))=hs.getD a 0 - 0+zu (zT hs (a+1) n):=(by simp [zT,zu])
  have e2:z07 hs a (n+1)=hs.getD a 0 :: z07 hs (a+1) n:=by
   unfold z07;rw [List.drop_eq_getElem_cons (by omega),List.take_succ_cons];simp [List.getD,show a < hs.length by omega]
  rw [e,e2,List.sum_cons,z3C hs n (a+1) (by omega)];omega
theorem zhC {hs:List Int} (hb:∀ x ∈ hs,0<=x/\x<=1000) {a n:Nat} (h:a+n<=hs.length) (hn:n<=1000:=by omega):(z07 hs a n).length<=1000/\(z07 hs a n).all wtB=true:=by
 refine ⟨by rw [z1S h];exact hn,List.all_eq_true.2 (λx hx=>?_)⟩;have:=hb x (List.mem_of_mem_drop (List.mem_of_mem_take hx));exact decide_eq_true (by omega)
theorem zeh {high:List Int} {bes:Int} (hh:∀ x ∈ high,0<=x/\x<=100) (hb:0<=bes/\bes<=16000) (k:Nat):-1000000<=zN (high.map (· - bes)) k/\zN (high.map (· - bes)) k<=1000:=by
 unfold zN;generalize min k ((high.map (· - bes)).length - 1)=j;by_cases hj:j < high.length
 ·have e:(high.map (· - bes)).getD j 0=high[j] - bes:=(by simp [List.getD,hj]);have:=hh _ (List.getElem_mem hj);rw [e];omega
 ·have e:(high.map (· - bes)).getD j 0=0:=(by simp [List.getD,hj]);rw [e];omega
def z4L (high:List Int) (bes:Int) (k:Nat):List Int:=(high.take k).map (· - bes)
theorem zku (high:List Int) (bes:Int) {k:Nat} (h:k<=high.length):(z4L high bes k).length=k:=by unfold z4L;rw [List.length_map,List.length_take];omega
theorem zjX {high:List Int} (bes:Int) {k:Nat} (h:k < high.length):z4L high bes (k+1)=z4L high bes k ++ [high.getD k 0 - bes]:=by
 unfold z4L;rw [List.take_succ_eq_append_getElem h,List.map_append];simp [List.getD,h]
theorem zkv (high:List Int) (bes:Int):z4L high bes high.length=high.map (· - bes):=by unfold z4L;rw [List.take_length]
theorem zkw (w:World):P9 ((w.alloc (.cells #[] 41)).alloc (.cells #[] 45)) w.heap.size (w.heap.size+1) (.slice (some ⟨w.heap.size,0,none⟩) 0 0) [] [] (.slice (some ⟨w.heap.size+1,0,none⟩) 0 0) []:=by
 have h1:(w.alloc (.cells #[] 41)).heap.size=w.heap.size+1:=(by simp);have h2:=z8D (w.alloc (.cells #[] 41)) (w.heap.size+1) (by omega);rw [h1] at h2;refine ⟨⟨rfl,.inr ⟨w.heap.size,0,#[],rfl,lR,(bA (by simp)).trans (zj _ _),lR,nZ,rfl,rfl⟩⟩,zO.nil _ _,h2,Nat.le_succ _,by simp,λi hi=>absurd hi (Nat.not_lt_zero _)⟩
theorem z2u.tf {w w':World} {B:Nat} {us:List Value} {ps:List (Nat × Nat)} (h:z2u w B us ps) (k:TF w w'):z2u w' B us ps:=⟨h.1,λi hi=>k.own (h.2 i hi) (by decide) (by decide)⟩
theorem zdK (rm:List Int) (ps:List (List zk)):z3c rm ps=(ps.foldl (z00 rm) ([],[])).1 ++ [(ps.foldl (z00 rm) ([],[])).2]:=rfl
theorem zhD {rm:List Int} {ps:List (List zk)} (hne:∀ p ∈ ps,p ≠ []) (h:(ps.foldl (z00 rm) ([],[])).2=[]):(ps.foldl (z00 rm) ([],[])).1=[]:=by
 by_cases hp:ps=[]
 ·rw [hp];rfl
 ·exact absurd h (zjU rm hne hp)
theorem zdL (rm:List Int) (ps:List (List zk)):(ps.foldl (z00 rm) ([],[])).1.length<=ps.length:=by
 obtain ⟨A,B,e1,_,e3⟩:=z8F rm ps.length ps rfl;have:ps.length=A.length+B.length:=(by rw [e1,List.length_append]);omega
theorem zhE {w0 w w4:World} {B P:Nat} {pv v':Value} {us:List Value} {pgs:List (List zk)} {gv:Value} {page:List zk} {o:Obj} (h:P9 w B P pv us pgs gv page) (hb:Below B w0 w) (hg:(w.alloc o).grownBy w4 pv.ownBlock) (ho:w4.ownsRow B 41 1 v' (us.length+1) (us ++ [gv])) :
  w4.ownsRow B 41 1 v' (us ++ [gv]).length (us ++ [gv])/\zO w4 B (us ++ [gv]) (pgs ++ [page])/\Below B w0 w4:=by
 have KA:=ze (Below.refl w.heap.size w) o;have hOA:=h.own.alloc o;have hBs:B<=w.heap.size:=nT h.le h.hi;refine ⟨by rw [List.length_append];exact ho,((h.rows.kept KA).grown hOA hg).app (zO.one (((h.page.base h.le).kept KA).grown hOA hg)),(hb.trans (KA.mono hBs)).grown hg (by simp;omega) (λb hb=>(World.ownsRow.lt h.own b hb).1)⟩
theorem z9C (hs:List Int) (a:Nat) {n:Nat} (h:1<=n):zT hs a n ≠ []:=by
 intro e;have:=z1b hs n a;rw [e,List.length_nil] at this;omega
structure PsJ (ac ar ag:Option Addr) (cc cr cg:Nat) (t:T) (width:Int) (l:List Int) (ls:List (List ByteArray)) (rs:List Int) (zz:Nat) (W3:World) (L:Nat->Bool) (W:World) (v26 v27 v28 v29 v30 v31 v32 v33 v34 v8:Value):Prop where
 f0:L 0=true->v26=.agg #[int i64 (Z t).rows,int i64 (Z t).cols,.slice ag (Z t).cells.length cg]
 f1:L 1=true->v27=.agg #[.slice ac t.cols.length cc,int i64 t.head,int i64 t.foot,.slice ar t.rows.length cr,int i64 t.gap]
 f2:L 2=true->v28=.agg #[int i64 (Z t).rows,int i64 (Z t).cols,.slice ag (Z t).cells.length cg]
 f3:L 3=true->v29=.agg #[.slice ac t.cols.length cc,int i64 t.head,int i64 t.foot,.slice ar t.rows.length cr,int i64 t.gap]
 f4:L 4=true->v30=.agg #[int i64 (Z t).rows,int i64 (Z t).cols,.slice ag (Z t).cells.length cg]
 f5:L 5=true->v31=int i64 width
 f6:L 6=true->zA W v32 l
 f7:L 7=true->z2c W zz v33 ls
 f8:L 8=true->zq W zz W.heap.size v34 rs
 f9:L 9=true->zq W zz W.heap.size v8 rs
 b:Below W3.heap.size W3 W
theorem zei (ac ar:Option Addr) (cc cr:Nat) (t:T) (hD:z0g t) (width:Int) (vh:Value) (high:List Int) (w:World) {z:Nat} (hc:z09 w z (.slice ac t.cols.length cc) t.cols) (hr:z05 w z (.slice ar t.rows.length cr) t.rows) (hh:zA w vh high) :
  Calls prog 21 #[.agg #[.slice ac t.cols.length cc,int i64 t.head,int i64 t.foot,.slice ar t.rows.length cr,int i64 t.gap],int i64 width,vh] w λe w'=>∃ v us,e=.returned v/\w'.ownsRow w.heap.size 41 1 v us.length us/\zO w' w.heap.size us (z0Q t width high)/\Below w.heap.size w w':=by
 have hmx:prog.follows .mixedOrders=true:=(by kernel_rfl);obtain ⟨ah,ch,rfl,_⟩:=hh.form;obtain ⟨W0,hW0⟩:∃ W0,w.alloc (.cells #[.slice ac t.cols.length cc,int i64 t.head,int i64 t.foot,.slice ar t.rows.length cr,int i64 t.gap] 26)=W0:=⟨_,rfl⟩;have K0:Below w.heap.size w W0:=(by rw [<-hW0];exact ze bR _);have X0:W0.heap[w.heap.size]?=some (.cells #[.slice ac t.cols.length cc,int i64 t.head,int i64 t.foot,.slice ar t.rows.length cr,int i64 t.gap] 26):=(by rw [<-hW0];exact zj _ _);have HP:Hid (Below w.heap.size w W0/\TA W0 z ac ar cc cr t/\W0.heap[w.heap.size]?=some (.cells #[.slice ac t.cols.length cc,int i64 t.head,int i64 t.foot,.slice ar t.rows.length cr,int i64 t.gap] 26)):=⟨K0,⟨hc.kept K0,hr.kept K0⟩,X0⟩;have HTA:Hid (TA w z ac ar cc cr t):=⟨hc,hr⟩;have HVH:=O (λW (k:Below w.heap.size w W)=>hh.kept k);have KO:=O (zc2 ac ar cc cr t width (.slice ah high.length ch) high W0 HP.out.2.1.1 HP.out.2.1.2 (HVH.out W0 K0));obtain ⟨b0,b1,b2,b3,b4⟩:=zL X0;clear hc hr hh K0 X0
 cases hok:z27 t width high with
 | false =>
  rw [hok] at KO;have HF:Hid (z0Q t width high=[]):=O (by unfold z0Q;rw [if_neg (by rw [hok];simp)]);clear hok;go_enter func21,ntmps21;go_upto_region 1 with fail
  clear hW0;go_wp2_with fail
  refine KO.out.mono ?_;rintro e w1 ⟨rfl,hb1⟩;have HK1:=O (zi HP.out.1 hb1);clear hb1 KO b0 b1 b2 b3 b4 HP;go_wp2;go_ret;exact ⟨_,[],rfl,⟨rfl,.inr ⟨w1.heap.size,0,#[],rfl,HK1.out.size,zj _ _,lR,nZ,rfl,rfl⟩⟩,by rw [HF.out];exact zO.nil _ _,ze HK1.out _⟩
 | true =>
  rw [hok] at KO;have HF:Hid (z0Q t width high=z3c (high.map (· - (zu (zX t (zH t width))+zu (zY t (zH t width))))) (z0B t (zH t width))):=O (by unfold z0Q;rw [if_pos hok]);have hok2:=hok;unfold z27 at hok2;rw [Bool.and_eq_true,Bool.and_eq_true,Bool.and_eq_true] at hok2;obtain ⟨⟨htk,hin⟩,hln,hhs⟩:=hok2;have hi1:0 < high.length:=(by have h:=of_decide_eq_true hln;omega);have hi2:high.length<=60:=(by have h:=of_decide_eq_true hln;omega);have HHB:Hid (∀ x ∈ high,0<=x/\x<=100):=O (λx hx=>of_decide_eq_true (List.all_eq_true.1 hhs x hx));have hw:0<=width/\width<=300:=(by simpa [zM] using hin);have K3:=O (λW h=>zhn ac ar cc cr t hD htk W (z:=z) h);have KL0:=O (λag cg W zg h1 h2 h3=>zaD ac ar cc cr t hD ag cg width hw htk W (z:=z) (zg:=zg) h1 h2 h3);have KE0:=O (λag cg W zg h=>zfI ac ar ag cc cr cg t hD htk W (zg:=zg) h);have hlw:=(zb7 hD htk hw).2.1;have hC88:=(z49 hD htk).2.1;have hl1:(z08 t width).length<=1048576:=(by rw [hlw];omega);have K70:=O (λag cg al cl n W zg (h1:TA W z ac ar cc cr t) h2 h3=>z9i ac ar ag al cc cr cg cl n t hD (z08 t width) hl1 W (z:=z) (zg:=zg) h1 h2 h3);have HE:Hid (zH t width=z0i (rcs (Z t).cells (z0V t (z08 t width) (Z t).cells)) t.rows.length):=(by rw [Hid,zH,htk,hin];rfl);have h40:=ziF hD;have hR8:=zfq hD htk;have hbb:=z0R htk;have HGr:=zfo htk;have HGc:=O (zfp hD htk);have HLl:=O (z3x t (z08 t width) (Z t).cells);have HLa:=O (zck t (z08 t width) (Z t).cells);have KR0:=O (λag cg al cl W {zg zl:Nat} (hg:z1K W zg (.slice ag (Z t).cells.length cg) (Z t).cells) (hl:z2c W zl (.slice al (Z t).cells.length cl) (z0V t (z08 t width) (Z t).cells))=>zaE ag cg (Z t) t.rows.length (by omega) HGr _ al cl HLl.out (by omega) HGc.out HLa.out W hg hl);have hRl:(zH t width).length=t.rows.length:=(by rw [HE.out,z0M]);have HRb:=O (z6f (t:=t) (x:=width));rw [HE.out] at HF hRl HRb;have HTK:=O htk;have HDr:=O hD;clear hok hln hhs hin hD hlw hC88 hl1 HGr htk;generalize z0V t (z08 t width) (Z t).cells=ls at K70 HE KR0 HLl HLa HF hRl HRb;generalize z08 t width=l at KL0 K70;generalize z0i (rcs (Z t).cells ls) t.rows.length=rs at KR0 HE HF hRl HRb;have HRl:=O hRl;clear hRl HE;go_enter func21,ntmps21;go_upto_region 1 with fail
  clear hW0;go_wp2_with fail
  refine KO.out.mono ?_;rintro e w1 ⟨rfl,hb1⟩;have HP1:Hid (Below w.heap.size w w1/\TA w1 z ac ar cc cr t/\w1.heap[w.heap.size]?=some (.cells #[.slice ac t.cols.length cc,int i64 t.head,int i64 t.foot,.slice ar t.rows.length cr,int i64 t.gap] 26)):=⟨zi HP.out.1 hb1,HP.out.2.1.kept hb1,(hb1.block _ (bL HP.out.2.2)).trans HP.out.2.2⟩;clear hb1 KO b0 b1 b2 b3 b4 HP;obtain ⟨b0,b1,b2,b3,b4⟩:=zL HP1.out.2.2;have ht1:=(bL HP1.out.2.2);go_wp2_with fail
  refine (K3.out _ HP1.out.2.1.2).mono ?_;rintro e w2 ⟨ag,cg,rfl,hG2,hb2⟩;have KA:=ze (Below.refl w2.heap.size w2) (.cells #[int i64 (Z t).rows,int i64 (Z t).cols,.slice ag (Z t).cells.length cg] 38);have HG3:=O (hG2.kept KA);have HT3:=O ((HP1.out.2.1.kept hb2).kept KA);have HK3:=O (zi (zi HP1.out.1 hb2) KA);have HX:=O ((zi hb2 KA).block _ ht1 |>.trans HP1.out.2.2);have HY:=O (zj w2 (.cells #[int i64 (Z t).rows,int i64 (Z t).cols,.slice ag (Z t).cells.length cg] 38));have hlg:w2.heap.size < (w2.alloc (.cells #[int i64 (Z t).rows,int i64 (Z t).cols,.slice ag (Z t).cells.length cg] 38)).heap.size:=(by simp);clear hG2 hb2 KA b0 b1 b2 b3 b4 HP1 K3 ht1;go_upto_region 4 with fail
  generalize w2.alloc (.cells #[int i64 (Z t).rows,int i64 (Z t).cols,.slice ag (Z t).cells.length cg] 38)=W3 at HG3 HT3 HK3 HX HY hlg |-;generalize w2.heap.size=gb at HY hlg HG3 |-;have hl0:=(bL HX.out);have HZ:Hid (w.heap.size<=W3.heap.size):=HK3.out.size;have KL:=O (λW (h:Below W3.heap.size W3 W)=>KL0.out ag cg W _ (HT3.out.kept h).1 (HT3.out.kept h).2 (HG3.out.kept h));have K7:=O (λW (h:Below W3.heap.size W3 W) al cl (hI:zA W (.slice al l.length cl) l)=>K70.out ag cg al cl l.length W _ (HT3.out.kept h) (HG3.out.kept h) hI)
  have KR:Hid (∀ W (_:Below W3.heap.size W3 W) al cl (_:z2c W w.heap.size (.slice al ls.length cl) ls),Calls prog 49 #[.agg #[int i64 (Z t).rows,int i64 (Z t).cols,.slice ag (Z t).cells.length cg],.slice al ls.length cl] W λe w'=>∃ v,e=.returned v/\zq w' W.heap.size w'.heap.size v rs/\Below W.heap.size W w'):=λW h al cl hl=>by
   rw [HLl.out] at hl |-;exact KR0.out ag cg al cl W (HG3.out.kept h) hl
  have KE:=O (λW (h:Below W3.heap.size W3 W)=>KE0.out ag cg W _ (HG3.out.kept h));clear KL0 K70 KR0 KE0;refine z0n (λL act W=>∃ v26 v27 v28 v29 v30 v31 v32 v33 v34 v8:Value,act=⟨#[.agg #[.slice ac t.cols.length cc,int i64 t.head,int i64 t.foot,.slice ar t.rows.length cr,int i64 t.gap],int i64 width,.slice ah high.length ch,.pointer (some ⟨w.heap.size,0,none⟩),undef,undef,.slice none 0 0,.pointer (some ⟨gb,0,none⟩),v8,undef,undef,undef,undef,undef,undef,undef,undef,undef,.agg #[.slice ac t.cols.length cc,int i64 t.head,int i64 t.foot,.slice ar t.rows.length cr,int i64 t.gap],int i64 width,.slice ah high.length ch,.bool true,.bool false,undef,.agg #[.slice ac t.cols.length cc,int i64 t.head,int i64 t.foot,.slice ar t.rows.length cr,int i64 t.gap],.agg #[int i64 (Z t).rows,int i64 (Z t).cols,.slice ag (Z t).cells.length cg],v26,v27,v28,v29,v30,v31,v32,v33,v34,undef,undef,undef,undef,undef,undef,undef,undef,undef,undef,undef,undef,undef,undef,undef,undef,undef,undef,undef,undef,undef,undef,undef,undef,undef,undef,undef,undef,undef,undef,undef,undef,undef,undef,undef,undef,undef,undef,undef,undef,undef,undef,undef,undef,undef,undef,undef,undef,undef,undef,undef,undef,undef,undef,undef,undef,undef,undef,undef,undef,undef,undef,undef,undef,undef,undef,undef,undef,undef,undef,undef,undef,undef,undef,undef,undef,undef,undef,undef,undef,undef,undef,undef,undef,undef,undef,undef,undef,undef,undef,undef,undef,undef,undef,undef,undef,undef,undef,undef,undef,undef,undef,undef,undef,undef,undef,undef,undef,undef],[]⟩/\PsJ ac ar ag cc cr cg t width l ls rs w.heap.size W3 L W v26 v27 v28 v29 v30 v31 v32 v33 v34 v8) hmx (by kernel_rfl) ?hs ?hd ?h0
  case h0=>exact e10 ⟨rfl,⟨n0,n0,n0,n0,n0,n0,n0,n0,n0,n0,z0X bR⟩⟩
  case hd =>
   intro L act W hJ hall;obtain ⟨v26,v27,v28,v29,v30,v31,v32,v33,v34,v8,ha,J⟩:=hJ;subst ha;have hRs:=J.f9 (hall 9 (by decide));have hKB:=J.b;clear J hall;have HX4:=O ((hKB.block _ hl0).trans HX.out);have HY4:=O ((hKB.block _ hlg).trans HY.out);have HK4:=O (zi HK3.out hKB);have HKB:=O hKB;have hl4:=nL hl0 hKB.size;obtain ⟨g,cap,rfl,gB,gD,gw,gc1,gc2,_,_⟩:=hRs.get (i:=0) (by have:=HRl.out;omega);have HRs:=O hRs;clear hKB hRs KL K7 KR HX HY HT3;have hrl:=HRl.out;rw [hrl] at HRs gc1 |-;have HRL:=O hrl;have HS1:=O (HRs.out.sub0 (c:=0) (m:=t.head.toNat) (by omega));obtain ⟨E,hE⟩:∃ E,E=t.rows.length - t.foot.toNat:=⟨_,rfl⟩;have hEF:t.foot.toNat=t.rows.length - E:=(by omega);obtain ⟨aE,haE⟩:∃ aE,(if cap=E then some (⟨g,0,none⟩:Addr) else some ⟨g,E,none⟩)=aE:=⟨_,rfl⟩
   have HS2:Hid (zA W (.slice aE (t.rows.length - E) (cap - E)) (z07 rs E (t.rows.length - E))):=O (by
    have h:=HRs.out.sub0 (c:=E) (m:=t.rows.length - E) (by omega);by_cases hc:cap=E
    ·have h0:t.rows.length - E=0:=(by omega);rw [h0];exact ⟨aE,cap - E,by simp [z07],by simp [z07],by have:=gc2;unfold maxLen at this |-;omega,λi hi=>absurd hi (by simp [z07])⟩
    ·rw [if_neg hc] at haE;rw [<-haE];exact h)
   obtain ⟨b0,b1,b2,b3,b4⟩:=zL HX4.out;have hne:=z0H W;have m1:=zm (a:=⟨w.heap.size,1,none⟩) hl4 b1;have m2:=zm (a:=⟨w.heap.size,2,none⟩) hl4 b2;have HW1:=O (zhC HRb.out (a:=0) (n:=t.head.toNat) (by omega));have HW2:=O (zhC HRb.out (a:=E) (n:=t.rows.length - E) (by omega));have HH1:=O (z3C rs t.head.toNat 0 (by omega));have HH2:=O (z3C rs (t.rows.length - E) E (by omega));have KS1:=O (λ(p:BW W)=>z1U (z0I _ (z07 rs 0 t.head.toNat) HW1.out.1 HW1.out.2 p.u (HS1.out.kept p.h)));have KS2:=O (λ(p:BW W)=>z1U (z0I _ (z07 rs E (t.rows.length - E)) HW2.out.1 HW2.out.2 p.u (HS2.out.kept p.h)));rw [<-HH1.out] at KS1;rw [<-HH2.out] at KS2;have hb1:=z3l HRb.out t.head.toNat 0 (by omega);have hb2:=z3l HRb.out (t.rows.length - E) E (by omega);have HHd:Hid (zT rs 0 t.head.toNat=zX t rs):=O rfl;have HFt:Hid (zT rs E (t.rows.length - E)=zY t rs):=O (by rw [<-hEF,hE];rfl);rw [HHd.out] at KS1 hb1;rw [HFt.out] at KS2 hb2;have hw1:IntKind.i64.wrap ((t.rows.length:Int) - t.foot)=(E:Int):=(by rw [IntKind.wrap_i64];omega);have hw2:IntKind.i64.wrap (zu (zX t rs)+zu (zY t rs))=zu (zX t rs)+zu (zY t rs):=(by rw [IntKind.wrap_i64];omega);have t1:(0:Int)<=t.head:=(by omega);have t2:t.head<=(cap:Int):=(by omega);have t3:E<=t.rows.length:=(by omega);have t4:(E:Int)<=(t.rows.length:Int):=(by omega);have t5:(t.rows.length:Int)<=(cap:Int):=(by omega);unfold maxLen at gc2;have hFE:(t.foot:Int)=(t.rows.length:Int) - E:=(by omega);have HFE:=O hFE;clear hrl hFE hE hEF HW1 HW2 HH1 HH2 HS1 HS2 HHd HFt b0 b1 b2 b3 b4;go_upto_region 5 with fail
   refine zv hmx (by kernel_rfl) ?_;repeat (go_big_quiet_step (first | (go_at_call_of 52 (t.head.toNat:Nat);refine KS1.out _) | (go_at_call_of 52 (E:Nat);refine KS2.out _)))
   refine wpQuiet_nil ?_;intro W4 hw';obtain ⟨⟨Wx,hW4⟩,hw''⟩:=hw';subst hw'';have HX5:=O ((hW4.block _ hl4).trans HX4.out);have HY5:=O ((hW4.block _ (nL hlg HKB.out.size)).trans HY4.out);have HK5:=O (zi HK4.out hW4);have HK34:=O (zi HKB.out hW4);have hRI:=(HRs.out.kept (λj h0 _ _=>hW4.block j h0)).base lR hW4.size;rw [<-HRL.out] at hRI;have HRI:=O hRI;have hl5:=nL hl4 hW4.size;have hg5:=nL (nL hlg HKB.out.size) hW4.size;have hws:=HK5.out.size;clear hRI hW4 HRs HX4 HY4 HK4 HKB m1 m2 KS1 KS2 hne hw1 haE t1 t2 t3 t4 t5 gB gD gw;generalize hbes:zu (zX t rs)+zu (zY t rs)=bes at HF hw2 |-;have hbs:0<=bes/\bes<=16000:=(by omega);have HBes:=O hbes;clear hb1 hb2;have HRM:Hid (∀ k,-1000000<=zN (high.map (· - bes)) k/\zN (high.map (· - bes)) k<=1000):=O (zeh HHB.out hbs);have KA5:=ze (Below.refl W4.heap.size W4) (.cells #[] 3);obtain ⟨k0,hk0,hkz0,hkz1,hkz2⟩:=info_parts z9T;obtain ⟨p0,hp0,hpz0,hpz1,hpz2⟩:=info_parts z5i;have HM0:Hid ((W4.alloc (.cells #[] 3)).ownsRow W4.heap.size 3 1 (.slice (some ⟨W4.heap.size,0,none⟩) 0 0) ((z4L high bes 0)).length ((z4L high bes 0).map (Value.int .i64))):=O ⟨rfl,.inr ⟨W4.heap.size,0,#[],rfl,lR,zj _ _,lR,nZ,rfl,rfl⟩⟩;have HKA5:=O KA5;clear KA5;go_upto_region 7 with fail
   clear hw2 hbes;go_wp2_with fail
   go_loopw [10,11] (λo i W=>∃ k:Nat,k<=high.length/\i=int i64 (k:Int)/\Hid (W.ownsRow W4.heap.size 3 1 o (z4L high bes k).length ((z4L high bes k).map (Value.int .i64)))/\Hid (Below W4.heap.size W4 W)) (λ_ i _=>high.length - (intOf i).toNat)
   case atStart=>exact ⟨0,nZ,rfl,HM0,HKA5⟩
   case round =>
    clear HM0 HKA5;obtain ⟨k,hk,rfl,HO,HB⟩:=hrel;have hrml:=zku high bes hk;rw [hrml] at HO;obtain ⟨ao,co,rfl,_⟩:=zP HO.out;have HRml:=O hrml;clear hrml;by_cases hlt:k < high.length
    case pos =>
     obtain ⟨gh,oh,ch2,eh,f1,f2,f3,x1⟩:=(HVH.out wr (HK5.out.trans (HB.out.mono hws))).get hlt;simp only [Value.slice.injEq] at eh;obtain ⟨eh,hz,rfl⟩:=eh;clear hz;subst eh;have HS:=O (zjX bes hlt)
     have hyb:=HHB.out (high.getD k 0) (by
      have e:high.getD k 0=high[k]:=(by simp [List.getD,hlt]);rw [e];exact List.getElem_mem hlt)
     generalize high.getD k 0=y at x1 HS hyb;have hwy:IntKind.i64.wrap (y - bes)=y - bes:=(by rw [IntKind.wrap_i64];omega);have hO:=HO.out;have hsz:=HB.out.size;unfold maxLen at f2;go_wp2_with (at_builtin;refine wpList_append_own _ rfl _ _ 27 rfl W4.heap.size 3 k0 (int i64 0) 1 8 underlying27 hk0 hkz0 hkz1 hkz2 rfl (by decide) _ _ _ rfl (hO.alloc _) ⟨wr.heap.size,0,none⟩ 1 1 [int i64 (y - bes)] rfl rfl ?c1 ?c2 ?c3 ?c4 ?c5 ?_)
     case c1=>exact z0K (zj wr (.cells #[int i64 (y - bes)] 3))
     case c2=>simp [Value.oneCell']
     case c3=>unfold maxLen;omega
     case c4=>omega
     case c5=>simp;omega
     intro v' w5 hown' hgrow' _;have HB5:=O ((ze HB.out (.cells #[int i64 (y - bes)] 3)).grown hgrow' (by simp;omega) (λq hq=>(hO.lt q hq).1))
     have HO5:Hid (w5.ownsRow W4.heap.size 3 1 v' (z4L high bes (k+1)).length ((z4L high bes (k+1)).map (Value.int .i64))):=O (by
      rw [HS.out,List.length_append,HRml.out,List.map_append];exact hown')
     obtain ⟨g',cap',rfl⟩:=Joins.ownsRow_form hown' (by omega);clear hown' hgrow' hO HO HB x1 f1 f2 f3 HRml;go_wp2;go_roundw
     case rel=>exact ⟨k+1,by omega,by go_num,HO5,HB5⟩
     case measure=>simp [intOf];omega
    obtain rfl:k=high.length:=by omega
    have hsz:=HB.out.size;have HX6:=O ((HB.out.block _ hl5).trans HX5.out);have HY6:=O ((HB.out.block _ hg5).trans HY5.out);have HK6:=O (HK5.out.trans (HB.out.mono hws));have HRI6:=O (HRI.out.below HB.out lR);have HRm0:=(zq.of_owns (by rw [HRml.out];exact HO.out:wr.ownsRow W4.heap.size 3 1 (.slice ao high.length co) (z4L high bes high.length).length ((z4L high bes high.length).map (Value.int .i64))));rw [zkv] at HRm0;have HRm:=O HRm0;have hl6:=nL hl5 hsz;have hg6:=nL hg5 hsz;have HKW:=O (HB.out);clear HX5 HY5 HK5 HRI HRm0 HO HB HRml hlt hk hl5 hg5;obtain ⟨W6,hW6⟩:∃ W6,W6=wr:=⟨_,rfl⟩;subst hW6;have K7:=ze (ze (Below.refl W6.heap.size W6) (.cells #[] 41)) (.cells #[] 45);have HP7:=O (zkw W6);have hs7:((W6.alloc (.cells #[] 41)).alloc (.cells #[] 45)).heap.size=W6.heap.size+2:=(by simp);have HX7:=O ((K7.block _ hl6).trans HX6.out);have HY7:=O ((K7.block _ hg6).trans HY6.out);have HK37:=O (HK34.out.trans ((HKW.out.trans (K7.mono (by omega))).mono HK34.out.size));have HK7:=O K7;obtain ⟨b0,b1,b2,b3,b4⟩:=zL HX7.out;obtain ⟨y0,y1,y2⟩:=z26 HY7.out;have KEE:=O (KE.out _ HK37.out);clear K7;go_wp2_with fail
    refine KEE.out.mono ?_;rintro e W8 ⟨ve,es,rfl,hOe,hRe,hb8⟩;obtain ⟨ae,ce,rfl,_⟩:=zP hOe;have hel:=hRe.1;rw [hel] at hOe |-;have HP8:=O (HP7.out.kept hb8);have HB8:=O (zi HK7.out hb8);have HOe:=O hOe;have HRe:=O hRe;have hB8:W6.heap.size+2<=W8.heap.size:=(by have:=hb8.size;omega)
    have hEL:(z0h t).length<=9:=by
     have h1:=z9B t (z0l (Z t).cells t.rows.length) (zQ (Z t).cells t.rows.length).length;have h2:=z3e (Z t).cells t.rows.length;unfold z0h;omega
    have HBF:=O (λ(i:Nat) (h:i < (z0h t).length)=>zhA HDr.out HTK.out HRb.out (rm:=high.map (· - bes)) h);have HSz:=O (ziV t rs (high.map (· - bes)));have HSa:=O (zjW t rs (high.map (· - bes)));have HRm6:=HRm;have HRml:Hid ((high.map (· - bes)).length=high.length):=O (by simp);obtain ⟨rm,hrm⟩:∃ rm,high.map (· - bes)=rm:=⟨_,rfl⟩;rw [hrm] at HBF HSz HSa HRm HRm6 HRml HRM HF
    have HEp:Hid (∀ i,i < (z0h t).length->∃ a m:Nat,1<=m/\a+m<=t.rows.length/\(z0h t).getD i (0,0)=(a,a+m)):=O (λi hi=>by
     have h:=(HBF.out i hi).ab
     exact ⟨((z0h t).getD i (0,0)).1,((z0h t).getD i (0,0)).2 - ((z0h t).getD i (0,0)).1,by omega,by omega,by
      have e:((z0h t).getD i (0,0)).1+(((z0h t).getD i (0,0)).2 - ((z0h t).getD i (0,0)).1)=((z0h t).getD i (0,0)).2:=(by omega);rw [e]⟩)
    clear hOe hRe hb8 hel HP7 HX7 HY7 HK37 HK7 KEE HK34 KE b0 b1 b2 b3 b4 y0 y1 y2 hs7 HY6 hg6 HKW hrm HBes HHB;have hWB:W4.heap.size<=W6.heap.size:=hsz;have hwB:w.heap.size<=W6.heap.size:=(by omega);generalize W6.heap.size=B at HP8 HB8 hB8 hl6 HRm HRI6 HRm6 hWB hwB |-;go_wp2_with fail
    go_loopw [12,13,15] (λpv gv i W=>∃ (k:Nat) (us:List Value) (P:Nat),k<=(z0h t).length/\i=int i64 (k:Int)/\Hid (P9 W B P pv us (stE t rs rm k).1 gv (stE t rs rm k).2)/\Hid (Below B W6 W)/\Hid (TF W8 W)) (λ_ _ i _=>(z0h t).length - (intOf i).toNat)
    case atStart=>exact ⟨0,[],B+1,nZ,rfl,by rw [HSz.out];exact HP8,HB8,TF.refl _⟩
    case round =>
     clear HP8 HB8;obtain ⟨k,us,P,hk,rfl,HQ,HBW,HTF⟩:=hrel;obtain ⟨ap,cp,rfl,_⟩:=zP HQ.out.own;obtain ⟨ag2,cg2,rfl⟩:=HQ.out.page.form;have hul:=HQ.out.len;by_cases hlt:k < (z0h t).length
     case neg =>
      obtain rfl:k=(z0h t).length:=by omega
      rw [HSa.out] at HQ hul |-;have HEnd:=O (HF.out.trans (zdK rm (z0B t rs)));have hnone:=zhD (rm:=rm) (zeO (t:=t) (hs:=rs));have hpl:=(zdL rm (z0B t rs));have hpc:=z65 HTK.out HRb.out;generalize ((z0B t rs).foldl (z00 rm) ([],[])).1=pgs at HQ hul HEnd hnone hpl |-;generalize ((z0B t rs).foldl (z00 rm) ([],[])).2=page at HQ HEnd hnone |-;have hub:us.length<=10000:=(by omega);have hO:=HQ.out.own;have hBv:=HQ.out.hi;have hBP:=HQ.out.le;have HFin:=O (λ(v':Value) (w4:World) (hg:(wr.alloc (.cells #[.slice ag2 page.length cg2] 41)).grownBy w4 (Value.slice ap us.length cp).ownBlock) (ho:w4.ownsRow B 41 1 v' (us.length+1) (us ++ [.slice ag2 page.length cg2]))=>zhE HQ.out HBW.out hg ho);have HKw:=O (λ(w4:World) (h:Below B W6 w4)=>HK6.out.trans (h.mono hwB));clear hpl hpc HQ HBW HTF HSa hk hlt;by_cases he:page=[]
      ·have hz:us.length=0:=(by rw [hul,hnone he];rfl);have hz2:page.length=0:=(by rw [he];rfl);rw [hz2,hz] at HFin |-;rw [hz] at hO;clear hul hnone he hz hz2;go_wp2_with (at_builtin;refine wpList_append_own _ rfl _ _ 30 rfl B 41 p0 _ 1 24 underlying30 hp0 hpz0 hpz1 hpz2 rfl (by decide) _ _ _ rfl (hO.alloc _) ⟨wr.heap.size,0,none⟩ 1 1 [.slice ag2 0 cg2] rfl rfl ?c1 ?c2 ?c3 ?c4 ?c5 ?_)
       case c1=>exact z0K (zj wr (.cells #[.slice ag2 0 cg2] 41))
       case c2=>simp [Value.oneCell']
       case c3=>unfold maxLen;omega
       case c4=>omega
       case c5=>simp;omega
       intro v' w4 hown' hgrow' _;obtain ⟨f1,f2,f3⟩:=HFin.out v' w4 hgrow' hown';have F1:=O f1;have F2:=O f2;have F3:=O f3;clear hown' hgrow' hO HFin f1 f2 f3;go_wp2;go_ret;exact ⟨_,_,rfl,z8E F1.out hwB,by rw [HEnd.out];exact F2.out.base hwB,HKw.out _ F3.out⟩
      ·have hpos:(0:Int) < (page.length:Int):=(by have:=List.length_pos_iff.2 he;omega);clear hul hnone he;obtain ⟨pl,hpl⟩:∃ pl,page.length=pl+1:=⟨page.length - 1,by omega⟩;rw [hpl] at HFin |-;clear hpos hpl;go_wp2_with (at_builtin;refine wpList_append_own _ rfl _ _ 30 rfl B 41 p0 _ 1 24 underlying30 hp0 hpz0 hpz1 hpz2 rfl (by decide) _ _ _ rfl (hO.alloc _) ⟨wr.heap.size,0,none⟩ 1 1 [.slice ag2 (pl+1) cg2] rfl rfl ?c1 ?c2 ?c3 ?c4 ?c5 ?_)
       case c1=>exact z0K (zj wr (.cells #[.slice ag2 (pl+1) cg2] 41))
       case c2=>simp [Value.oneCell']
       case c3=>unfold maxLen;omega
       case c4=>omega
       case c5=>simp;omega
       intro v' w4 hown' hgrow' _;obtain ⟨f1,f2,f3⟩:=HFin.out v' w4 hgrow' hown';have F1:=O f1;have F2:=O f2;have F3:=O f3;clear hown' hgrow' hO HFin f1 f2 f3;go_wp2;go_ret;exact ⟨_,_,rfl,z8E F1.out hwB,by rw [HEnd.out];exact F2.out.base hwB,HKw.out _ F3.out⟩
     obtain ⟨a,m,hm1,hm2,hp⟩:=HEp.out k hlt;have F:=HBF.out k hlt;rw [hp] at F;have HFk:=O F;have hsub:a+m - a=m:=(by omega);have FC:=F.cut;have FW:=F.whole;simp only [hsub] at FC FW;have HFC:=O FC;have HFW:=O FW;have hPA:=(HRe.out.tf HTF.out).pairs (v:=.slice ae (z0h t).length ce) (by rw [HRe.out.1];exact HTF.out.own HOe.out (by decide) (by decide));obtain ⟨qb,qo,qc,eq,g1,g2,g3,ux,x0,hIx⟩:=At.get hPA hlt;rw [hp] at hIx;simp only [Nat.mul_one] at x0;simp only [Value.slice.injEq,true_and] at eq;obtain ⟨rfl,rfl⟩:=eq;obtain ⟨z1,z2,z3,ez,_,_,gz,x1⟩:=hIx.get (i:=0) (by simp);obtain ⟨z4,z5,z6,ez2,gz1,gz2,_,x2⟩:=hIx.get (i:=1) (by simp);subst ez;simp only [Value.slice.injEq,Option.some.injEq,Addr.mk.injEq,and_true] at ez2;obtain ⟨⟨rfl,rfl⟩,hz,rfl⟩:=ez2;simp only [List.getD_cons_zero,List.getD_cons_succ,Nat.add_zero,Int.natCast_add] at x1 x2;simp only [List.length_cons,List.length_nil] at gz1 x0;unfold maxLen at g2 gz2;have hne:=z0H wr;have m0:=zm (a:=⟨qb,qo+k,none⟩) g3 x0;have m1:=zm (a:=⟨z1,z2,none⟩) gz x1;have m2:=zm (a:=⟨z1,z2+1,none⟩) gz x2;clear hz x0 x1 x2 hIx hPA F FC FW hp hsub hul HEp g3 gz;go_upto_region 17 with fail
     refine zv hmx (by kernel_rfl) ?_;repeat (go_big_quiet_step (fail))
     refine wpQuiet_nil ?_;intro W5 hw';obtain ⟨⟨Wx,hW5⟩,hw''⟩:=hw';subst hw'';have hBP:=HQ.out.le;have hBw:=nT hBP HQ.out.hi;have HQ5:=O (HQ.out.kept hW5);have HBW5:=O (HBW.out.trans (hW5.mono hBw));have HTF5:=O (HTF.out.trans (TF.of_below hW5));have hB5:=nT hBw hW5.size;have hBW5:=hB5;obtain ⟨e0,e1,e2,e3,e4⟩:=zL ((HBW5.out.block _ hl6).trans HX6.out);have HIv:=O (HRI6.out.below HBW5.out hWB).at;obtain ⟨br,offr,capr,er,r1,r2,r3,ur,r4,r5,r6⟩:=(HTA.out.kept (HK6.out.trans (HBW5.out.mono hwB))).2.get (i:=a) (by omega);simp only [Value.slice.injEq] at er;obtain ⟨er,hz,rfl⟩:=er;clear hz r3 r4 r6;obtain ⟨bh,oh,ch3,eh,q1,q2,q3,q4⟩:=HIv.out.get (i:=a) (by have:=HRl.out;omega);simp only [Value.slice.injEq,Option.some.injEq,Addr.mk.injEq,and_true] at eh;obtain ⟨⟨rfl,rfl⟩,hz,rfl⟩:=eh;clear hz q3 m0 m1 m2 hne HQ HBW HTF hW5;subst er;unfold maxLen at r2 q2
     have hya:0<=rs.getD a 0/\rs.getD a 0<=1000:=HRb.out _ (by
      have h:a < rs.length:=(by have:=HRl.out;omega);simp [List.getD,h])
     have hlr:rs.length=t.rows.length:=HRl.out;rw [hlr] at q1;clear hlr;rw [Nat.zero_add] at q4;generalize rs.getD a 0=y at q4 HFC HFW hya;generalize (t.rows.getD a dR).whole=wh at r5 HFC HFW;have hwd:IntKind.i64.wrap ((a:Int)+(m:Int) - (a:Int))=(m:Int):=(by rw [IntKind.wrap_i64];omega);by_cases hm3:m=1
     ·subst hm3
      cases wh with
      | false =>
       by_cases h0:0 < y
       ·obtain ⟨n,rfl⟩:∃ n:Nat,y=n:=⟨y.toNat,by omega⟩;have HCk:=O (HFC.out ⟨⟨rfl,rfl⟩,h0⟩);clear HFC HFW;have KC:=O (zhB rm (by have:=HRml.out;omega) (by have:=HRml.out;omega) HRM.out _ B P _ _ us (stE t rs rm k).1 (stE t rs rm k).2 (a:Int) n (by omega) HFk.out.ahead.last HFk.out.low.1 (by have:=HCk.out.2;rw [Int.toNat_natCast] at this;exact this) (by have:=HFk.out.pgs;omega) HFk.out.len W5 hBW5 (λW' h=>(HRm.out.below (HBW5.out.trans h) lR).at) HQ5.out);go_wp2_with fail
        refine KC.out.mono ?_;rintro e w8 ⟨P6,pv6,us6,gv6,rfl,hP6,hB6,hT6⟩;have HN:Hid (P9 w8 B P6 pv6 us6 (stE t rs rm (k+1)).1 gv6 (stE t rs rm (k+1)).2):=O (by rw [HCk.out.1,Int.toNat_natCast];exact hP6);have HB6:=O (HBW5.out.trans hB6);have HT6:=O (HTF5.out.trans hT6);clear hP6 hB6 hT6 KC HQ5 HBW5 HTF5 HIv e0 e1 e2 e3 e4 r5 q4;go_wp2;go_roundw
        case rel=>exact ⟨k+1,us6,P6,by omega,by go_num,HN,HB6,HT6⟩
        case measure=>simp [intOf];omega
       ·have HWk:=O (HFW.out (λh=>h0 h.2));obtain rfl:y=0:=by omega
        clear h0;clear HFC HFW;go_upto_region 20 with fail
        clear hwd;go_wp2_with fail
        have hIv2:=HIv.out;rw [HRl.out] at hIv2;refine (z4x rs a 1 (by have:=HRl.out;omega) (by have:=HRl.out;omega) (a:Int) ((a:Int)+1) rfl rfl _ W5 hIv2).mono ?_;rintro e w7 ⟨ub,rfl,hU,hb7⟩;clear hIv2;have HQ7:=O (HQ5.out.kept hb7);have HB7:=O (HBW5.out.trans (hb7.mono hBW5));have HT7:=O (HTF5.out.trans (TF.of_below hb7));have hB7:B<=w7.heap.size:=nT hBW5 hb7.size;have KW:=O (z6X rm (by have:=HRml.out;omega) (by have:=HRml.out;omega) HRM.out _ B P _ _ ub us (stE t rs rm k).1 (stE t rs rm k).2 (zT rs a 1) HFk.out.low HWk.out.2 (by have:=HFk.out.pgs;omega) HFk.out.len (z9C rs a hm1) (by rw [z1b];omega) w7 hB7 (HRm.out.below HB7.out lR).at HQ7.out (hU.base hB5));clear hb7 hU HQ7;go_wp2_with fail
        refine KW.out.mono ?_;rintro e w8 ⟨P6,pv6,us6,gv6,rfl,hP6,hB6,hT6⟩;have HN:Hid (P9 w8 B P6 pv6 us6 (stE t rs rm (k+1)).1 gv6 (stE t rs rm (k+1)).2):=O (by rw [HWk.out.1];exact hP6);have HB6:=O (HB7.out.trans hB6);have HT6:=O (HT7.out.trans hT6);clear hP6 hB6 hT6 KW HB7 HT7 HQ5 HBW5 HTF5 HIv e0 e1 e2 e3 e4 r5 q4;go_wp2;go_roundw
        case rel=>exact ⟨k+1,us6,P6,by omega,by go_num,HN,HB6,HT6⟩
        case measure=>simp [intOf];omega
      | true =>
       have HWk:=O (HFW.out (λh=>by cases h.1.2));clear HFC HFW;go_upto_region 20 with fail
       clear hwd;go_wp2_with fail
       have hIv2:=HIv.out;rw [HRl.out] at hIv2;refine (z4x rs a 1 (by have:=HRl.out;omega) (by have:=HRl.out;omega) (a:Int) ((a:Int)+1) rfl rfl _ W5 hIv2).mono ?_;rintro e w7 ⟨ub,rfl,hU,hb7⟩;clear hIv2;have HQ7:=O (HQ5.out.kept hb7);have HB7:=O (HBW5.out.trans (hb7.mono hBW5));have HT7:=O (HTF5.out.trans (TF.of_below hb7));have hB7:B<=w7.heap.size:=nT hBW5 hb7.size;have KW:=O (z6X rm (by have:=HRml.out;omega) (by have:=HRml.out;omega) HRM.out _ B P _ _ ub us (stE t rs rm k).1 (stE t rs rm k).2 (zT rs a 1) HFk.out.low HWk.out.2 (by have:=HFk.out.pgs;omega) HFk.out.len (z9C rs a hm1) (by rw [z1b];omega) w7 hB7 (HRm.out.below HB7.out lR).at HQ7.out (hU.base hB5));clear hb7 hU HQ7;go_wp2_with fail
       refine KW.out.mono ?_;rintro e w8 ⟨P6,pv6,us6,gv6,rfl,hP6,hB6,hT6⟩;have HN:Hid (P9 w8 B P6 pv6 us6 (stE t rs rm (k+1)).1 gv6 (stE t rs rm (k+1)).2):=O (by rw [HWk.out.1];exact hP6);have HB6:=O (HB7.out.trans hB6);have HT6:=O (HT7.out.trans hT6);clear hP6 hB6 hT6 KW HB7 HT7 HQ5 HBW5 HTF5 HIv e0 e1 e2 e3 e4 r5 q4;go_wp2;go_roundw
       case rel=>exact ⟨k+1,us6,P6,by omega,by go_num,HN,HB6,HT6⟩
       case measure=>simp [intOf];omega
     ·have HWk:=O (HFW.out (λh=>hm3 h.1.1));have hme:((m:Int) == 1)=false:=beq_eq_false_iff_ne.2 (by omega);clear HFC HFW hm3;go_upto_region 20 with fail
      clear hwd;go_wp2_with fail
      have hIv2:=HIv.out;rw [HRl.out] at hIv2;refine (z4x rs a m (by have:=HRl.out;omega) (by have:=HRl.out;omega) (a:Int) ((a:Int)+(m:Int)) rfl rfl _ W5 hIv2).mono ?_;rintro e w7 ⟨ub,rfl,hU,hb7⟩;clear hIv2;have HQ7:=O (HQ5.out.kept hb7);have HB7:=O (HBW5.out.trans (hb7.mono hBW5));have HT7:=O (HTF5.out.trans (TF.of_below hb7));have hB7:B<=w7.heap.size:=nT hBW5 hb7.size;have KW:=O (z6X rm (by have:=HRml.out;omega) (by have:=HRml.out;omega) HRM.out _ B P _ _ ub us (stE t rs rm k).1 (stE t rs rm k).2 (zT rs a m) HFk.out.low HWk.out.2 (by have:=HFk.out.pgs;omega) HFk.out.len (z9C rs a hm1) (by rw [z1b];omega) w7 hB7 (HRm.out.below HB7.out lR).at HQ7.out (hU.base hB5));clear hb7 hU HQ7;go_wp2_with fail
      refine KW.out.mono ?_;rintro e w8 ⟨P6,pv6,us6,gv6,rfl,hP6,hB6,hT6⟩;have HN:Hid (P9 w8 B P6 pv6 us6 (stE t rs rm (k+1)).1 gv6 (stE t rs rm (k+1)).2):=O (by rw [HWk.out.1];exact hP6);have HB6:=O (HB7.out.trans hB6);have HT6:=O (HT7.out.trans hT6);clear hP6 hB6 hT6 KW HB7 HT7 HQ5 HBW5 HTF5 HIv e0 e1 e2 e3 e4 r5 q4;go_wp2;go_roundw
      case rel=>exact ⟨k+1,us6,P6,by omega,by go_num,HN,HB6,HT6⟩
      case measure=>simp [intOf];omega
  case hs =>
   intro L act W i o hJ hcl ho hLi haft K hK;obtain ⟨v26,v27,v28,v29,v30,v31,v32,v33,v34,v8,ha,J⟩:=hJ;subst ha
   have hi':i < 10:=by
    have:=(bL ho)
    simpa using this
   rcases (by omega:i=0\/i=1\/i=2\/i=3\/i=4\/i=5\/i=6\/i=7\/i=8\/i=9) with rfl | rfl | rfl | rfl | rfl | rfl | rfl | rfl | rfl | rfl
   all_goals
    simp only [List.getElem?_toArray,List.getElem?_cons_zero,List.getElem?_cons_succ,Option.some.injEq] at ho;subst ho;clear hi'
   ·obtain ⟨q0,q1,q2⟩:=z26 ((J.b.block _ hlg).trans HY.out);have hl:=nL hlg J.b.size;go_simp;exact hK _ _ (e10 ⟨rfl,⟨λ_=>rfl,V J.f1,V J.f2,V J.f3,V J.f4,V J.f5,V J.f6,V J.f7,V J.f8,V J.f9,J.b⟩⟩)
   ·obtain ⟨q0,q1,q2,q3,q4⟩:=zL ((J.b.block _ hl0).trans HX.out);have hl:=nL hl0 J.b.size;go_simp;exact hK _ _ (e10 ⟨rfl,⟨V J.f0,λ_=>rfl,V J.f2,V J.f3,V J.f4,V J.f5,V J.f6,V J.f7,V J.f8,V J.f9,J.b⟩⟩)
   ·obtain ⟨q0,q1,q2⟩:=z26 ((J.b.block _ hlg).trans HY.out);have hl:=nL hlg J.b.size;go_simp;exact hK _ _ (e10 ⟨rfl,⟨V J.f0,V J.f1,λ_=>rfl,V J.f3,V J.f4,V J.f5,V J.f6,V J.f7,V J.f8,V J.f9,J.b⟩⟩)
   ·obtain ⟨q0,q1,q2,q3,q4⟩:=zL ((J.b.block _ hl0).trans HX.out);have hl:=nL hl0 J.b.size;go_simp;exact hK _ _ (e10 ⟨rfl,⟨V J.f0,V J.f1,V J.f2,λ_=>rfl,V J.f4,V J.f5,V J.f6,V J.f7,V J.f8,V J.f9,J.b⟩⟩)
   ·obtain ⟨q0,q1,q2⟩:=z26 ((J.b.block _ hlg).trans HY.out);have hl:=nL hlg J.b.size;go_simp;exact hK _ _ (e10 ⟨rfl,⟨V J.f0,V J.f1,V J.f2,V J.f3,λ_=>rfl,V J.f5,V J.f6,V J.f7,V J.f8,V J.f9,J.b⟩⟩)
   ·go_simp;exact hK _ _ (e10 ⟨rfl,⟨V J.f0,V J.f1,V J.f2,V J.f3,V J.f4,λ_=>rfl,V J.f6,V J.f7,V J.f8,V J.f9,J.b⟩⟩)
   ·obtain rfl:=J.f3 (Fa haft 3);obtain rfl:=J.f4 (Fa haft 4);obtain rfl:=J.f5 (Fa haft 5);go_simp;go_wp2_with (go_at_call 51;refine (KL.out W J.b).mono ?_;rintro e W2 ⟨v,rfl,hR,hb⟩;have hI:=hR.at;clear hR)
    exact e10 ⟨rfl,⟨V J.f0,V J.f1,V J.f2,V J.f3,V J.f4,V J.f5,λ_=>hI,λh=>(J.f7 (un h)).kept hb,λh=>((J.f8 (un h)).kept (λj h0 _ _=>hb.block j h0)).base lR hb.size,λh=>((J.f9 (un h)).kept (λj h0 _ _=>hb.block j h0)).base lR hb.size,zi J.b hb⟩⟩
   ·obtain rfl:=J.f1 (Fa haft 1);obtain rfl:=J.f2 (Fa haft 2);have hI:=J.f6 (Fa haft 6);obtain ⟨aq,cq,rfl,_⟩:=hI.form;go_simp;go_wp2_with (go_at_call 50;refine (K7.out W J.b _ _ hI).mono ?_;rintro e W2 ⟨v,rfl,hR,hb⟩;have hI2:=hR.base (z':=w.heap.size) (nT HZ.out J.b.size);clear hR)
    exact e10 ⟨rfl,⟨V J.f0,V J.f1,V J.f2,V J.f3,V J.f4,V J.f5,λh=>(J.f6 (un h)).kept hb,λ_=>hI2,λh=>((J.f8 (un h)).kept (λj h0 _ _=>hb.block j h0)).base lR hb.size,λh=>((J.f9 (un h)).kept (λj h0 _ _=>hb.block j h0)).base lR hb.size,zi J.b hb⟩⟩
   ·obtain rfl:=J.f0 (Fa haft 0);have hI:=J.f7 (Fa haft 7);obtain ⟨aq,cq,rfl,_⟩:=At.form hI;go_simp;go_wp2_with (go_at_call 49;refine (KR.out W J.b _ _ hI).mono ?_;rintro e W2 ⟨v,rfl,hR,hb⟩;have hI2:=hR.base (B':=w.heap.size) (nT HZ.out J.b.size) lR;clear hR)
    exact e10 ⟨rfl,⟨V J.f0,V J.f1,V J.f2,V J.f3,V J.f4,V J.f5,λh=>(J.f6 (un h)).kept hb,λh=>(J.f7 (un h)).kept hb,λ_=>hI2,λh=>((J.f9 (un h)).kept (λj h0 _ _=>hb.block j h0)).base lR hb.size,zi J.b hb⟩⟩
   ·have hI2:=J.f8 (Fa haft 8);go_simp;exact hK _ _ (e10 ⟨rfl,⟨V J.f0,V J.f1,V J.f2,V J.f3,V J.f4,V J.f5,V J.f6,V J.f7,V J.f8,λ_=>hI2,J.b⟩⟩)
structure zl6 (ac ar ag:Option Addr) (cc cr cg:Nat) (t:T) (width:Int) (l:List Int) (ls:List (List ByteArray)) (rs:List Int) (zz:Nat) (W3:World) (L:Nat->Bool) (W:World) (v17 v18 v19 v20 v21 v22 v23 v24 v25 v4:Value):Prop where
 f0:L 0=true->v17=.agg #[int i64 (Z t).rows,int i64 (Z t).cols,.slice ag (Z t).cells.length cg]
 f1:L 1=true->v18=.agg #[.slice ac t.cols.length cc,int i64 t.head,int i64 t.foot,.slice ar t.rows.length cr,int i64 t.gap]
 f2:L 2=true->v19=.agg #[int i64 (Z t).rows,int i64 (Z t).cols,.slice ag (Z t).cells.length cg]
 f3:L 3=true->v20=.agg #[.slice ac t.cols.length cc,int i64 t.head,int i64 t.foot,.slice ar t.rows.length cr,int i64 t.gap]
 f4:L 4=true->v21=.agg #[int i64 (Z t).rows,int i64 (Z t).cols,.slice ag (Z t).cells.length cg]
 f5:L 5=true->v22=int i64 width
 f6:L 6=true->zA W v23 l
 f7:L 7=true->z2c W zz v24 ls
 f8:L 8=true->zq W zz W.heap.size v25 rs
 f9:L 9=true->zq W zz W.heap.size v4 rs
 b:Below W3.heap.size W3 W
theorem zej (ac ar:Option Addr) (cc cr:Nat) (t:T) (hD:z0g t) (width:Int) (w:World) {z:Nat} (hc:z09 w z (.slice ac t.cols.length cc) t.cols) (hr:z05 w z (.slice ar t.rows.length cr) t.rows) :
  Calls prog 33 #[.agg #[.slice ac t.cols.length cc,int i64 t.head,int i64 t.foot,.slice ar t.rows.length cr,int i64 t.gap],int i64 width] w λe w'=>∃ v,e=.returned v/\zq w' w.heap.size w'.heap.size v (zH t width)/\Below w.heap.size w w':=by
 have hmx:prog.follows .mixedOrders=true:=(by kernel_rfl);obtain ⟨W0,hW0⟩:∃ W0,w.alloc (.cells #[.slice ac t.cols.length cc,int i64 t.head,int i64 t.foot,.slice ar t.rows.length cr,int i64 t.gap] 26)=W0:=⟨_,rfl⟩;have K0:Below w.heap.size w W0:=(by rw [<-hW0];exact ze bR _);have X0:W0.heap[w.heap.size]?=some (.cells #[.slice ac t.cols.length cc,int i64 t.head,int i64 t.foot,.slice ar t.rows.length cr,int i64 t.gap] 26):=(by rw [<-hW0];exact zj _ _);have HP:Hid (Below w.heap.size w W0/\TA W0 z ac ar cc cr t/\W0.heap[w.heap.size]?=some (.cells #[.slice ac t.cols.length cc,int i64 t.head,int i64 t.foot,.slice ar t.rows.length cr,int i64 t.gap] 26)):=⟨K0,⟨hc.kept K0,hr.kept K0⟩,X0⟩;have KO:=O (z86 ac ar cc cr t W0 HP.out.2.1.1 HP.out.2.1.2);obtain ⟨b0,b1,b2,b3,b4⟩:=zL X0;clear hc hr K0 X0
 cases htk:zF t with
 | false =>
  rw [htk] at KO;have HE:Hid (zH t width=[]):=(by rw [Hid,zH,htk];rfl);clear htk;go_enter func33,ntmps33;go_upto_region 1 with fail
  clear hW0;go_wp2_with fail
  refine KO.out.mono ?_;rintro e w1 ⟨rfl,hb1⟩;have HK1:=O (zi HP.out.1 hb1);clear hb1 KO b0 b1 b2 b3 b4 HP;go_wp2;go_ret;exact ⟨_,rfl,by rw [HE.out];exact zdx _ _ HK1.out.size,ze HK1.out _⟩
 | true =>
  rw [htk] at KO;have HIn:=O (z0t width 0 300)
  cases hin:zM width 0 300 with
  | false =>
   have HE:Hid (zH t width=[]):=(by rw [Hid,zH,htk,hin];rfl);rw [hin] at HIn;clear htk hin hD;go_enter func33,ntmps33;go_upto_region 1 with fail
   clear hW0;go_wp2_with fail
   refine KO.out.mono ?_;rintro e w1 ⟨rfl,hb1⟩;have HK1:=O (zi HP.out.1 hb1);clear hb1 KO b0 b1 b2 b3 b4 HP;go_wp2_with fail
   refine (HIn.out _).mono ?_;rintro e w2 ⟨rfl,rfl⟩;go_wp2;go_ret;exact ⟨_,rfl,by rw [HE.out];exact zdx _ _ HK1.out.size,ze HK1.out _⟩
  | true =>
   have hw:0<=width/\width<=300:=(by simpa [zM] using hin);have K3:=O (λW h=>zhn ac ar cc cr t hD htk W (z:=z) h);have KL0:=O (λag cg W zg h1 h2 h3=>zaD ac ar cc cr t hD ag cg width hw htk W (z:=z) (zg:=zg) h1 h2 h3);obtain ⟨_,hlw,_⟩:=zb7 hD htk hw;obtain ⟨_,hC88,_⟩:=z49 hD htk;have hl1:(z08 t width).length<=1048576:=(by rw [hlw];omega);have K70:=O (λag cg al cl n W zg (h1:TA W z ac ar cc cr t) h2 h3=>z9i ac ar ag al cc cr cg cl n t hD (z08 t width) hl1 W (z:=z) (zg:=zg) h1 h2 h3);have HE:Hid (zH t width=z0i (rcs (Z t).cells (z0V t (z08 t width) (Z t).cells)) t.rows.length):=(by rw [Hid,zH,htk,hin];rfl);rw [hin] at HIn;have h40:=ziF hD;have hR8:=zfq hD htk;have HGr:=zfo htk;have HGc:=O (zfp hD htk);have HLl:=O (z3x t (z08 t width) (Z t).cells);have HLa:=O (zck t (z08 t width) (Z t).cells);have KR0:=O (λag cg al cl W {zg zl:Nat} (hg:z1K W zg (.slice ag (Z t).cells.length cg) (Z t).cells) (hl:z2c W zl (.slice al (Z t).cells.length cl) (z0V t (z08 t width) (Z t).cells))=>zaE ag cg (Z t) t.rows.length (by omega) HGr _ al cl HLl.out (by omega) HGc.out HLa.out W hg hl);clear htk hin hD hlw hC88 hl1 HGr;generalize z0V t (z08 t width) (Z t).cells=ls at K70 HE KR0 HLl HLa;generalize z08 t width=l at KL0 K70;generalize z0i (rcs (Z t).cells ls) t.rows.length=rs at KR0 HE;go_enter func33,ntmps33;go_upto_region 1 with fail
   clear hW0;go_wp2_with fail
   refine KO.out.mono ?_;rintro e w1 ⟨rfl,hb1⟩;have HP1:Hid (Below w.heap.size w w1/\TA w1 z ac ar cc cr t/\w1.heap[w.heap.size]?=some (.cells #[.slice ac t.cols.length cc,int i64 t.head,int i64 t.foot,.slice ar t.rows.length cr,int i64 t.gap] 26)):=⟨zi HP.out.1 hb1,HP.out.2.1.kept hb1,(hb1.block _ (bL HP.out.2.2)).trans HP.out.2.2⟩;clear hb1 KO b0 b1 b2 b3 b4 HP;go_wp2_with fail
   refine (HIn.out _).mono ?_;rintro e w1 ⟨rfl,rfl⟩;obtain ⟨b0,b1,b2,b3,b4⟩:=zL HP1.out.2.2;have ht1:=(bL HP1.out.2.2);go_wp2_with fail
   refine (K3.out _ HP1.out.2.1.2).mono ?_;rintro e w2 ⟨ag,cg,rfl,hG2,hb2⟩;have KA:=ze (Below.refl w2.heap.size w2) (.cells #[int i64 (Z t).rows,int i64 (Z t).cols,.slice ag (Z t).cells.length cg] 38);have HG3:=O (hG2.kept KA);have HT3:=O ((HP1.out.2.1.kept hb2).kept KA);have HK3:=O (zi (zi HP1.out.1 hb2) KA);have HX:=O ((zi hb2 KA).block _ ht1 |>.trans HP1.out.2.2);have HY:=O (zj w2 (.cells #[int i64 (Z t).rows,int i64 (Z t).cols,.slice ag (Z t).cells.length cg] 38));have hlg:w2.heap.size < (w2.alloc (.cells #[int i64 (Z t).rows,int i64 (Z t).cols,.slice ag (Z t).cells.length cg] 38)).heap.size:=(by simp);clear hG2 hb2 KA b0 b1 b2 b3 b4 HP1 K3 HIn ht1;go_upto_region 4 with fail
   generalize w2.alloc (.cells #[int i64 (Z t).rows,int i64 (Z t).cols,.slice ag (Z t).cells.length cg] 38)=W3 at HG3 HT3 HK3 HX HY hlg |-;generalize w2.heap.size=gb at HY hlg HG3 |-;have hl0:=(bL HX.out);have HZ:Hid (w.heap.size<=W3.heap.size):=HK3.out.size;have KL:=O (λW (h:Below W3.heap.size W3 W)=>KL0.out ag cg W _ (HT3.out.kept h).1 (HT3.out.kept h).2 (HG3.out.kept h));have K7:=O (λW (h:Below W3.heap.size W3 W) al cl (hI:zA W (.slice al l.length cl) l)=>K70.out ag cg al cl l.length W _ (HT3.out.kept h) (HG3.out.kept h) hI)
   have KR:Hid (∀ W (_:Below W3.heap.size W3 W) al cl (_:z2c W w.heap.size (.slice al ls.length cl) ls),Calls prog 49 #[.agg #[int i64 (Z t).rows,int i64 (Z t).cols,.slice ag (Z t).cells.length cg],.slice al ls.length cl] W λe w'=>∃ v,e=.returned v/\zq w' W.heap.size w'.heap.size v rs/\Below W.heap.size W w'):=λW h al cl hl=>by
    rw [HLl.out] at hl |-;exact KR0.out ag cg al cl W (HG3.out.kept h) hl
   clear KL0 K70 KR0;refine z0n (λL act W=>∃ v17 v18 v19 v20 v21 v22 v23 v24 v25 v4:Value,act=⟨#[.agg #[.slice ac t.cols.length cc,int i64 t.head,int i64 t.foot,.slice ar t.rows.length cr,int i64 t.gap],int i64 width,.pointer (some ⟨w.heap.size,0,none⟩),undef,v4,.pointer (some ⟨gb,0,none⟩),.agg #[.slice ac t.cols.length cc,int i64 t.head,int i64 t.foot,.slice ar t.rows.length cr,int i64 t.gap],.bool true,.bool false,.bool false,int i64 width,.bool true,.bool false,.bool false,undef,.agg #[.slice ac t.cols.length cc,int i64 t.head,int i64 t.foot,.slice ar t.rows.length cr,int i64 t.gap],.agg #[int i64 (Z t).rows,int i64 (Z t).cols,.slice ag (Z t).cells.length cg],v17,v18,v19,v20,v21,v22,v23,v24,v25],[]⟩/\zl6 ac ar ag cc cr cg t width l ls rs w.heap.size W3 L W v17 v18 v19 v20 v21 v22 v23 v24 v25 v4) hmx (by kernel_rfl) ?hs ?hd ?h0
   case h0=>exact e10 ⟨rfl,⟨n0,n0,n0,n0,n0,n0,n0,n0,n0,n0,z0X bR⟩⟩
   case hd =>
    intro L act W hJ hall;obtain ⟨v17,v18,v19,v20,v21,v22,v23,v24,v25,v4,ha,J⟩:=hJ;subst ha;have HF:=O (J.f9 (hall 9 (by decide)));have HB:=O (zi HK3.out J.b);clear J hall;go_wp2;go_ret;exact ⟨_,rfl,by rw [HE.out];exact HF.out,HB.out⟩
   case hs =>
    intro L act W i o hJ hcl ho hLi haft K hK;obtain ⟨v17,v18,v19,v20,v21,v22,v23,v24,v25,v4,ha,J⟩:=hJ;subst ha
    have hi':i < 10:=by
     have:=(bL ho)
     simpa using this
    rcases (by omega:i=0\/i=1\/i=2\/i=3\/i=4\/i=5\/i=6\/i=7\/i=8\/i=9) with rfl | rfl | rfl | rfl | rfl | rfl | rfl | rfl | rfl | rfl
    all_goals
     simp only [List.getElem?_toArray,List.getElem?_cons_zero,List.getElem?_cons_succ,Option.some.injEq] at ho;subst ho;clear hi'
    ·obtain ⟨q0,q1,q2⟩:=z26 ((J.b.block _ hlg).trans HY.out);have hl:=nL hlg J.b.size;go_simp;exact hK _ _ (e10 ⟨rfl,⟨λ_=>rfl,V J.f1,V J.f2,V J.f3,V J.f4,V J.f5,V J.f6,V J.f7,V J.f8,V J.f9,J.b⟩⟩)
    ·obtain ⟨q0,q1,q2,q3,q4⟩:=zL ((J.b.block _ hl0).trans HX.out);have hl:=nL hl0 J.b.size;go_simp;exact hK _ _ (e10 ⟨rfl,⟨V J.f0,λ_=>rfl,V J.f2,V J.f3,V J.f4,V J.f5,V J.f6,V J.f7,V J.f8,V J.f9,J.b⟩⟩)
    ·obtain ⟨q0,q1,q2⟩:=z26 ((J.b.block _ hlg).trans HY.out);have hl:=nL hlg J.b.size;go_simp;exact hK _ _ (e10 ⟨rfl,⟨V J.f0,V J.f1,λ_=>rfl,V J.f3,V J.f4,V J.f5,V J.f6,V J.f7,V J.f8,V J.f9,J.b⟩⟩)
    ·obtain ⟨q0,q1,q2,q3,q4⟩:=zL ((J.b.block _ hl0).trans HX.out);have hl:=nL hl0 J.b.size;go_simp;exact hK _ _ (e10 ⟨rfl,⟨V J.f0,V J.f1,V J.f2,λ_=>rfl,V J.f4,V J.f5,V J.f6,V J.f7,V J.f8,V J.f9,J.b⟩⟩)
    ·obtain ⟨q0,q1,q2⟩:=z26 ((J.b.block _ hlg).trans HY.out);have hl:=nL hlg J.b.size;go_simp;exact hK _ _ (e10 ⟨rfl,⟨V J.f0,V J.f1,V J.f2,V J.f3,λ_=>rfl,V J.f5,V J.f6,V J.f7,V J.f8,V J.f9,J.b⟩⟩)
    ·go_simp;exact hK _ _ (e10 ⟨rfl,⟨V J.f0,V J.f1,V J.f2,V J.f3,V J.f4,λ_=>rfl,V J.f6,V J.f7,V J.f8,V J.f9,J.b⟩⟩)
    ·obtain rfl:=J.f3 (Fa haft 3);obtain rfl:=J.f4 (Fa haft 4);obtain rfl:=J.f5 (Fa haft 5);go_simp;go_wp2_with (go_at_call 51;refine (KL.out W J.b).mono ?_;rintro e W2 ⟨v,rfl,hR,hb⟩;have hI:=hR.at;clear hR)
     exact e10 ⟨rfl,⟨V J.f0,V J.f1,V J.f2,V J.f3,V J.f4,V J.f5,λ_=>hI,λh=>(J.f7 (un h)).kept hb,λh=>((J.f8 (un h)).kept (λj h0 _ _=>hb.block j h0)).base lR hb.size,λh=>((J.f9 (un h)).kept (λj h0 _ _=>hb.block j h0)).base lR hb.size,zi J.b hb⟩⟩
    ·obtain rfl:=J.f1 (Fa haft 1);obtain rfl:=J.f2 (Fa haft 2);have hI:=J.f6 (Fa haft 6);obtain ⟨aq,cq,rfl,_⟩:=hI.form;go_simp;go_wp2_with (go_at_call 50;refine (K7.out W J.b _ _ hI).mono ?_;rintro e W2 ⟨v,rfl,hR,hb⟩;have hI2:=hR.base (z':=w.heap.size) (nT HZ.out J.b.size);clear hR)
     exact e10 ⟨rfl,⟨V J.f0,V J.f1,V J.f2,V J.f3,V J.f4,V J.f5,λh=>(J.f6 (un h)).kept hb,λ_=>hI2,λh=>((J.f8 (un h)).kept (λj h0 _ _=>hb.block j h0)).base lR hb.size,λh=>((J.f9 (un h)).kept (λj h0 _ _=>hb.block j h0)).base lR hb.size,zi J.b hb⟩⟩
    ·obtain rfl:=J.f0 (Fa haft 0);have hI:=J.f7 (Fa haft 7);obtain ⟨aq,cq,rfl,_⟩:=At.form hI;go_simp;go_wp2_with (go_at_call 49;refine (KR.out W J.b _ _ hI).mono ?_;rintro e W2 ⟨v,rfl,hR,hb⟩;have hI2:=hR.base (B':=w.heap.size) (nT HZ.out J.b.size) lR;clear hR)
     exact e10 ⟨rfl,⟨V J.f0,V J.f1,V J.f2,V J.f3,V J.f4,V J.f5,λh=>(J.f6 (un h)).kept hb,λh=>(J.f7 (un h)).kept hb,λ_=>hI2,λh=>((J.f9 (un h)).kept (λj h0 _ _=>hb.block j h0)).base lR hb.size,zi J.b hb⟩⟩
    ·have hI2:=J.f8 (Fa haft 8);go_simp;exact hK _ _ (e10 ⟨rfl,⟨V J.f0,V J.f1,V J.f2,V J.f3,V J.f4,V J.f5,V J.f6,V J.f7,V J.f8,λ_=>hI2,J.b⟩⟩)
end Go.Proofs.YtggmjiddadjilahGreat
