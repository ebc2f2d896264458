/-
  PROVED HERE: the model's PagBody at a drawn table, any width and heights: the pages of its body, in memory of their own; nothing that was in memory is turned. Also: 1 more texts of the same proof.
-/
import Derived.Test.YtggmjiddadjilamGreatC38
import Derived.Test.YtggmjiddadjilamGreatC28
set_option maxRecDepth 1000000
set_option maxHeartbeats 40000000
namespace Go.Proofs.YtggmjiddadjilamGreat
section
open Go.RowKit
theorem z5F (hs:List Int):∀ (n a:Nat),a+n≤hs.length→hiS (zK hs a n)=(z00 hs a n).sum
 | 0,a,_=>by simp [zK,hiS,z00]
 | n+1,a,h=>by
  have e:hiS (zK hs a (n+1))=hs.getD a 0 - 0+hiS (zK hs (a+1) n):=(by simp [zK,hiS])
  have e2:z00 hs a (n+1)=hs.getD a 0 :: z00 hs (a+1) n:=by
   unfold z00;rw [List.drop_eq_getElem_cons (by omega),List.take_succ_cons];simp [List.getD,show a < hs.length by omega]
  rw [e,e2,List.sum_cons,z5F hs n (a+1) (by omega)];omega
theorem zgZ {hs:List Int} (hb:∀ x ∈ hs,0≤x∧x≤1000) {a n:Nat} (h:a+n≤hs.length) (hn:n≤1000:=by omega):(z00 hs a n).length≤1000∧(z00 hs a n).all wtB=true:=by
 refine ⟨by rw [z1K h];exact hn,List.all_eq_true.2 (fun x hx=>?_)⟩;have:=hb x (List.mem_of_mem_drop (List.mem_of_mem_take hx));exact decide_eq_true (by omega)
theorem zdV {high:List Int} {bes:Int} (hh:∀ x ∈ high,0≤x∧x≤100) (hb:0≤bes∧bes≤16000) (k:Nat):-1000000≤zD (high.map (· - bes)) k∧zD (high.map (· - bes)) k≤1000:=by
 unfold zD;generalize min k ((high.map (· - bes)).length - 1)=j;by_cases hj:j < high.length
 ·have e:(high.map (· - bes)).getD j 0=high[j] - bes:=(by simp [List.getD,hj]);have:=hh _ (List.getElem_mem hj);rw [e];omega
 ·have e:(high.map (· - bes)).getD j 0=0:=(by simp [List.getD,hj]);rw [e];omega
def z4u (high:List Int) (bes:Int) (k:Nat):List Int:=(high.take k).map (· - bes)
theorem zjM (high:List Int) (bes:Int) {k:Nat} (h:k≤high.length):(z4u high bes k).length=k:=by unfold z4u;rw [List.length_map,List.length_take];omega
theorem zjf {high:List Int} (bes:Int) {k:Nat} (h:k < high.length):z4u high bes (k+1)=z4u high bes k ++ [high.getD k 0 - bes]:=by
 unfold z4u;rw [List.take_succ_eq_append_getElem h,List.map_append];simp [List.getD,h]
theorem zjN (high:List Int) (bes:Int):z4u high bes high.length=high.map (· - bes):=by unfold z4u;rw [List.take_length]
theorem zjO (w:World):P9 ((w.alloc (.cells #[] 73)).alloc (.cells #[] 80)) w.heap.size (w.heap.size+1) (.slice (some ⟨w.heap.size,0,none⟩) 0 0) [] [] (.slice (some ⟨w.heap.size+1,0,none⟩) 0 0) []:=by
 have h1:(w.alloc (.cells #[] 73)).heap.size=w.heap.size+1:=(by simp);have h2:=z8l (w.alloc (.cells #[] 73)) (w.heap.size+1) (by omega);rw [h1] at h2;refine ⟨⟨rfl,.inr ⟨w.heap.size,0,#[],rfl,Nat.le_refl _,(Below.heap_alloc _ _ _ (by simp)).trans (zj _ _),Nat.le_refl _,Nat.zero_le _,rfl,rfl⟩⟩,zZ.nil _ _,h2,Nat.le_succ _,by simp,fun i hi=>absurd hi (Nat.not_lt_zero _)⟩
theorem z2l.tf {w w':World} {B:Nat} {us:List Value} {ps:List (Nat × Nat)} (h:z2l w B us ps) (k:TF w w'):z2l w' B us ps:=⟨h.1,fun i hi=>k.own (h.2 i hi) (by decide) (by decide)⟩
theorem zdm (rm:List Int) (ps:List (List PgS)):z4x rm ps=(ps.foldl (zQ rm) ([],[])).1 ++ [(ps.foldl (zQ rm) ([],[])).2]:=rfl
theorem zh0 {rm:List Int} {ps:List (List PgS)} (hne:∀ p ∈ ps,p ≠ []) (h:(ps.foldl (zQ rm) ([],[])).2=[]):(ps.foldl (zQ rm) ([],[])).1=[]:=by
 by_cases hp:ps=[]
 ·rw [hp];rfl
 ·exact absurd h (zjc rm hne hp)
theorem zib (rm:List Int) (ps:List (List PgS)):(ps.foldl (zQ rm) ([],[])).1.length≤ps.length:=by
 obtain ⟨A,B,e1,_,e3⟩:=z8n rm ps.length ps rfl;have:ps.length=A.length+B.length:=(by rw [e1,List.length_append]);omega
theorem zh1 {w0 w w4:World} {B P:Nat} {pv v':Value} {us:List Value} {pgs:List (List PgS)} {gv:Value} {page:List PgS} {o:Obj} (h:P9 w B P pv us pgs gv page) (hb:Below B w0 w) (hg:(w.alloc o).grownBy w4 pv.ownBlock) (ho:w4.ownsRow B 73 1 v' (us.length+1) (us ++ [gv])) :
  w4.ownsRow B 73 1 v' (us ++ [gv]).length (us ++ [gv])∧zZ w4 B (us ++ [gv]) (pgs ++ [page])∧Below B w0 w4:=by
 have KA:=ze (Below.refl w.heap.size w) o;have hOA:=h.own.alloc o;have hBs:B≤w.heap.size:=Nat.le_trans h.le h.hi;refine ⟨by rw [List.length_append];exact ho,((h.rows.kept KA).grown hOA hg).app (zZ.one (((h.page.base h.le).kept KA).grown hOA hg)),(hb.trans (KA.mono hBs)).grown hg (by simp;omega) (fun b hb=>(World.ownsRow.lt h.own b hb).1)⟩
theorem z9l (hs:List Int) (a:Nat) {n:Nat} (h:1≤n):zK hs a n ≠ []:=by
 intro e;have:=z1O hs n a;rw [e,List.length_nil] at this;omega
structure PsJ (ac ar ag:Option Addr) (cc cr cg:Nat) (t:T) (width:Int) (l:List Int) (ls:List (List ByteArray)) (rs:List Int) (zz:Nat) (W3:World) (L:Nat→Bool) (W:World) (v26 v27 v28 v29 v30 v31 v32 v33 v34 v8:Value):Prop where
 f0:L 0=true→v26=.agg #[.int .i64 (gOf t).rows,.int .i64 (gOf t).cols,.slice ag (gOf t).cells.length cg]
 f1:L 1=true→v27=.agg #[.slice ac t.cols.length cc,.int .i64 t.head,.int .i64 t.foot,.slice ar t.rows.length cr,.int .i64 t.gap]
 f2:L 2=true→v28=.agg #[.int .i64 (gOf t).rows,.int .i64 (gOf t).cols,.slice ag (gOf t).cells.length cg]
 f3:L 3=true→v29=.agg #[.slice ac t.cols.length cc,.int .i64 t.head,.int .i64 t.foot,.slice ar t.rows.length cr,.int .i64 t.gap]
 f4:L 4=true→v30=.agg #[.int .i64 (gOf t).rows,.int .i64 (gOf t).cols,.slice ag (gOf t).cells.length cg]
 f5:L 5=true→v31=.int .i64 width
 f6:L 6=true→zu W v32 l
 f7:L 7=true→z2x W zz v33 ls
 f8:L 8=true→zq W zz W.heap.size v34 rs
 f9:L 9=true→zq W zz W.heap.size v8 rs
 b:Below W3.heap.size W3 W
theorem zdW (ac ar:Option Addr) (cc cr:Nat) (t:T) (hD:z0g t) (width:Int) (vh:Value) (high:List Int) (w:World) {z:Nat} (hc:z07 w z (.slice ac t.cols.length cc) t.cols) (hr:z01 w z (.slice ar t.rows.length cr) t.rows) (hh:zu w vh high) :
  Calls Tryz.prog 15 #[.agg #[.slice ac t.cols.length cc,.int .i64 t.head,.int .i64 t.foot,.slice ar t.rows.length cr,.int .i64 t.gap],.int .i64 width,vh] w fun e w'=>∃ v us,e=.returned v∧w'.ownsRow w.heap.size 73 1 v us.length us∧zZ w' w.heap.size us (z24 t width high)∧Below w.heap.size w w':=by
 have hmx:Tryz.prog.follows .mixedOrders=true:=(by kernel_rfl);obtain ⟨ah,ch,rfl,_⟩:=hh.form;obtain ⟨W0,hW0⟩:∃ W0,w.alloc (.cells #[.slice ac t.cols.length cc,.int .i64 t.head,.int .i64 t.foot,.slice ar t.rows.length cr,.int .i64 t.gap] 26)=W0:=⟨_,rfl⟩;have K0:Below w.heap.size w W0:=(by rw [← hW0];exact ze (Below.refl _ _) _);have X0:W0.heap[w.heap.size]?=some (.cells #[.slice ac t.cols.length cc,.int .i64 t.head,.int .i64 t.foot,.slice ar t.rows.length cr,.int .i64 t.gap] 26):=(by rw [← hW0];exact zj _ _);have HP:Hid (Below w.heap.size w W0∧TA W0 z ac ar cc cr t∧W0.heap[w.heap.size]?=some (.cells #[.slice ac t.cols.length cc,.int .i64 t.head,.int .i64 t.foot,.slice ar t.rows.length cr,.int .i64 t.gap] 26)):=⟨K0,⟨hc.kept K0,hr.kept K0⟩,X0⟩;have HTA:Hid (TA w z ac ar cc cr t):=⟨hc,hr⟩;have HVH:=Hd (fun W (k:Below w.heap.size w W)=>hh.kept k);have KO:=Hd (zbH ac ar cc cr t width (.slice ah high.length ch) high W0 HP.out.2.1.1 HP.out.2.1.2 (HVH.out W0 K0));obtain ⟨b0,b1,b2,b3,b4⟩:=zU X0;clear hc hr hh K0 X0
 cases hok:z2S t width high with
 | false =>
  rw [hok] at KO;have HF:Hid (z24 t width high=[]):=Hd (by unfold z24;rw [if_neg (by rw [hok];simp)]);clear hok;go_enter Tryz.func15,Tryz.ntmps15;go_upto_region 1 with fail
  clear hW0;go_wp2_with fail
  refine KO.out.mono ?_;rintro e w1 ⟨rfl,hb1⟩;have HK1:=Hd (zh HP.out.1 hb1);clear hb1 KO b0 b1 b2 b3 b4 HP;go_wp2;go_ret;exact ⟨_,[],rfl,⟨rfl,.inr ⟨w1.heap.size,0,#[],rfl,HK1.out.size,zj _ _,Nat.le_refl _,Nat.zero_le _,rfl,rfl⟩⟩,by rw [HF.out];exact zZ.nil _ _,ze HK1.out _⟩
 | true =>
  rw [hok] at KO;have HF:Hid (z24 t width high=z4x (high.map (· - (hiS (z0Z t (z1j t width))+hiS (z11 t (z1j t width))))) (z0X t (z1j t width))):=Hd (by unfold z24;rw [if_pos hok]);have hok2:=hok;unfold z2S at hok2;rw [Bool.and_eq_true,Bool.and_eq_true,Bool.and_eq_true] at hok2;obtain ⟨⟨htk,hin⟩,hln,hhs⟩:=hok2;have hi1:0 < high.length:=(by have h:=of_decide_eq_true hln;omega);have hi2:high.length≤60:=(by have h:=of_decide_eq_true hln;omega);have HHB:Hid (∀ x ∈ high,0≤x∧x≤100):=Hd (fun x hx=>of_decide_eq_true (List.all_eq_true.1 hhs x hx));have hw:0≤width∧width≤300:=(by simpa [inB] using hin);have K3:=Hd (fun W h=>zjI ac ar cc cr t hD htk W (z:=z) h);have KL0:=Hd (fun ag cg W zg h1 h2 h3=>zfg ac ar cc cr t hD ag cg width hw htk W (z:=z) (zg:=zg) h1 h2 h3);have KE0:=Hd (fun ag cg W zg h=>zfb ac ar ag cc cr cg t hD htk W (zg:=zg) h);have hlw:=(zeo hD htk hw).2.1;have hC88:=(z4K hD htk).2.1;have hl1:(z0d t width).length≤1048576:=(by rw [hlw];omega);have K70:=Hd (fun ag cg al cl n W zg (h1:TA W z ac ar cc cr t) h2 h3=>zdT ac ar ag al cc cr cg cl n t hD (z0d t width) hl1 W (z:=z) (zg:=zg) h1 h2 h3);have HE:Hid (z1j t width=z0b (rcs (gOf t).cells (z16 t (z0d t width) (gOf t).cells)) t.rows.length):=(by rw [Hid,z1j,htk,hin];rfl);have h40:=zjA hD;have hR8:=zio hD htk;have hbb:=z0Q htk;have HGr:=zil htk;have HGc:=Hd (zim hD htk);have HLl:=Hd (z45 t (z0d t width) (gOf t).cells);have HLa:=Hd (zeZ t (z0d t width) (gOf t).cells);have KR0:=Hd (fun ag cg al cl W {zg zl:Nat} (hg:z1I W zg (.slice ag (gOf t).cells.length cg) (gOf t).cells) (hl:z2x W zl (.slice al (gOf t).cells.length cl) (z16 t (z0d t width) (gOf t).cells))=>zfh ag cg (gOf t) t.rows.length (by omega) HGr _ al cl HLl.out (by omega) HGc.out HLa.out W hg hl);have hRl:(z1j t width).length=t.rows.length:=(by rw [HE.out,z0Y]);have HRb:=Hd (zaM (t:=t) (x:=width));rw [HE.out] at HF hRl HRb;have HTK:=Hd htk;have HDr:=Hd hD;clear hok hln hhs hin hD hlw hC88 hl1 HGr htk;generalize z16 t (z0d t width) (gOf t).cells=ls at K70 HE KR0 HLl HLa HF hRl HRb;generalize z0d t width=l at KL0 K70;generalize z0b (rcs (gOf t).cells ls) t.rows.length=rs at KR0 HE HF hRl HRb;have HRl:=Hd hRl;clear hRl HE;go_enter Tryz.func15,Tryz.ntmps15;go_upto_region 1 with fail
  clear hW0;go_wp2_with fail
  refine KO.out.mono ?_;rintro e w1 ⟨rfl,hb1⟩;have HP1:Hid (Below w.heap.size w w1∧TA w1 z ac ar cc cr t∧w1.heap[w.heap.size]?=some (.cells #[.slice ac t.cols.length cc,.int .i64 t.head,.int .i64 t.foot,.slice ar t.rows.length cr,.int .i64 t.gap] 26)):=⟨zh HP.out.1 hb1,HP.out.2.1.kept hb1,(hb1.block _ (bL HP.out.2.2)).trans HP.out.2.2⟩;clear hb1 KO b0 b1 b2 b3 b4 HP;obtain ⟨b0,b1,b2,b3,b4⟩:=zU HP1.out.2.2;have ht1:=(bL HP1.out.2.2);go_wp2_with fail
  refine (K3.out _ HP1.out.2.1.2).mono ?_;rintro e w2 ⟨ag,cg,rfl,hG2,hb2⟩;have KA:=ze (Below.refl w2.heap.size w2) (.cells #[.int .i64 (gOf t).rows,.int .i64 (gOf t).cols,.slice ag (gOf t).cells.length cg] 63);have HG3:=Hd (hG2.kept KA);have HT3:=Hd ((HP1.out.2.1.kept hb2).kept KA);have HK3:=Hd (zh (zh HP1.out.1 hb2) KA);have HX:=Hd ((zh hb2 KA).block _ ht1 |>.trans HP1.out.2.2);have HY:=Hd (zj w2 (.cells #[.int .i64 (gOf t).rows,.int .i64 (gOf t).cols,.slice ag (gOf t).cells.length cg] 63));have hlg:w2.heap.size < (w2.alloc (.cells #[.int .i64 (gOf t).rows,.int .i64 (gOf t).cols,.slice ag (gOf t).cells.length cg] 63)).heap.size:=(by simp);clear hG2 hb2 KA b0 b1 b2 b3 b4 HP1 K3 ht1;go_upto_region 4 with fail
  generalize w2.alloc (.cells #[.int .i64 (gOf t).rows,.int .i64 (gOf t).cols,.slice ag (gOf t).cells.length cg] 63)=W3 at HG3 HT3 HK3 HX HY hlg ⊢;generalize w2.heap.size=gb at HY hlg HG3 ⊢;have hl0:=(bL HX.out);have HZ:Hid (w.heap.size≤W3.heap.size):=HK3.out.size;have KL:=Hd (fun W (h:Below W3.heap.size W3 W)=>KL0.out ag cg W _ (HT3.out.kept h).1 (HT3.out.kept h).2 (HG3.out.kept h));have K7:=Hd (fun W (h:Below W3.heap.size W3 W) al cl (hI:zu W (.slice al l.length cl) l)=>K70.out ag cg al cl l.length W _ (HT3.out.kept h) (HG3.out.kept h) hI)
  have KR:Hid (∀ W (_:Below W3.heap.size W3 W) al cl (_:z2x W w.heap.size (.slice al ls.length cl) ls),Calls Tryz.prog 39 #[.agg #[.int .i64 (gOf t).rows,.int .i64 (gOf t).cols,.slice ag (gOf t).cells.length cg],.slice al ls.length cl] W fun e w'=>∃ v,e=.returned v∧zq w' W.heap.size w'.heap.size v rs∧Below W.heap.size W w'):=fun W h al cl hl=>by
   rw [HLl.out] at hl ⊢;exact KR0.out ag cg al cl W (HG3.out.kept h) hl
  have KE:=Hd (fun W (h:Below W3.heap.size W3 W)=>KE0.out ag cg W _ (HG3.out.kept h));clear KL0 K70 KR0 KE0;refine z0p (fun L act W=>∃ v26 v27 v28 v29 v30 v31 v32 v33 v34 v8:Value,act=⟨#[.agg #[.slice ac t.cols.length cc,.int .i64 t.head,.int .i64 t.foot,.slice ar t.rows.length cr,.int .i64 t.gap],.int .i64 width,.slice ah high.length ch,.pointer (some ⟨w.heap.size,0,none⟩),undef,undef,.slice none 0 0,.pointer (some ⟨gb,0,none⟩),v8,undef,undef,undef,undef,undef,undef,undef,undef,undef,.agg #[.slice ac t.cols.length cc,.int .i64 t.head,.int .i64 t.foot,.slice ar t.rows.length cr,.int .i64 t.gap],.int .i64 width,.slice ah high.length ch,.bool true,.bool false,undef,.agg #[.slice ac t.cols.length cc,.int .i64 t.head,.int .i64 t.foot,.slice ar t.rows.length cr,.int .i64 t.gap],.agg #[.int .i64 (gOf t).rows,.int .i64 (gOf t).cols,.slice ag (gOf t).cells.length cg],v26,v27,v28,v29,v30,v31,v32,v33,v34,undef,undef,undef,undef,undef,undef,undef,undef,undef,undef,undef,undef,undef,undef,undef,undef,undef,undef,undef,undef,undef,undef,undef,undef,undef,undef,undef,undef,undef,undef,undef,undef,undef,undef,undef,undef,undef,undef,undef,undef,undef,undef,undef,undef,undef,undef,undef,undef,undef,undef,undef,undef,undef,undef,undef,undef,undef,undef,undef,undef,undef,undef,undef,undef,undef,undef,undef,undef,undef,undef,undef,undef,undef,undef,undef,undef,undef,undef,undef,undef,undef,undef,undef,undef,undef,undef,undef,undef,undef,undef,undef,undef,undef,undef,undef,undef,undef,undef,undef,undef,undef,undef,undef,undef,undef,undef,undef,undef,undef],[]⟩∧PsJ ac ar ag cc cr cg t width l ls rs w.heap.size W3 L W v26 v27 v28 v29 v30 v31 v32 v33 v34 v8) hmx (by kernel_rfl) ?hs ?hd ?h0
  case h0=>exact ⟨_,_,_,_,_,_,_,_,_,_,rfl,⟨(fun h=>by cases h),(fun h=>by cases h),(fun h=>by cases h),(fun h=>by cases h),(fun h=>by cases h),(fun h=>by cases h),(fun h=>by cases h),(fun h=>by cases h),(fun h=>by cases h),(fun h=>by cases h),z1a (Below.refl _ _)⟩⟩
  case hd =>
   intro L act W hJ hall;obtain ⟨v26,v27,v28,v29,v30,v31,v32,v33,v34,v8,ha,J⟩:=hJ;subst ha;have hRs:=J.f9 (hall 9 (by decide));have hKB:=J.b;clear J hall;have HX4:=Hd ((hKB.block _ hl0).trans HX.out);have HY4:=Hd ((hKB.block _ hlg).trans HY.out);have HK4:=Hd (zh HK3.out hKB);have HKB:=Hd hKB;have hl4:=Nat.lt_of_lt_of_le hl0 hKB.size;obtain ⟨g,cap,rfl,gB,gD,gw,gc1,gc2,_,_⟩:=hRs.get (i:=0) (by have:=HRl.out;omega);have HRs:=Hd hRs;clear hKB hRs KL K7 KR HX HY HT3;have hrl:=HRl.out;rw [hrl] at HRs gc1 ⊢;have HRL:=Hd hrl;have HS1:=Hd (HRs.out.sub0 (c:=0) (m:=t.head.toNat) (by omega));obtain ⟨E,hE⟩:∃ E,E=t.rows.length - t.foot.toNat:=⟨_,rfl⟩;have hEF:t.foot.toNat=t.rows.length - E:=(by omega);obtain ⟨aE,haE⟩:∃ aE,(if cap=E then some (⟨g,0,none⟩:Addr) else some ⟨g,E,none⟩)=aE:=⟨_,rfl⟩
   have HS2:Hid (zu W (.slice aE (t.rows.length - E) (cap - E)) (z00 rs E (t.rows.length - E))):=Hd (by
    have h:=HRs.out.sub0 (c:=E) (m:=t.rows.length - E) (by omega);by_cases hc:cap=E
    ·have h0:t.rows.length - E=0:=(by omega);rw [h0];exact ⟨aE,cap - E,by simp [z00],by simp [z00],by have:=gc2;unfold maxLen at this ⊢;omega,fun i hi=>absurd hi (by simp [z00])⟩
    ·rw [if_neg hc] at haE;rw [← haE];exact h)
   obtain ⟨b0,b1,b2,b3,b4⟩:=zU HX4.out;have hne:=z0t W;have m1:=zi (a:=⟨w.heap.size,1,none⟩) hl4 b1;have m2:=zi (a:=⟨w.heap.size,2,none⟩) hl4 b2;have HW1:=Hd (zgZ HRb.out (a:=0) (n:=t.head.toNat) (by omega));have HW2:=Hd (zgZ HRb.out (a:=E) (n:=t.rows.length - E) (by omega));have HH1:=Hd (z5F rs t.head.toNat 0 (by omega));have HH2:=Hd (z5F rs (t.rows.length - E) E (by omega));have KS1:=Hd (fun (p:BW W)=>z1s (z0z _ (z00 rs 0 t.head.toNat) HW1.out.1 HW1.out.2 p.u (HS1.out.kept p.h)));have KS2:=Hd (fun (p:BW W)=>z1s (z0z _ (z00 rs E (t.rows.length - E)) HW2.out.1 HW2.out.2 p.u (HS2.out.kept p.h)));rw [← HH1.out] at KS1;rw [← HH2.out] at KS2;have hb1:=z4C HRb.out t.head.toNat 0 (by omega);have hb2:=z4C HRb.out (t.rows.length - E) E (by omega);have HHd:Hid (zK rs 0 t.head.toNat=z0Z t rs):=Hd rfl;have HFt:Hid (zK rs E (t.rows.length - E)=z11 t rs):=Hd (by rw [← hEF,hE];rfl);rw [HHd.out] at KS1 hb1;rw [HFt.out] at KS2 hb2;have hw1:IntKind.i64.wrap ((t.rows.length:Int) - t.foot)=(E:Int):=(by rw [IntKind.wrap_i64];omega);have hw2:IntKind.i64.wrap (hiS (z0Z t rs)+hiS (z11 t rs))=hiS (z0Z t rs)+hiS (z11 t rs):=(by rw [IntKind.wrap_i64];omega);have t1:(0:Int)≤t.head:=(by omega);have t2:t.head≤(cap:Int):=(by omega);have t3:E≤t.rows.length:=(by omega);have t4:(E:Int)≤(t.rows.length:Int):=(by omega);have t5:(t.rows.length:Int)≤(cap:Int):=(by omega);unfold maxLen at gc2;have hFE:(t.foot:Int)=(t.rows.length:Int) - E:=(by omega);have HFE:=Hd hFE;clear hrl hFE hE hEF HW1 HW2 HH1 HH2 HS1 HS2 HHd HFt b0 b1 b2 b3 b4;go_upto_region 5 with fail
   refine zn hmx (by kernel_rfl) ?_;repeat (go_big_quiet_step (first | (go_at_call_of 41 (t.head.toNat:Nat);refine KS1.out _) | (go_at_call_of 41 (E:Nat);refine KS2.out _)))
   refine wpQuiet_nil ?_;intro W4 hw';obtain ⟨⟨Wx,hW4⟩,hw''⟩:=hw';subst hw'';have HX5:=Hd ((hW4.block _ hl4).trans HX4.out);have HY5:=Hd ((hW4.block _ (Nat.lt_of_lt_of_le hlg HKB.out.size)).trans HY4.out);have HK5:=Hd (zh HK4.out hW4);have HK34:=Hd (zh HKB.out hW4);have hRI:=(HRs.out.kept (fun j h0 _ _=>hW4.block j h0)).base (Nat.le_refl _) hW4.size;rw [← HRL.out] at hRI;have HRI:=Hd hRI;have hl5:=Nat.lt_of_lt_of_le hl4 hW4.size;have hg5:=Nat.lt_of_lt_of_le (Nat.lt_of_lt_of_le hlg HKB.out.size) hW4.size;have hws:=HK5.out.size;clear hRI hW4 HRs HX4 HY4 HK4 HKB m1 m2 KS1 KS2 hne hw1 haE t1 t2 t3 t4 t5 gB gD gw;generalize hbes:hiS (z0Z t rs)+hiS (z11 t rs)=bes at HF hw2 ⊢;have hbs:0≤bes∧bes≤16000:=(by omega);have HBes:=Hd hbes;clear hb1 hb2;have HRM:Hid (∀ k,-1000000≤zD (high.map (· - bes)) k∧zD (high.map (· - bes)) k≤1000):=Hd (zdV HHB.out hbs);have KA5:=ze (Below.refl W4.heap.size W4) (.cells #[] 3);obtain ⟨k0,hk0,hkz0,hkz1,hkz2⟩:=info_parts z9x;obtain ⟨p0,hp0,hpz0,hpz1,hpz2⟩:=info_parts z5Z;have HM0:Hid ((W4.alloc (.cells #[] 3)).ownsRow W4.heap.size 3 1 (.slice (some ⟨W4.heap.size,0,none⟩) 0 0) ((z4u high bes 0)).length ((z4u high bes 0).map (Value.int .i64))):=Hd ⟨rfl,.inr ⟨W4.heap.size,0,#[],rfl,Nat.le_refl _,zj _ _,Nat.le_refl _,Nat.zero_le _,rfl,rfl⟩⟩;have HKA5:=Hd KA5;clear KA5;go_upto_region 7 with fail
   clear hw2 hbes;go_wp2_with fail
   go_loopw [10,11] (fun o i W=>∃ k:Nat,k≤high.length∧i=.int .i64 (k:Int)∧Hid (W.ownsRow W4.heap.size 3 1 o (z4u high bes k).length ((z4u high bes k).map (Value.int .i64)))∧Hid (Below W4.heap.size W4 W)) (fun _ i _=>high.length - (intOf i).toNat)
   case atStart=>exact ⟨0,Nat.zero_le _,rfl,HM0,HKA5⟩
   case round =>
    clear HM0 HKA5;obtain ⟨k,hk,rfl,HO,HB⟩:=hrel;have hrml:=zjM high bes hk;rw [hrml] at HO;obtain ⟨ao,co,rfl,_⟩:=z0i HO.out;have HRml:=Hd hrml;clear hrml;by_cases hlt:k < high.length
    case pos =>
     obtain ⟨gh,oh,ch2,eh,f1,f2,f3,x1⟩:=(HVH.out wr (HK5.out.trans (HB.out.mono hws))).get hlt;simp only [Value.slice.injEq] at eh;obtain ⟨eh,hz,rfl⟩:=eh;clear hz;subst eh;have HS:=Hd (zjf bes hlt)
     have hyb:=HHB.out (high.getD k 0) (by
      have e:high.getD k 0=high[k]:=(by simp [List.getD,hlt]);rw [e];exact List.getElem_mem hlt)
     generalize high.getD k 0=y at x1 HS hyb;have hwy:IntKind.i64.wrap (y - bes)=y - bes:=(by rw [IntKind.wrap_i64];omega);have hO:=HO.out;have hsz:=HB.out.size;unfold maxLen at f2;go_wp2_with (at_builtin;refine wpList_append_own _ rfl _ _ 36 rfl W4.heap.size 3 k0 (.int .i64 0) 1 8 Tryz.underlying36 hk0 hkz0 hkz1 hkz2 rfl (by decide) _ _ _ rfl (hO.alloc _) ⟨wr.heap.size,0,none⟩ 1 1 [.int .i64 (y - bes)] rfl rfl ?c1 ?c2 ?c3 ?c4 ?c5 ?_)
     case c1=>exact z0D (zj wr (.cells #[.int .i64 (y - bes)] 3))
     case c2=>simp [Value.oneCell']
     case c3=>unfold maxLen;omega
     case c4=>omega
     case c5=>simp;omega
     intro v' w5 hown' hgrow' _;have HB5:=Hd ((ze HB.out (.cells #[.int .i64 (y - bes)] 3)).grown hgrow' (by simp;omega) (fun q hq=>(hO.lt q hq).1))
     have HO5:Hid (w5.ownsRow W4.heap.size 3 1 v' (z4u high bes (k+1)).length ((z4u high bes (k+1)).map (Value.int .i64))):=Hd (by
      rw [HS.out,List.length_append,HRml.out,List.map_append];exact hown')
     obtain ⟨g',cap',rfl⟩:=Joins.ownsRow_form hown' (by omega);clear hown' hgrow' hO HO HB x1 f1 f2 f3 HRml;go_wp2;go_roundw
     case rel=>exact ⟨k+1,by omega,by go_num,HO5,HB5⟩
     case measure=>simp [intOf];omega
    obtain rfl:k=high.length:=by omega
    have hsz:=HB.out.size;have HX6:=Hd ((HB.out.block _ hl5).trans HX5.out);have HY6:=Hd ((HB.out.block _ hg5).trans HY5.out);have HK6:=Hd (HK5.out.trans (HB.out.mono hws));have HRI6:=Hd (HRI.out.below HB.out (Nat.le_refl _));have HRm0:=(zq.of_owns (by rw [HRml.out];exact HO.out:wr.ownsRow W4.heap.size 3 1 (.slice ao high.length co) (z4u high bes high.length).length ((z4u high bes high.length).map (Value.int .i64))));rw [zjN] at HRm0;have HRm:=Hd HRm0;have hl6:=Nat.lt_of_lt_of_le hl5 hsz;have hg6:=Nat.lt_of_lt_of_le hg5 hsz;have HKW:=Hd (HB.out);clear HX5 HY5 HK5 HRI HRm0 HO HB HRml hlt hk hl5 hg5;obtain ⟨W6,hW6⟩:∃ W6,W6=wr:=⟨_,rfl⟩;subst hW6;have K7:=ze (ze (Below.refl W6.heap.size W6) (.cells #[] 73)) (.cells #[] 80);have HP7:=Hd (zjO W6);have hs7:((W6.alloc (.cells #[] 73)).alloc (.cells #[] 80)).heap.size=W6.heap.size+2:=(by simp);have HX7:=Hd ((K7.block _ hl6).trans HX6.out);have HY7:=Hd ((K7.block _ hg6).trans HY6.out);have HK37:=Hd (HK34.out.trans ((HKW.out.trans (K7.mono (by omega))).mono HK34.out.size));have HK7:=Hd K7;obtain ⟨b0,b1,b2,b3,b4⟩:=zU HX7.out;obtain ⟨y0,y1,y2⟩:=z2s HY7.out;have KEE:=Hd (KE.out _ HK37.out);clear K7;go_wp2_with fail
    refine KEE.out.mono ?_;rintro e W8 ⟨ve,es,rfl,hOe,hRe,hb8⟩;obtain ⟨ae,ce,rfl,_⟩:=z0i hOe;have hel:=hRe.1;rw [hel] at hOe ⊢;have HP8:=Hd (HP7.out.kept hb8);have HB8:=Hd (zh HK7.out hb8);have HOe:=Hd hOe;have HRe:=Hd hRe;have hB8:W6.heap.size+2≤W8.heap.size:=(by have:=hb8.size;omega)
    have hEL:(z05 t).length≤9:=by
     have h1:=z9k t (z0a (gOf t).cells t.rows.length) (zG (gOf t).cells t.rows.length).length;have h2:=z38 (gOf t).cells t.rows.length;unfold z05;omega
    have HBF:=Hd (fun (i:Nat) (h:i < (z05 t).length)=>zgX HDr.out HTK.out HRb.out (rm:=high.map (· - bes)) h);have HSz:=Hd (zia t rs (high.map (· - bes)));have HSa:=Hd (zje t rs (high.map (· - bes)));have HRm6:=HRm;have HRml:Hid ((high.map (· - bes)).length=high.length):=Hd (by simp);obtain ⟨rm,hrm⟩:∃ rm,high.map (· - bes)=rm:=⟨_,rfl⟩;rw [hrm] at HBF HSz HSa HRm HRm6 HRml HRM HF
    have HEp:Hid (∀ i,i < (z05 t).length→∃ a m:Nat,1≤m∧a+m≤t.rows.length∧(z05 t).getD i (0,0)=(a,a+m)):=Hd (fun i hi=>by
     have h:=(HBF.out i hi).ab
     exact ⟨((z05 t).getD i (0,0)).1,((z05 t).getD i (0,0)).2 - ((z05 t).getD i (0,0)).1,by omega,by omega,by
      have e:((z05 t).getD i (0,0)).1+(((z05 t).getD i (0,0)).2 - ((z05 t).getD i (0,0)).1)=((z05 t).getD i (0,0)).2:=(by omega);rw [e]⟩)
    clear hOe hRe hb8 hel HP7 HX7 HY7 HK37 HK7 KEE HK34 KE b0 b1 b2 b3 b4 y0 y1 y2 hs7 HY6 hg6 HKW hrm HBes HHB;have hWB:W4.heap.size≤W6.heap.size:=hsz;have hwB:w.heap.size≤W6.heap.size:=(by omega);generalize W6.heap.size=B at HP8 HB8 hB8 hl6 HRm HRI6 HRm6 hWB hwB ⊢;go_wp2_with fail
    go_loopw [12,13,15] (fun pv gv i W=>∃ (k:Nat) (us:List Value) (P:Nat),k≤(z05 t).length∧i=.int .i64 (k:Int)∧Hid (P9 W B P pv us (stE t rs rm k).1 gv (stE t rs rm k).2)∧Hid (Below B W6 W)∧Hid (TF W8 W)) (fun _ _ i _=>(z05 t).length - (intOf i).toNat)
    case atStart=>exact ⟨0,[],B+1,Nat.zero_le _,rfl,by rw [HSz.out];exact HP8,HB8,TF.refl _⟩
    case round =>
     clear HP8 HB8;obtain ⟨k,us,P,hk,rfl,HQ,HBW,HTF⟩:=hrel;obtain ⟨ap,cp,rfl,_⟩:=z0i HQ.out.own;obtain ⟨ag2,cg2,rfl⟩:=HQ.out.page.form;have hul:=HQ.out.len;by_cases hlt:k < (z05 t).length
     case neg =>
      obtain rfl:k=(z05 t).length:=by omega
      rw [HSa.out] at HQ hul ⊢;have HEnd:=Hd (HF.out.trans (zdm rm (z0X t rs)));have hnone:=zh0 (rm:=rm) (zeb (t:=t) (hs:=rs));have hpl:=(zib rm (z0X t rs));have hpc:=z7s HTK.out HRb.out;generalize ((z0X t rs).foldl (zQ rm) ([],[])).1=pgs at HQ hul HEnd hnone hpl ⊢;generalize ((z0X t rs).foldl (zQ rm) ([],[])).2=page at HQ HEnd hnone ⊢;have hub:us.length≤10000:=(by omega);have hO:=HQ.out.own;have hBv:=HQ.out.hi;have hBP:=HQ.out.le;have HFin:=Hd (fun (v':Value) (w4:World) (hg:(wr.alloc (.cells #[.slice ag2 page.length cg2] 73)).grownBy w4 (Value.slice ap us.length cp).ownBlock) (ho:w4.ownsRow B 73 1 v' (us.length+1) (us ++ [.slice ag2 page.length cg2]))=>zh1 HQ.out HBW.out hg ho);have HKw:=Hd (fun (w4:World) (h:Below B W6 w4)=>HK6.out.trans (h.mono hwB));clear hpl hpc HQ HBW HTF HSa hk hlt;by_cases he:page=[]
      ·have hz:us.length=0:=(by rw [hul,hnone he];rfl);have hz2:page.length=0:=(by rw [he];rfl);rw [hz2,hz] at HFin ⊢;rw [hz] at hO;clear hul hnone he hz hz2;go_wp2_with (at_builtin;refine wpList_append_own _ rfl _ _ 45 rfl B 73 p0 _ 1 24 Tryz.underlying45 hp0 hpz0 hpz1 hpz2 rfl (by decide) _ _ _ rfl (hO.alloc _) ⟨wr.heap.size,0,none⟩ 1 1 [.slice ag2 0 cg2] rfl rfl ?c1 ?c2 ?c3 ?c4 ?c5 ?_)
       case c1=>exact z0D (zj wr (.cells #[.slice ag2 0 cg2] 73))
       case c2=>simp [Value.oneCell']
       case c3=>unfold maxLen;omega
       case c4=>omega
       case c5=>simp;omega
       intro v' w4 hown' hgrow' _;obtain ⟨f1,f2,f3⟩:=HFin.out v' w4 hgrow' hown';have F1:=Hd f1;have F2:=Hd f2;have F3:=Hd f3;clear hown' hgrow' hO HFin f1 f2 f3;go_wp2;go_ret;exact ⟨_,_,rfl,z8m F1.out hwB,by rw [HEnd.out];exact F2.out.base hwB,HKw.out _ F3.out⟩
      ·have hpos:(0:Int) < (page.length:Int):=(by have:=List.length_pos_iff.2 he;omega);clear hul hnone he;obtain ⟨pl,hpl⟩:∃ pl,page.length=pl+1:=⟨page.length - 1,by omega⟩;rw [hpl] at HFin ⊢;clear hpos hpl;go_wp2_with (at_builtin;refine wpList_append_own _ rfl _ _ 45 rfl B 73 p0 _ 1 24 Tryz.underlying45 hp0 hpz0 hpz1 hpz2 rfl (by decide) _ _ _ rfl (hO.alloc _) ⟨wr.heap.size,0,none⟩ 1 1 [.slice ag2 (pl+1) cg2] rfl rfl ?c1 ?c2 ?c3 ?c4 ?c5 ?_)
       case c1=>exact z0D (zj wr (.cells #[.slice ag2 (pl+1) cg2] 73))
       case c2=>simp [Value.oneCell']
       case c3=>unfold maxLen;omega
       case c4=>omega
       case c5=>simp;omega
       intro v' w4 hown' hgrow' _;obtain ⟨f1,f2,f3⟩:=HFin.out v' w4 hgrow' hown';have F1:=Hd f1;have F2:=Hd f2;have F3:=Hd f3;clear hown' hgrow' hO HFin f1 f2 f3;go_wp2;go_ret;exact ⟨_,_,rfl,z8m F1.out hwB,by rw [HEnd.out];exact F2.out.base hwB,HKw.out _ F3.out⟩
     obtain ⟨a,m,hm1,hm2,hp⟩:=HEp.out k hlt;have F:=HBF.out k hlt;rw [hp] at F;have HFk:=Hd F;have hsub:a+m - a=m:=(by omega);have FC:=F.cut;have FW:=F.whole;simp only [hsub] at FC FW;have HFC:=Hd FC;have HFW:=Hd FW;have hPA:=(HRe.out.tf HTF.out).pairs (v:=.slice ae (z05 t).length ce) (by rw [HRe.out.1];exact HTF.out.own HOe.out (by decide) (by decide));obtain ⟨qb,qo,qc,eq,g1,g2,g3,ux,x0,hIx⟩:=At.get hPA hlt;rw [hp] at hIx;simp only [Nat.mul_one] at x0;simp only [Value.slice.injEq,true_and] at eq;obtain ⟨rfl,rfl⟩:=eq;obtain ⟨z1,z2,z3,ez,_,_,gz,x1⟩:=hIx.get (i:=0) (by simp);obtain ⟨z4,z5,z6,ez2,gz1,gz2,_,x2⟩:=hIx.get (i:=1) (by simp);subst ez;simp only [Value.slice.injEq,Option.some.injEq,Addr.mk.injEq,and_true] at ez2;obtain ⟨⟨rfl,rfl⟩,hz,rfl⟩:=ez2;simp only [List.getD_cons_zero,List.getD_cons_succ,Nat.add_zero,Int.natCast_add] at x1 x2;simp only [List.length_cons,List.length_nil] at gz1 x0;unfold maxLen at g2 gz2;have hne:=z0t wr;have m0:=zi (a:=⟨qb,qo+k,none⟩) g3 x0;have m1:=zi (a:=⟨z1,z2,none⟩) gz x1;have m2:=zi (a:=⟨z1,z2+1,none⟩) gz x2;clear hz x0 x1 x2 hIx hPA F FC FW hp hsub hul HEp g3 gz;go_upto_region 17 with fail
     refine zn hmx (by kernel_rfl) ?_;repeat (go_big_quiet_step (fail))
     refine wpQuiet_nil ?_;intro W5 hw';obtain ⟨⟨Wx,hW5⟩,hw''⟩:=hw';subst hw'';have hBP:=HQ.out.le;have hBw:=Nat.le_trans hBP HQ.out.hi;have HQ5:=Hd (HQ.out.kept hW5);have HBW5:=Hd (HBW.out.trans (hW5.mono hBw));have HTF5:=Hd (HTF.out.trans (TF.of_below hW5));have hB5:=Nat.le_trans hBw hW5.size;have hBW5:=hB5;obtain ⟨e0,e1,e2,e3,e4⟩:=zU ((HBW5.out.block _ hl6).trans HX6.out);have HIv:=Hd (HRI6.out.below HBW5.out hWB).at;obtain ⟨br,offr,capr,er,r1,r2,r3,ur,r4,r5,r6⟩:=(HTA.out.kept (HK6.out.trans (HBW5.out.mono hwB))).2.get (i:=a) (by omega);simp only [Value.slice.injEq] at er;obtain ⟨er,hz,rfl⟩:=er;clear hz r3 r4 r6;obtain ⟨bh,oh,ch3,eh,q1,q2,q3,q4⟩:=HIv.out.get (i:=a) (by have:=HRl.out;omega);simp only [Value.slice.injEq,Option.some.injEq,Addr.mk.injEq,and_true] at eh;obtain ⟨⟨rfl,rfl⟩,hz,rfl⟩:=eh;clear hz q3 m0 m1 m2 hne HQ HBW HTF hW5;subst er;unfold maxLen at r2 q2
     have hya:0≤rs.getD a 0∧rs.getD a 0≤1000:=HRb.out _ (by
      have h:a < rs.length:=(by have:=HRl.out;omega);simp [List.getD,h])
     have hlr:rs.length=t.rows.length:=HRl.out;rw [hlr] at q1;clear hlr;rw [Nat.zero_add] at q4;generalize rs.getD a 0=y at q4 HFC HFW hya;generalize (t.rows.getD a dR).whole=wh at r5 HFC HFW;have hwd:IntKind.i64.wrap ((a:Int)+(m:Int) - (a:Int))=(m:Int):=(by rw [IntKind.wrap_i64];omega);by_cases hm3:m=1
     ·subst hm3
      cases wh with
      | false =>
       by_cases h0:0 < y
       ·obtain ⟨n,rfl⟩:∃ n:Nat,y=n:=⟨y.toNat,by omega⟩;have HCk:=Hd (HFC.out ⟨⟨rfl,rfl⟩,h0⟩);clear HFC HFW;have KC:=Hd (zgY rm (by have:=HRml.out;omega) (by have:=HRml.out;omega) HRM.out _ B P _ _ us (stE t rs rm k).1 (stE t rs rm k).2 (a:Int) n (by omega) HFk.out.ahead.last HFk.out.low.1 (by have:=HCk.out.2;rw [Int.toNat_natCast] at this;exact this) (by have:=HFk.out.pgs;omega) HFk.out.len W5 hBW5 (fun W' h=>(HRm.out.below (HBW5.out.trans h) (Nat.le_refl _)).at) HQ5.out);go_wp2_with fail
        refine KC.out.mono ?_;rintro e w8 ⟨P6,pv6,us6,gv6,rfl,hP6,hB6,hT6⟩;have HN:Hid (P9 w8 B P6 pv6 us6 (stE t rs rm (k+1)).1 gv6 (stE t rs rm (k+1)).2):=Hd (by rw [HCk.out.1,Int.toNat_natCast];exact hP6);have HB6:=Hd (HBW5.out.trans hB6);have HT6:=Hd (HTF5.out.trans hT6);clear hP6 hB6 hT6 KC HQ5 HBW5 HTF5 HIv e0 e1 e2 e3 e4 r5 q4;go_wp2;go_roundw
        case rel=>exact ⟨k+1,us6,P6,by omega,by go_num,HN,HB6,HT6⟩
        case measure=>simp [intOf];omega
       ·have HWk:=Hd (HFW.out (fun h=>h0 h.2));obtain rfl:y=0:=by omega
        clear h0;clear HFC HFW;go_upto_region 20 with fail
        clear hwd;go_wp2_with fail
        have hIv2:=HIv.out;rw [HRl.out] at hIv2;refine (z6G rs a 1 (by have:=HRl.out;omega) (by have:=HRl.out;omega) (a:Int) ((a:Int)+1) rfl rfl _ W5 hIv2).mono ?_;rintro e w7 ⟨ub,rfl,hU,hb7⟩;clear hIv2;have HQ7:=Hd (HQ5.out.kept hb7);have HB7:=Hd (HBW5.out.trans (hb7.mono hBW5));have HT7:=Hd (HTF5.out.trans (TF.of_below hb7));have hB7:B≤w7.heap.size:=Nat.le_trans hBW5 hb7.size;have KW:=Hd (z6H rm (by have:=HRml.out;omega) (by have:=HRml.out;omega) HRM.out _ B P _ _ ub us (stE t rs rm k).1 (stE t rs rm k).2 (zK rs a 1) HFk.out.low HWk.out.2 (by have:=HFk.out.pgs;omega) HFk.out.len (z9l rs a hm1) (by rw [z1O];omega) w7 hB7 (HRm.out.below HB7.out (Nat.le_refl _)).at HQ7.out (hU.base hB5));clear hb7 hU HQ7;go_wp2_with fail
        refine KW.out.mono ?_;rintro e w8 ⟨P6,pv6,us6,gv6,rfl,hP6,hB6,hT6⟩;have HN:Hid (P9 w8 B P6 pv6 us6 (stE t rs rm (k+1)).1 gv6 (stE t rs rm (k+1)).2):=Hd (by rw [HWk.out.1];exact hP6);have HB6:=Hd (HB7.out.trans hB6);have HT6:=Hd (HT7.out.trans hT6);clear hP6 hB6 hT6 KW HB7 HT7 HQ5 HBW5 HTF5 HIv e0 e1 e2 e3 e4 r5 q4;go_wp2;go_roundw
        case rel=>exact ⟨k+1,us6,P6,by omega,by go_num,HN,HB6,HT6⟩
        case measure=>simp [intOf];omega
      | true =>
       have HWk:=Hd (HFW.out (fun h=>by cases h.1.2));clear HFC HFW;go_upto_region 20 with fail
       clear hwd;go_wp2_with fail
       have hIv2:=HIv.out;rw [HRl.out] at hIv2;refine (z6G rs a 1 (by have:=HRl.out;omega) (by have:=HRl.out;omega) (a:Int) ((a:Int)+1) rfl rfl _ W5 hIv2).mono ?_;rintro e w7 ⟨ub,rfl,hU,hb7⟩;clear hIv2;have HQ7:=Hd (HQ5.out.kept hb7);have HB7:=Hd (HBW5.out.trans (hb7.mono hBW5));have HT7:=Hd (HTF5.out.trans (TF.of_below hb7));have hB7:B≤w7.heap.size:=Nat.le_trans hBW5 hb7.size;have KW:=Hd (z6H rm (by have:=HRml.out;omega) (by have:=HRml.out;omega) HRM.out _ B P _ _ ub us (stE t rs rm k).1 (stE t rs rm k).2 (zK rs a 1) HFk.out.low HWk.out.2 (by have:=HFk.out.pgs;omega) HFk.out.len (z9l rs a hm1) (by rw [z1O];omega) w7 hB7 (HRm.out.below HB7.out (Nat.le_refl _)).at HQ7.out (hU.base hB5));clear hb7 hU HQ7;go_wp2_with fail
       refine KW.out.mono ?_;rintro e w8 ⟨P6,pv6,us6,gv6,rfl,hP6,hB6,hT6⟩;have HN:Hid (P9 w8 B P6 pv6 us6 (stE t rs rm (k+1)).1 gv6 (stE t rs rm (k+1)).2):=Hd (by rw [HWk.out.1];exact hP6);have HB6:=Hd (HB7.out.trans hB6);have HT6:=Hd (HT7.out.trans hT6);clear hP6 hB6 hT6 KW HB7 HT7 HQ5 HBW5 HTF5 HIv e0 e1 e2 e3 e4 r5 q4;go_wp2;go_roundw
       case rel=>exact ⟨k+1,us6,P6,by omega,by go_num,HN,HB6,HT6⟩
       case measure=>simp [intOf];omega
     ·have HWk:=Hd (HFW.out (fun h=>hm3 h.1.1));have hme:((m:Int) == 1)=false:=beq_eq_false_iff_ne.2 (by omega);clear HFC HFW hm3;go_upto_region 20 with fail
      clear hwd;go_wp2_with fail
      have hIv2:=HIv.out;rw [HRl.out] at hIv2;refine (z6G rs a m (by have:=HRl.out;omega) (by have:=HRl.out;omega) (a:Int) ((a:Int)+(m:Int)) rfl rfl _ W5 hIv2).mono ?_;rintro e w7 ⟨ub,rfl,hU,hb7⟩;clear hIv2;have HQ7:=Hd (HQ5.out.kept hb7);have HB7:=Hd (HBW5.out.trans (hb7.mono hBW5));have HT7:=Hd (HTF5.out.trans (TF.of_below hb7));have hB7:B≤w7.heap.size:=Nat.le_trans hBW5 hb7.size;have KW:=Hd (z6H rm (by have:=HRml.out;omega) (by have:=HRml.out;omega) HRM.out _ B P _ _ ub us (stE t rs rm k).1 (stE t rs rm k).2 (zK rs a m) HFk.out.low HWk.out.2 (by have:=HFk.out.pgs;omega) HFk.out.len (z9l rs a hm1) (by rw [z1O];omega) w7 hB7 (HRm.out.below HB7.out (Nat.le_refl _)).at HQ7.out (hU.base hB5));clear hb7 hU HQ7;go_wp2_with fail
      refine KW.out.mono ?_;rintro e w8 ⟨P6,pv6,us6,gv6,rfl,hP6,hB6,hT6⟩;have HN:Hid (P9 w8 B P6 pv6 us6 (stE t rs rm (k+1)).1 gv6 (stE t rs rm (k+1)).2):=Hd (by rw [HWk.out.1];exact hP6);have HB6:=Hd (HB7.out.trans hB6);have HT6:=Hd (HT7.out.trans hT6);clear hP6 hB6 hT6 KW HB7 HT7 HQ5 HBW5 HTF5 HIv e0 e1 e2 e3 e4 r5 q4;go_wp2;go_roundw
      case rel=>exact ⟨k+1,us6,P6,by omega,by go_num,HN,HB6,HT6⟩
      case measure=>simp [intOf];omega
  case hs =>
   intro L act W i o hJ hcl ho hLi haft K hK;obtain ⟨v26,v27,v28,v29,v30,v31,v32,v33,v34,v8,ha,J⟩:=hJ;subst ha
   have hi':i < 10:=by
    have:=(bL ho)
    simpa using this
   rcases (by omega:i=0∨i=1∨i=2∨i=3∨i=4∨i=5∨i=6∨i=7∨i=8∨i=9) with rfl | rfl | rfl | rfl | rfl | rfl | rfl | rfl | rfl | rfl
   all_goals
    simp only [List.getElem?_toArray,List.getElem?_cons_zero,List.getElem?_cons_succ,Option.some.injEq] at ho;subst ho;clear hi'
   ·obtain ⟨q0,q1,q2⟩:=z2s ((J.b.block _ hlg).trans HY.out);have hl:=Nat.lt_of_lt_of_le hlg J.b.size;go_simp;exact hK _ _ ⟨_,_,_,_,_,_,_,_,_,_,rfl,⟨(fun _=>rfl),uq J.f1,uq J.f2,uq J.f3,uq J.f4,uq J.f5,uq J.f6,uq J.f7,uq J.f8,uq J.f9,J.b⟩⟩
   ·obtain ⟨q0,q1,q2,q3,q4⟩:=zU ((J.b.block _ hl0).trans HX.out);have hl:=Nat.lt_of_lt_of_le hl0 J.b.size;go_simp;exact hK _ _ ⟨_,_,_,_,_,_,_,_,_,_,rfl,⟨uq J.f0,(fun _=>rfl),uq J.f2,uq J.f3,uq J.f4,uq J.f5,uq J.f6,uq J.f7,uq J.f8,uq J.f9,J.b⟩⟩
   ·obtain ⟨q0,q1,q2⟩:=z2s ((J.b.block _ hlg).trans HY.out);have hl:=Nat.lt_of_lt_of_le hlg J.b.size;go_simp;exact hK _ _ ⟨_,_,_,_,_,_,_,_,_,_,rfl,⟨uq J.f0,uq J.f1,(fun _=>rfl),uq J.f3,uq J.f4,uq J.f5,uq J.f6,uq J.f7,uq J.f8,uq J.f9,J.b⟩⟩
   ·obtain ⟨q0,q1,q2,q3,q4⟩:=zU ((J.b.block _ hl0).trans HX.out);have hl:=Nat.lt_of_lt_of_le hl0 J.b.size;go_simp;exact hK _ _ ⟨_,_,_,_,_,_,_,_,_,_,rfl,⟨uq J.f0,uq J.f1,uq J.f2,(fun _=>rfl),uq J.f4,uq J.f5,uq J.f6,uq J.f7,uq J.f8,uq J.f9,J.b⟩⟩
   ·obtain ⟨q0,q1,q2⟩:=z2s ((J.b.block _ hlg).trans HY.out);have hl:=Nat.lt_of_lt_of_le hlg J.b.size;go_simp;exact hK _ _ ⟨_,_,_,_,_,_,_,_,_,_,rfl,⟨uq J.f0,uq J.f1,uq J.f2,uq J.f3,(fun _=>rfl),uq J.f5,uq J.f6,uq J.f7,uq J.f8,uq J.f9,J.b⟩⟩
   ·go_simp;exact hK _ _ ⟨_,_,_,_,_,_,_,_,_,_,rfl,⟨uq J.f0,uq J.f1,uq J.f2,uq J.f3,uq J.f4,(fun _=>rfl),uq J.f6,uq J.f7,uq J.f8,uq J.f9,J.b⟩⟩
   ·obtain rfl:=J.f3 (Fa haft 3);obtain rfl:=J.f4 (Fa haft 4);obtain rfl:=J.f5 (Fa haft 5);go_simp;go_wp2_with (go_at_call 27;refine (KL.out W J.b).mono ?_;rintro e W2 ⟨v,rfl,hR,hb⟩;have hI:=hR.at;clear hR)
    exact ⟨_,_,_,_,_,_,_,_,_,_,rfl,⟨uq J.f0,uq J.f1,uq J.f2,uq J.f3,uq J.f4,uq J.f5,(fun _=>hI),(fun h=>(J.f7 (un h)).kept hb),(fun h=>((J.f8 (un h)).kept (fun j h0 _ _=>hb.block j h0)).base (Nat.le_refl _) hb.size),(fun h=>((J.f9 (un h)).kept (fun j h0 _ _=>hb.block j h0)).base (Nat.le_refl _) hb.size),zh J.b hb⟩⟩
   ·obtain rfl:=J.f1 (Fa haft 1);obtain rfl:=J.f2 (Fa haft 2);have hI:=J.f6 (Fa haft 6);obtain ⟨aq,cq,rfl,_⟩:=hI.form;go_simp;go_wp2_with (go_at_call 40;refine (K7.out W J.b _ _ hI).mono ?_;rintro e W2 ⟨v,rfl,hR,hb⟩;have hI2:=hR.base (z':=w.heap.size) (Nat.le_trans HZ.out J.b.size);clear hR)
    exact ⟨_,_,_,_,_,_,_,_,_,_,rfl,⟨uq J.f0,uq J.f1,uq J.f2,uq J.f3,uq J.f4,uq J.f5,(fun h=>(J.f6 (un h)).kept hb),(fun _=>hI2),(fun h=>((J.f8 (un h)).kept (fun j h0 _ _=>hb.block j h0)).base (Nat.le_refl _) hb.size),(fun h=>((J.f9 (un h)).kept (fun j h0 _ _=>hb.block j h0)).base (Nat.le_refl _) hb.size),zh J.b hb⟩⟩
   ·obtain rfl:=J.f0 (Fa haft 0);have hI:=J.f7 (Fa haft 7);obtain ⟨aq,cq,rfl,_⟩:=At.form hI;go_simp;go_wp2_with (go_at_call 39;refine (KR.out W J.b _ _ hI).mono ?_;rintro e W2 ⟨v,rfl,hR,hb⟩;have hI2:=hR.base (B':=w.heap.size) (Nat.le_trans HZ.out J.b.size) (Nat.le_refl _);clear hR)
    exact ⟨_,_,_,_,_,_,_,_,_,_,rfl,⟨uq J.f0,uq J.f1,uq J.f2,uq J.f3,uq J.f4,uq J.f5,(fun h=>(J.f6 (un h)).kept hb),(fun h=>(J.f7 (un h)).kept hb),(fun _=>hI2),(fun h=>((J.f9 (un h)).kept (fun j h0 _ _=>hb.block j h0)).base (Nat.le_refl _) hb.size),zh J.b hb⟩⟩
   ·have hI2:=J.f8 (Fa haft 8);go_simp;exact hK _ _ ⟨_,_,_,_,_,_,_,_,_,_,rfl,⟨uq J.f0,uq J.f1,uq J.f2,uq J.f3,uq J.f4,uq J.f5,uq J.f6,uq J.f7,uq J.f8,(fun _=>hI2),J.b⟩⟩
end
section
open Go.RowKit Go.BigFrame
theorem zdo (w:World) (x:Int) (T:TypeId):zu (w.alloc (.cells #[.int .i64 x] T)) (.slice (some ⟨w.heap.size,0,none⟩) 1 1) [x]:=by
 refine ⟨_,1,rfl,Nat.le_refl _,by unfold maxLen;omega,fun i hi=>⟨w.heap.size,0,rfl,by simp,?_⟩⟩;have:i=0:=(by simpa using hi);subst this;exact zf (zj _ _)
theorem zig {w:World} {g:Nat} {x:Int} (h:zu w (.slice (some ⟨g,0,none⟩) 1 1) [x]):w.cell? ⟨g,0,none⟩=some (.int .i64 x)∧g < w.heap.size:=by
 obtain ⟨a,c,e,_,_,h3⟩:=h;obtain ⟨b,o,e2,h4,h5⟩:=h3 0 (by simp);subst e2
 injection e with e1 _ _
 injection e1 with e1
 injection e1 with e4 e5 _
 subst e4 e5;exact ⟨by simpa using h5,h4⟩
theorem zdp {t:T} {x h:Int} (hp:z2S t x [h]=true):(0≤h∧h≤100)∧(h < 100→z2S t x [h+1]=true):=by
 unfold z2S at hp ⊢;simp only [Bool.and_eq_true] at hp ⊢;obtain ⟨h1,_,h2⟩:=hp;have h3:0≤h∧h≤100:=(by simpa [hsB,inB] using h2);refine ⟨h3,fun h4=>⟨h1,rfl,?_⟩⟩;simp only [hsB,inB,List.all_cons,List.all_nil,Bool.and_eq_true,decide_eq_true_eq,and_true];omega
structure PmJ (w:World) (tb gh:Nat) (ac ar:Option Addr) (cc cr:Nat) (t:T) (x h0:Int) (pss pss2:List (List PgS)) (ap:Option Addr) (cp:Nat) (W3:World) (L:Nat→Bool) (W:World) (v67 v68 v69 v70 v71 v72 v73 v74 v75 v76 v77 v78 v79 v80 v81 v82 v83 v2:Value):Prop where
 f0:L 0=true→v67=.agg #[.slice ac t.cols.length cc,.int .i64 t.head,.int .i64 t.foot,.slice ar t.rows.length cr,.int .i64 t.gap]
 f1:L 1=true→v68=.int .i64 x
 f2:L 2=true→v69=.slice (some ⟨gh,0,none⟩) 1 1
 f3:L 3=true→v70=.pointer (some ⟨gh,0,none⟩)
 f4:L 4=true→v71=.int .i64 h0
 f5:L 5=true→v72=.int .i64 (h0+1)
 f6:L 6=true→zu W v73 [h0+1]∧∃ g,v73=.slice (some ⟨g,0,none⟩) 1 1
 f7:L 7=true→∃ a c,v74=.slice a pss2.length c
 f8:L 8=true→v75=.int .i64 (pss2.length:Int)
 f9:L 9=true→v76=.slice ap pss.length cp
 f10:L 10=true→v77=.int .i64 (pss.length:Int)
 f11:L 11=true→v78=.bool true
 f12:L 12=true→v79=.bool true
 f13:L 13=true→v80=.slice ap pss.length cp
 f14:L 14=true→v81=.int .i64 (pss.length:Int)
 f15:L 15=true→v82=.bool true
 f16:L 16=true→v83=.bool true
 f17:L 17=true→v2=.bool true
 b:Below W3.heap.size W3 W
theorem zfj (A:Option Addr) (len cap:Nat) (hlen:len≤1048576) (w:World) (h:z3C w A len cap) :
  Calls Tryz.prog 4 #[.slice A len cap] w fun e w'=>e=.returned (.bool true)∧Below w.heap.size w w':=by
 have hl:¬ (1048576:Int) < (len:Int):=(by omega);have hmx:Tryz.prog.follows .mixedOrders=true:=(by kernel_rfl);have HD:=Hd h;clear h;go_enter Tryz.func4,Tryz.ntmps4;go_wp2_with fail
 refine (zal _ _ _ _ HD.out).mono ?_;rintro e w1 ⟨ac,ar,cc,cr,t,x,vh,high,rfl,hD,hxb,hsm,hC1,hW1,hH1,hb1⟩;obtain ⟨ah,ch,rfl,hhl⟩:=At.form hH1;unfold maxLen at hhl;have KA1:=ze (Below.refl w1.heap.size w1) (.cells #[.slice ac t.cols.length cc,.int .i64 t.head,.int .i64 t.foot,.slice ar t.rows.length cr,.int .i64 t.gap] 26);have HS:Hid (SP w w1.heap.size ac ar cc cr t (.slice ah high.length ch) high (w1.alloc (.cells #[.slice ac t.cols.length cc,.int .i64 t.head,.int .i64 t.foot,.slice ar t.rows.length cr,.int .i64 t.gap] 26))):=⟨⟨hb1.alloc hb1.size _,TA.kept ⟨hC1,hW1⟩ KA1,zj _ _⟩,hH1.ints.kept KA1⟩;have HPi:=Hd (fun (v:Value) (hs:List Int) W (h:TA W w.heap.size ac ar cc cr t) (hi:zu W v hs)=>zdO ac ar cc cr t hD x v hs W h.1 h.2 hi);have HPs:=Hd (fun (v:Value) (hs:List Int) W (h:TA W w.heap.size ac ar cc cr t) (hi:zu W v hs)=>zdW ac ar cc cr t hD x v hs W h.1 h.2 hi);have HKi:=Hd (fun (v:Value) (hs:List Int) W (h:TA W w.heap.size ac ar cc cr t) (hi:zu W v hs)=>zbC ac ar cc cr t x v hs W h.1 h.2 hi);have HKs:=Hd (fun (v:Value) (hs:List Int) W (h:TA W w.heap.size ac ar cc cr t) (hi:zu W v hs)=>zbH ac ar cc cr t x v hs W h.1 h.2 hi);have HMo:=Hd (fun (h:Int) (hp:z2S t x [h]=true) (hp':z2S t x [h+1]=true)=>zf8 hD (width:=x) (show h≤h+1 by omega) hp hp');clear hC1 hW1 hH1 hb1 hD HD hxb hsm KA1;go_upto_region 4 with fail
 generalize w1.alloc (.cells #[.slice ac t.cols.length cc,.int .i64 t.head,.int .i64 t.foot,.slice ar t.rows.length cr,.int .i64 t.gap] 26)=W1 at HS ⊢;generalize w1.heap.size=tb at HS ⊢;obtain ⟨z0,z1,z2,z3,z4⟩:=HS.out.st.at
 cases high with
 | nil =>
  have hbn:z24 t x []=[]:=zgS (by simp [z2S,inB]);have HPe:=Hd (HPi.out _ [] _ HS.out.st.2.1 HS.out.hi);rw [hbn] at HPe;clear HPi HPs HKi HKs HMo hbn;go_wp2_with fail
  refine HPe.out.mono ?_;rintro e W3 ⟨v3,us,rfl,hO3,hR3,hb3⟩;have hP3:=hR3.pss hO3 (Nat.le_refl _) (Nat.le_refl _);obtain ⟨ap,cp,rfl,_⟩:=At.form hP3;replace HS:=Hd (HS.out.kept hb3);clear hO3 hR3 hP3 hb3 z0 z1 z2 z3 z4 HPe;go_wp2_with fail
  refine (z9m _).mono ?_;rintro e wa ⟨rfl,rfl⟩;go_wp2;go_ret;exact ⟨rfl,HS.out.st.1⟩
 | cons h0 rest =>
  obtain ⟨b1,off1,cap1',e1,hc11,hc12,hbl1,x0⟩:=HS.out.hi.get (i:=0) (by simp);simp only [Value.slice.injEq,true_and] at e1;obtain ⟨rfl,rfl⟩:=e1;unfold maxLen at hc12;have hx0:W1.cell? ⟨b1,off1,none⟩=some (.int .i64 h0):=(by simpa using x0);have hne:(((h0 :: rest).length:Int) == 0)=false:=beq_eq_false_iff_ne.2 (by simp;omega);have hgt:0 < (h0 :: rest).length:=(by simp);generalize (h0 :: rest).length=hn at hne hgt hc11 hhl HS ⊢;clear x0;go_upto_region 7 with fail
  have KA:=ze (Below.refl W1.heap.size W1) (.cells #[.int .i64 h0] 3);have hy:=zf (p:=0) (zj W1 (.cells #[.int .i64 h0] 3));simp only [List.getElem?_toArray,List.getElem?_cons_zero] at hy;have HS2:Hid (SP w tb ac ar cc cr t (.slice (some ⟨W1.heap.size,0,none⟩) 1 1) [h0] (W1.alloc (.cells #[.int .i64 h0] 3))):=⟨HS.out.st.kept KA,zdo _ _ _⟩;obtain ⟨ok,hok⟩:∃ ok,z2S t x [h0]=ok:=⟨_,rfl⟩;have HF:Hid (ok=true→h0 < 100→(z24 t x [h0+1]).length≤(z24 t x [h0]).length∧0 < (z24 t x [h0]).length):=fun h hlt=>HMo.out h0 (hok.trans h) ((zdp (hok.trans h)).2 hlt);have HRg:Hid (ok=true→0≤h0∧h0≤100):=fun h=>(zdp (hok.trans h)).1;have KP:=Hd (fun v=>HPi.out v [h0]);have KP2:=Hd (fun v=>HPi.out v [h0+1]);have KQ:=Hd (fun v=>HPs.out v [h0]);have KI:=Hd (fun v=>HKi.out v [h0]);have KK:=Hd (fun v=>HKs.out v [h0]);rw [hok] at KI KK;generalize z24 t x [h0+1]=pss2 at HF KP2;generalize z24 t x [h0]=pss at HF KP KQ;clear HPi HPs HKi HKs HMo hok KA HS z0 z1 z2 z3 z4 hx0;generalize W1.alloc (.cells #[.int .i64 h0] 3)=W2 at HS2 hy ⊢;generalize W1.heap.size=gh at HS2 hy ⊢;have Hy:=Hd hy;clear hy;obtain ⟨z0,z1,z2,z3,z4⟩:=HS2.out.st.at;go_wp2_with fail
  refine (KP.out _ _ HS2.out.st.2.1 HS2.out.hi).mono ?_;rintro e W3 ⟨v3,us,rfl,hO3,hR3,hb3⟩;have hP3:=hR3.pss hO3 (Nat.le_refl _) (Nat.le_refl _);obtain ⟨ap,cp,rfl,hlp⟩:=At.form hP3;unfold maxLen at hlp;have HPV:=Hd hP3;have HS3:=Hd (HS2.out.kept hb3);clear hO3 hR3 hP3 hb3 z0 z1 z2 z3 z4 KP HS2 Hy;obtain ⟨z0,z1,z2,z3,z4⟩:=HS3.out.st.at;go_wp2_with fail
  refine (KQ.out _ _ HS3.out.st.2.1 HS3.out.hi).mono ?_;rintro e W4 ⟨v4,us4,rfl,hO4,hR4,hb4⟩;have HP4:=Hd (hR4.pss hO4 (Nat.le_refl _) (Nat.le_refl _));have HS4:=Hd (HS3.out.kept hb4);replace HPV:=Hd (HPV.out.kept hb4);clear hO4 hR4 hb4 z0 z1 z2 z3 z4 KQ HS3;obtain ⟨ap4,cp4,rfl,_⟩:=At.form HP4.out;go_wp2_with fail
  refine (zdX _ _ pss W4 HPV.out HP4.out).mono ?_;rintro e W5 ⟨rfl,hb5⟩;have HS5:=Hd (HS4.out.kept hb5);clear HP4 hb5 HS4 HPV;obtain ⟨z0,z1,z2,z3,z4⟩:=HS5.out.st.at;go_wp2_with fail
  refine (KK.out _ _ HS5.out.st.2.1 HS5.out.hi).mono ?_;rintro e W6 ⟨rfl,hb6⟩;have HS:=Hd (HS5.out.kept hb6);clear hb6 HS5 z0 z1 z2 z3 z4;obtain ⟨y0,gc3⟩:=zig HS.out.hi
  cases ok with
  | false =>
   have hbb:(false == false)=true:=rfl;have hne:=z0t W6;have htb:=(bL HS.out.st.2.2);obtain ⟨z0,z1,z2,z3,z4⟩:=HS.out.st.at;have m0:=zi htb z0;have m1:=zi htb z1;have m2:=zi htb z2;have m3:=zi htb z3;have m4:=zi htb z4;have k1:=Hd (fun (p:BW W6)=>z33 (KI.out _ p.u (HS.out.kept p.h).st.2.1 (HS.out.kept p.h).hi));have k2:=Hd (fun (p:BW W6)=>z33 (KK.out _ p.u (HS.out.kept p.h).st.2.1 (HS.out.kept p.h).hi));have k3:=Hd (fun (p:BW W6)=>z1s (z9m p.u));clear z0 z1 z2 z3 z4;go_upto_region 11 with fail
   refine zn hmx (by kernel_rfl) ?_;repeat (go_big_quiet_step (first | (go_at_call 17;refine k1.out _) | (go_at_call 16;refine k2.out _) | (go_at_call 10;refine k3.out _)))
   refine wpQuiet_nil ?_;intro W7 hw';obtain ⟨⟨Wx,hW7⟩,hw''⟩:=hw';subst hw'';have HK:=Hd (HS.out.kept hW7);clear k1 k2 k3 m0 m1 m2 m3 m4 hne hW7;go_wp2;go_ret;exact ⟨rfl,HK.out.st.1⟩
  | true =>
   obtain ⟨hg1,hg2⟩:=HRg.out rfl;by_cases hh:h0 < 100
   case neg =>
    have hge:100≤h0:=(by omega);have hbb:(true == true)=true:=rfl;have hne:=z0t W6;have htb:=(bL HS.out.st.2.2);obtain ⟨z0,z1,z2,z3,z4⟩:=HS.out.st.at;have m0:=zi htb z0;have m1:=zi htb z1;have m2:=zi htb z2;have m3:=zi htb z3;have m4:=zi htb z4;have k1:=Hd (fun (p:BW W6)=>z33 (KI.out _ p.u (HS.out.kept p.h).st.2.1 (HS.out.kept p.h).hi));have k2:=Hd (fun (p:BW W6)=>z33 (KK.out _ p.u (HS.out.kept p.h).st.2.1 (HS.out.kept p.h).hi));have k3:=Hd (fun (p:BW W6)=>z1s (z9m p.u));clear z0 z1 z2 z3 z4;go_upto_region 11 with fail
    refine zn hmx (by kernel_rfl) ?_;repeat (go_big_quiet_step (first | (go_at_call 17;refine k1.out _) | (go_at_call 16;refine k2.out _) | (go_at_call 10;refine k3.out _)))
    refine wpQuiet_nil ?_;intro W7 hw';obtain ⟨⟨Wx,hW7⟩,hw''⟩:=hw';subst hw'';have HK:=Hd (HS.out.kept hW7);clear k1 k2 k3 m0 m1 m2 m3 m4 hne hW7;go_wp2;go_ret;exact ⟨rfl,HK.out.st.1⟩
   case pos =>
    have hge:¬ 100≤h0:=(by omega);obtain ⟨hl1,hl2⟩:=HF.out rfl hh;have hle:(pss2.length:Int)≤(pss.length:Int):=(by omega);have hlp0:(0:Int) < (pss.length:Int):=(by omega);have hw1:IntKind.i64.wrap (h0+1)=h0+1:=(by rw [IntKind.wrap_i64];omega);have Y0:=Hd y0;have hgh:=gc3;have hlt0:tb < W6.heap.size:=(bL HS.out.st.2.2);have KB:=Hd (fun W (h:Below W6.heap.size W6 W) v (hi:zu W v [h0+1])=>KP2.out v W (HS.out.kept h).st.2.1 hi);clear KP2 KI KK HF HRg hl1 hl2 hh gc3;go_upto_region 12 with fail
    clear y0;refine z0p (fun L act W=>∃ v67 v68 v69 v70 v71 v72 v73 v74 v75 v76 v77 v78 v79 v80 v81 v82 v83 v2:Value,act=⟨#[.slice A len cap,undef,v2,.pointer (some ⟨tb,0,none⟩),.int .i64 x,.slice (some ⟨b1,off1,none⟩) hn ch,.slice (some ⟨gh,0,none⟩) 1 1,.slice ap pss.length cp,.slice A len cap,.int .i64 len,.bool false,.tuple #[.agg #[.slice ac t.cols.length cc,.int .i64 t.head,.int .i64 t.foot,.slice ar t.rows.length cr,.int .i64 t.gap],.int .i64 x,.slice (some ⟨b1,off1,none⟩) hn ch],.slice A len cap,.tuple #[.agg #[.slice ac t.cols.length cc,.int .i64 t.head,.int .i64 t.foot,.slice ar t.rows.length cr,.int .i64 t.gap],.int .i64 x,.slice (some ⟨b1,off1,none⟩) hn ch],.agg #[.slice ac t.cols.length cc,.int .i64 t.head,.int .i64 t.foot,.slice ar t.rows.length cr,.int .i64 t.gap],.int .i64 x,.slice (some ⟨b1,off1,none⟩) hn ch,.slice (some ⟨b1,off1,none⟩) hn ch,.int .i64 (hn:Int),.bool false,undef,undef,undef,undef,undef,undef,undef,undef,undef,.slice (some ⟨b1,off1,none⟩) hn ch,.pointer (some ⟨b1,off1,none⟩),.int .i64 h0,.slice (some ⟨gh,0,none⟩) 1 1,.agg #[.slice ac t.cols.length cc,.int .i64 t.head,.int .i64 t.foot,.slice ar t.rows.length cr,.int .i64 t.gap],.int .i64 x,.slice (some ⟨gh,0,none⟩) 1 1,.slice ap pss.length cp,.slice ap pss.length cp,.agg #[.slice ac t.cols.length cc,.int .i64 t.head,.int .i64 t.foot,.slice ar t.rows.length cr,.int .i64 t.gap],.int .i64 x,.slice (some ⟨gh,0,none⟩) 1 1,.slice ap4 pss.length cp4,.bool true,.bool false,.agg #[.slice ac t.cols.length cc,.int .i64 t.head,.int .i64 t.foot,.slice ar t.rows.length cr,.int .i64 t.gap],.int .i64 x,.slice (some ⟨gh,0,none⟩) 1 1,.bool true,.bool false,.bool false,.slice (some ⟨gh,0,none⟩) 1 1,.pointer (some ⟨gh,0,none⟩),.int .i64 h0,.bool (decide (100≤h0)),.bool (decide (100≤h0)),undef,undef,undef,undef,undef,undef,undef,undef,undef,undef,undef,undef,v67,v68,v69,v70,v71,v72,v73,v74,v75,v76,v77,v78,v79,v80,v81,v82,v83],[]⟩∧PmJ w tb gh ac ar cc cr t x h0 pss pss2 ap cp W6 L W v67 v68 v69 v70 v71 v72 v73 v74 v75 v76 v77 v78 v79 v80 v81 v82 v83 v2) hmx (by kernel_rfl) ?hs ?hd ?h0
    case h0=>exact ⟨_,_,_,_,_,_,_,_,_,_,_,_,_,_,_,_,_,_,rfl,⟨(fun h=>by cases h),(fun h=>by cases h),(fun h=>by cases h),(fun h=>by cases h),(fun h=>by cases h),(fun h=>by cases h),(fun h=>by cases h),(fun h=>by cases h),(fun h=>by cases h),(fun h=>by cases h),(fun h=>by cases h),(fun h=>by cases h),(fun h=>by cases h),(fun h=>by cases h),(fun h=>by cases h),(fun h=>by cases h),(fun h=>by cases h),(fun h=>by cases h),z1a (Below.refl _ _)⟩⟩
    case hd =>
     intro L act W hJ hall;obtain ⟨v67,v68,v69,v70,v71,v72,v73,v74,v75,v76,v77,v78,v79,v80,v81,v82,v83,v2,ha,J⟩:=hJ;subst ha;obtain rfl:=J.f17 (hall 17 (by decide));have HK:=Hd (HS.out.kept J.b);clear J hall KB hlt0;go_wp2;go_ret;exact ⟨rfl,HK.out.st.1⟩
    case hs =>
     intro L act W i o hJ hcl ho hLi haft K hK;obtain ⟨v67,v68,v69,v70,v71,v72,v73,v74,v75,v76,v77,v78,v79,v80,v81,v82,v83,v2,ha,J⟩:=hJ;subst ha
     have hi':i < 18:=by
      have:=(bL ho)
      simpa using this
     rcases (by omega:i=0∨i=1∨i=2∨i=3∨i=4∨i=5∨i=6∨i=7∨i=8∨i=9∨i=10∨i=11∨i=12∨i=13∨i=14∨i=15∨i=16∨i=17) with rfl | rfl | rfl | rfl | rfl | rfl | rfl | rfl | rfl | rfl | rfl | rfl | rfl | rfl | rfl | rfl | rfl | rfl
     all_goals
      simp only [List.getElem?_toArray,List.getElem?_cons_zero,List.getElem?_cons_succ,Option.some.injEq] at ho;subst ho;clear hi'
     ·obtain ⟨q0,q1,q2,q3,q4⟩:=(HS.out.kept J.b).st.at;have hl:=Nat.lt_of_lt_of_le hlt0 J.b.size;go_simp;exact hK _ _ ⟨_,_,_,_,_,_,_,_,_,_,_,_,_,_,_,_,_,_,rfl,⟨(fun _=>rfl),uq J.f1,uq J.f2,uq J.f3,uq J.f4,uq J.f5,uq J.f6,uq J.f7,uq J.f8,uq J.f9,uq J.f10,uq J.f11,uq J.f12,uq J.f13,uq J.f14,uq J.f15,uq J.f16,uq J.f17,J.b⟩⟩
     ·go_simp;exact hK _ _ ⟨_,_,_,_,_,_,_,_,_,_,_,_,_,_,_,_,_,_,rfl,⟨uq J.f0,(fun _=>rfl),uq J.f2,uq J.f3,uq J.f4,uq J.f5,uq J.f6,uq J.f7,uq J.f8,uq J.f9,uq J.f10,uq J.f11,uq J.f12,uq J.f13,uq J.f14,uq J.f15,uq J.f16,uq J.f17,J.b⟩⟩
     ·go_simp;exact hK _ _ ⟨_,_,_,_,_,_,_,_,_,_,_,_,_,_,_,_,_,_,rfl,⟨uq J.f0,uq J.f1,(fun _=>rfl),uq J.f3,uq J.f4,uq J.f5,uq J.f6,uq J.f7,uq J.f8,uq J.f9,uq J.f10,uq J.f11,uq J.f12,uq J.f13,uq J.f14,uq J.f15,uq J.f16,uq J.f17,J.b⟩⟩
     ·obtain rfl:=J.f2 (Fa haft 2);have y0:=(J.b.cell (p:=⟨gh,0,none⟩) hgh).trans Y0.out;have hl9:=Nat.lt_of_lt_of_le hgh J.b.size;go_simp;exact hK _ _ ⟨_,_,_,_,_,_,_,_,_,_,_,_,_,_,_,_,_,_,rfl,⟨uq J.f0,uq J.f1,uq J.f2,(fun _=>rfl),uq J.f4,uq J.f5,uq J.f6,uq J.f7,uq J.f8,uq J.f9,uq J.f10,uq J.f11,uq J.f12,uq J.f13,uq J.f14,uq J.f15,uq J.f16,uq J.f17,J.b⟩⟩
     ·obtain rfl:=J.f3 (Fa haft 3);have y0:=(J.b.cell (p:=⟨gh,0,none⟩) hgh).trans Y0.out;have hl9:=Nat.lt_of_lt_of_le hgh J.b.size;go_simp;exact hK _ _ ⟨_,_,_,_,_,_,_,_,_,_,_,_,_,_,_,_,_,_,rfl,⟨uq J.f0,uq J.f1,uq J.f2,uq J.f3,(fun _=>rfl),uq J.f5,uq J.f6,uq J.f7,uq J.f8,uq J.f9,uq J.f10,uq J.f11,uq J.f12,uq J.f13,uq J.f14,uq J.f15,uq J.f16,uq J.f17,J.b⟩⟩
     ·obtain rfl:=J.f4 (Fa haft 4);go_simp;exact hK _ _ ⟨_,_,_,_,_,_,_,_,_,_,_,_,_,_,_,_,_,_,rfl,⟨uq J.f0,uq J.f1,uq J.f2,uq J.f3,uq J.f4,(fun _=>rfl),uq J.f6,uq J.f7,uq J.f8,uq J.f9,uq J.f10,uq J.f11,uq J.f12,uq J.f13,uq J.f14,uq J.f15,uq J.f16,uq J.f17,J.b⟩⟩
     ·obtain rfl:=J.f5 (Fa haft 5);go_simp;exact hK _ _ ⟨_,_,_,_,_,_,_,_,_,_,_,_,_,_,_,_,_,_,rfl,⟨uq J.f0,uq J.f1,uq J.f2,uq J.f3,uq J.f4,uq J.f5,(fun _=>⟨zdo _ _ _,_,rfl⟩),uq J.f7,uq J.f8,uq J.f9,uq J.f10,uq J.f11,uq J.f12,uq J.f13,uq J.f14,uq J.f15,uq J.f16,uq J.f17,ze J.b _⟩⟩
     ·obtain rfl:=J.f0 (Fa haft 0);obtain rfl:=J.f1 (Fa haft 1);obtain ⟨hI,g7,rfl⟩:=J.f6 (Fa haft 6);go_simp;go_wp2_with (go_at_call 13;refine (KB.out W J.b _ hI).mono ?_;rintro e W2 ⟨v,us,rfl,hO,hRp,hb⟩;have hP2:=hRp.pss hO (Nat.le_refl _) (Nat.le_refl _);obtain ⟨a9,c9,rfl,_⟩:=At.form hP2;clear hO hRp hP2)
      exact ⟨_,_,_,_,_,_,_,_,_,_,_,_,_,_,_,_,_,_,rfl,⟨uq J.f0,uq J.f1,uq J.f2,uq J.f3,uq J.f4,uq J.f5,(fun h=>⟨(J.f6 (un h)).1.kept hb,(J.f6 (un h)).2⟩),(fun _=>⟨_,_,rfl⟩),uq J.f8,uq J.f9,uq J.f10,uq J.f11,uq J.f12,uq J.f13,uq J.f14,uq J.f15,uq J.f16,uq J.f17,zh J.b hb⟩⟩
     ·obtain ⟨a9,c9,rfl⟩:=J.f7 (Fa haft 7);go_simp;exact hK _ _ ⟨_,_,_,_,_,_,_,_,_,_,_,_,_,_,_,_,_,_,rfl,⟨uq J.f0,uq J.f1,uq J.f2,uq J.f3,uq J.f4,uq J.f5,uq J.f6,uq J.f7,(fun _=>rfl),uq J.f9,uq J.f10,uq J.f11,uq J.f12,uq J.f13,uq J.f14,uq J.f15,uq J.f16,uq J.f17,J.b⟩⟩
     ·go_simp;exact hK _ _ ⟨_,_,_,_,_,_,_,_,_,_,_,_,_,_,_,_,_,_,rfl,⟨uq J.f0,uq J.f1,uq J.f2,uq J.f3,uq J.f4,uq J.f5,uq J.f6,uq J.f7,uq J.f8,(fun _=>rfl),uq J.f10,uq J.f11,uq J.f12,uq J.f13,uq J.f14,uq J.f15,uq J.f16,uq J.f17,J.b⟩⟩
     ·obtain rfl:=J.f9 (Fa haft 9);go_simp;exact hK _ _ ⟨_,_,_,_,_,_,_,_,_,_,_,_,_,_,_,_,_,_,rfl,⟨uq J.f0,uq J.f1,uq J.f2,uq J.f3,uq J.f4,uq J.f5,uq J.f6,uq J.f7,uq J.f8,uq J.f9,(fun _=>rfl),uq J.f11,uq J.f12,uq J.f13,uq J.f14,uq J.f15,uq J.f16,uq J.f17,J.b⟩⟩
     ·obtain rfl:=J.f8 (Fa haft 8);obtain rfl:=J.f10 (Fa haft 10);go_simp;exact hK _ _ ⟨_,_,_,_,_,_,_,_,_,_,_,_,_,_,_,_,_,_,rfl,⟨uq J.f0,uq J.f1,uq J.f2,uq J.f3,uq J.f4,uq J.f5,uq J.f6,uq J.f7,uq J.f8,uq J.f9,uq J.f10,(fun _=>by first | rfl | (congr 1;exact decide_eq_true (by omega))),uq J.f12,uq J.f13,uq J.f14,uq J.f15,uq J.f16,uq J.f17,J.b⟩⟩
     ·obtain rfl:=J.f11 (Fa haft 11);go_simp;exact hK _ _ ⟨_,_,_,_,_,_,_,_,_,_,_,_,_,_,_,_,_,_,rfl,⟨uq J.f0,uq J.f1,uq J.f2,uq J.f3,uq J.f4,uq J.f5,uq J.f6,uq J.f7,uq J.f8,uq J.f9,uq J.f10,uq J.f11,(fun _=>rfl),uq J.f13,uq J.f14,uq J.f15,uq J.f16,uq J.f17,J.b⟩⟩
     ·obtain rfl:=J.f12 (haft ⟨12,.guard⟩ (by simp) rfl);rw [if_pos (by rfl)];go_simp;exact hK _ _ ⟨_,_,_,_,_,_,_,_,_,_,_,_,_,_,_,_,_,_,rfl,⟨uq J.f0,uq J.f1,uq J.f2,uq J.f3,uq J.f4,uq J.f5,uq J.f6,uq J.f7,uq J.f8,uq J.f9,uq J.f10,uq J.f11,uq J.f12,(fun _=>rfl),uq J.f14,uq J.f15,uq J.f16,uq J.f17,J.b⟩⟩
     ·obtain rfl:=J.f12 (haft ⟨12,.guard⟩ (by simp) rfl);obtain rfl:=J.f13 (Fa haft 13);rw [if_pos (by rfl)];go_simp;exact hK _ _ ⟨_,_,_,_,_,_,_,_,_,_,_,_,_,_,_,_,_,_,rfl,⟨uq J.f0,uq J.f1,uq J.f2,uq J.f3,uq J.f4,uq J.f5,uq J.f6,uq J.f7,uq J.f8,uq J.f9,uq J.f10,uq J.f11,uq J.f12,uq J.f13,(fun _=>rfl),uq J.f15,uq J.f16,uq J.f17,J.b⟩⟩
     ·obtain rfl:=J.f12 (haft ⟨12,.guard⟩ (by simp) rfl);obtain rfl:=J.f14 (Fa haft 14);rw [if_pos (by rfl)];go_simp;exact hK _ _ ⟨_,_,_,_,_,_,_,_,_,_,_,_,_,_,_,_,_,_,rfl,⟨uq J.f0,uq J.f1,uq J.f2,uq J.f3,uq J.f4,uq J.f5,uq J.f6,uq J.f7,uq J.f8,uq J.f9,uq J.f10,uq J.f11,uq J.f12,uq J.f13,uq J.f14,(fun _=>by first | rfl | (congr 1;exact decide_eq_true (by omega))),uq J.f16,uq J.f17,J.b⟩⟩
     ·obtain rfl:=J.f12 (Fa haft 12);obtain rfl:=J.f15 (Fa haft 15);go_simp;exact hK _ _ ⟨_,_,_,_,_,_,_,_,_,_,_,_,_,_,_,_,_,_,rfl,⟨uq J.f0,uq J.f1,uq J.f2,uq J.f3,uq J.f4,uq J.f5,uq J.f6,uq J.f7,uq J.f8,uq J.f9,uq J.f10,uq J.f11,uq J.f12,uq J.f13,uq J.f14,uq J.f15,(fun _=>rfl),uq J.f17,J.b⟩⟩
     ·obtain rfl:=J.f16 (Fa haft 16);go_simp;exact hK _ _ ⟨_,_,_,_,_,_,_,_,_,_,_,_,_,_,_,_,_,_,rfl,⟨uq J.f0,uq J.f1,uq J.f2,uq J.f3,uq J.f4,uq J.f5,uq J.f6,uq J.f7,uq J.f8,uq J.f9,uq J.f10,uq J.f11,uq J.f12,uq J.f13,uq J.f14,uq J.f15,uq J.f16,(fun _=>rfl),J.b⟩⟩
theorem zfk (A:Option Addr) (len cap:Nat) (w:World) (h:z3C w A len cap) :
  Calls Tryz.prog 4 #[.slice A len cap] w fun e w'=>e=.returned (.bool true)∧Below w.heap.size w w':=by
 have hlen:len≤maxLen:=Nat.le_trans h.1 h.2.1;unfold maxLen at hlen;by_cases hbig:len≤1048576
 ·exact zfj A len cap hbig w h
 ·clear h;have hb:(1048576:Int) < (len:Int):=(by omega);go_enter Tryz.func4,Tryz.ntmps4;go_wp2;go_ret;exact ⟨rfl,Below.refl _ _⟩
end
end Go.Proofs.YtggmjiddadjilamGreat
