/-
  PROVED HERE: what the program's ShrShare answers at every argument: the list 'shareL', in memory of its own; nothing that was in memory is turned. Also: 6 more texts of the same proof.
-/
import Derived.Test.YtggmjiddadjilahGreatJ27
set_option maxRecDepth 1000000
set_option maxHeartbeats 40000000
open Go.Proofs.Tryz
namespace Go.Proofs.YtggmjiddadjilahGreat
open Value (int)
open IntKind (i64)
section
open Go.RowKit Go.Shelf Go.Lib Go.Sort
theorem zbX {w0 W:World} {g:Nat} {d:Array Cl} (h:SWK z1R 3 w0 g 0 d W) {j:Nat} (hj:j < w0.heap.size) (hne:j ≠ g):W.heap[j]?=w0.heap[j]?:=by
 obtain ⟨n,os,rfl⟩:=h;unfold sortWorldK;rw [heap_grow_old _ _ (by rw [size_putRowK];exact hj)];unfold putRowK putRow mapBlock;show (Array.modify _ _ _)[j]?=_;rw [Array.getElem?_modify];simp [Ne.symm hne]
theorem zhc {w0 W:World} {g B:Nat} {d:Array Cl} (h:SWK z1R 3 w0 g 0 d W) (hB:B<=g) (hg:g < w0.heap.size):Below B w0 W:=by
 have hs:=h.le;have ho:=λj (hj:j < B)=>zbX h (j:=j) (by omega) (by omega);obtain ⟨n,os,rfl⟩:=h;exact ⟨rfl,rfl,rfl,hs,ho⟩
theorem zdo {w:World} {g:Nat} {d:Array Cl} (h:HoldsK z1R 3 w g 0 d) {i:Nat} (hi:i < d.size) :
  w.cell? ⟨g,i * 3,none⟩=some (int i64 d[i]!.p)/\w.cell? ⟨g,i * 3+1,none⟩=some (int i64 d[i]!.w)/\w.cell? ⟨g,i * 3+2,none⟩=some (int i64 d[i]!.o):=by
 have h0:=h.cell (i:=i) (c:=0) hi (by omega);have h1:=h.cell (i:=i) (c:=1) hi (by omega);have h2:=h.cell (i:=i) (c:=2) hi (by omega);simp only [Nat.zero_add,Nat.add_zero] at h0 h1 h2;exact ⟨h0.1,h1.1,h2.1⟩
theorem z6O {w w':World} {g:Nat} {d:Array Cl} (h:RowK z1R 3 w g 0 d) (hb:w'.heap[g]?=w.heap[g]?):RowK z1R 3 w' g 0 d:=by
 have hlt:g < w'.heap.size:=by
  have:=h.hblk;rw [Array.getElem?_eq_getElem this] at hb;exact (bL hb)
 refine ⟨h.hk,h.h1,λj hj=>?_,hlt⟩;have hh:=h.hH j hj;rw [World.cell?_of_block (w:=w) (a:=⟨g,0+j,none⟩) hb,World.frozen?_of_block (w:=w) (a:=⟨g,0+j,none⟩) hb];exact hh
theorem ziL {n i:Nat} (h:i < n):(z1l n)[i]?=some (int i64 0):=by
 unfold z1l;rw [Nat.mul_one,<-Array.getElem?_toList,show (Value.int .i64 0).cells=#[Value.int .i64 0] from rfl,toList_madeCells_one];simp [h]
theorem zdp {a b:List Int} (h:a.length=b.length) (hh:∀ i,i < a.length->a.getD i 0=b.getD i 0):a=b:=by
 apply List.ext_getElem h;intro i h1 h2;have:=hh i h1
 simpa [List.getD,h1,h2] using this
theorem z4n (w:World) (n:Nat) (hn:n<=1048576):zq (w.alloc (.cells (z1l n) 3)) w.heap.size (w.heap.size+1) (.slice (some ⟨w.heap.size,0,none⟩) n n) (List.replicate n 0) :=
 .inr ⟨w.heap.size,n,z1l n,by simp,lR,by omega,zj _ _,by simp,by unfold maxLen;omega,z6F n,λi hi=>by
  rw [List.length_replicate] at hi;rw [ziL hi];simp [List.getD,hi]⟩
theorem z5c (t:Int) (v:Value) (l:List Int) (hok:zI t l=true) (w:World) (h:zA w v l) :
  Calls prog 151 #[int i64 t,v] w λe w'=>∃ x,e=.returned x/\zq w' w.heap.size w'.heap.size x (zy t l)/\Below w.heap.size w w':=by
 obtain ⟨a,cap,rfl,_⟩:=h.form;have H:=O h;clear h;by_cases hne:l.length=0
 ·obtain rfl:l=[]:=List.eq_nil_of_length_eq_zero hne;have HE:=O (z4w (t:=t) (l:=[]) (by simp));go_enter func151,ntmps151;go_wp2;go_ret;exact ⟨_,rfl,.inl ⟨rfl,HE.out⟩,bR⟩
 ·obtain ⟨ht,hl,hw⟩:=z0d hok;have h0:0 < l.length:=(by omega);have hnil:l ≠ []:=List.length_pos_iff.1 h0;have hlz:((l.length:Int) == 0)=false:=(by simp;omega);have HF:=O (z2I hok hnil);have hokU:=z4U hok;have hpU:=z5q hw h0;have hln:=z3G l;have HC:=O (λW=>zcT t (.slice a l.length cap) l ht h0 hl hw W);have hmk:=z5I l.length (by omega);generalize wts l=u at HF hokU hpU hln HC;have HL:=O hln;have HBS:=O (λk hk=>z7x hokU hpU (i:=k) hk);have HSU:=O (z5r hokU hpU);have HLE:=O (z6e hokU hpU);have HUB:Hid (∀ k,k<=u.length->0<=z19 t u k/\z19 t u k<=t):=λk hk=>⟨(z5W k).1,Int.le_trans (z5X hk) (z54 hokU hpU).1⟩;clear hln hokU hpU hw hne hnil;go_enter func151,ntmps151;go_wp2_with fail
  refine (HC.out _ H.out).mono ?_;rintro e w1 ⟨g,rfl,hg,hR1,hb1⟩;have HR:=O hR1;have HK1:=O hb1;have hg1:g < w1.heap.size:=hR1.hblk;have hw1:=hb1.size;clear hR1 hb1;go_wp2_with fail
  clear hmk;have S0:Hid (zq (w1.alloc (.cells (z1l l.length) 3)) w1.heap.size (w1.heap.size+1) (.slice (some ⟨w1.heap.size,0,none⟩) l.length l.length) (List.replicate l.length 0)):=z4n w1 l.length (by omega);go_loopw [7,24] (λs7 s30 W=>∃ (k:Nat) (gl:List Int),k<=l.length/\s30=int i64 k/\s7=int i64 (t - z19 t u k)/\gl.length=l.length/\Hid (zq W w1.heap.size (w1.heap.size+1) (.slice (some ⟨w1.heap.size,0,none⟩) l.length l.length) gl)/\Hid (∀ i,i < k->gl.getD i 0=(z0C t u).getD i 0)/\Hid (W.heap[g]?=w1.heap[g]?)/\Hid (Below w.heap.size w W)/\w1.heap.size < W.heap.size) (λ_ s30 _=>l.length - (intOf s30).toNat)
  case atStart=>exact ⟨0,List.replicate l.length 0,nZ,rfl,by simp [z19],by simp,S0,λi hi=>absurd hi (Nat.not_lt_zero _),bA hg1,ze HK1.out _,by simp⟩
  case round =>
   clear S0;obtain ⟨k,gl,hk,rfl,rfl,hgl,HG,HE,HB,HW,hsz⟩:=hrel;by_cases hlt:k < l.length
   ·have hku:k < u.length:=(by rw [HL.out];exact hlt);have hds:k < (clL t u).toArray.size:=(by simp [z4S];exact hku);obtain ⟨c0,c1,c2⟩:=zdo (z6O HR.out HB.out).hH hds;have hbk:=HBS.out k hku;rw [z4T hku] at hbk;have hsu:=HUB.out k (by omega);have hsv:=HUB.out (k+1) (by omega);have HBG:=O (z4T (t:=t) hku)
    have HDU:Hid (z19 t u (k+1)=z19 t u k+(z0C t u).getD k 0):=by
     have e1:=HSU.out k (by omega);have e2:=HSU.out (k+1) (by omega);rw [z1w (by rw [z0A];exact hku)] at e2;show _=_;omega
    rw [HDU.out,HBG.out] at hsv;rw [z8L hku] at c0 c1 c2;simp only [cl] at c0 c1 c2;generalize t * u.getD k 0 / u.sum=x at c1 HBG hbk hsv;generalize t * u.getD k 0 % u.sum=y at c2;obtain ⟨g',cap',e',hb1',hd1',hgs,hc1,hc2,hx,hf⟩:=HG.out.get (i:=k) (by omega);simp only [Value.slice.injEq,Option.some.injEq,Addr.mk.injEq,and_true] at e';obtain ⟨e1',e2',e3'⟩:=e';subst e1';clear e2' e3' hc1 hc2 hb1' hd1' hgs hds;generalize gl.getD k 0=z at hx;have hgw:g < wr.heap.size:=(by omega);go_wp2;go_roundw
    case rel =>
     refine ⟨k+1,gl.set k x,by omega,by go_num,by rw [HDU.out,HBG.out];congr 1;omega,by simp [hgl],(HG.out.set (i:=k) (by omega) x).below (ze bR _) (by rw [z31];omega),λi hi=>?_,(bA (by rw [z31];omega)).trans ((bS (by simp;omega)).trans HB.out),ze (z2s HW.out hw1 _) _,by simp;omega⟩;by_cases e:i=k
     ·subst e;rw [HBG.out];simp [List.getD,hgl,hlt]
     ·have:=HE.out i (by omega);rw [<-this];simp [List.getD,List.getElem?_set_ne (Ne.symm e)]
    case measure=>simp [intOf];omega
   ·obtain rfl:k=l.length:=by omega
    have eg:gl=z0C t u:=zdp (by rw [hgl,z0A,HL.out]) (λi hi=>HE.out i (by omega));obtain ⟨lf,hlf⟩:∃ lf,lf=z2D t u:=⟨_,rfl⟩;have el:t - z19 t u l.length=(lf:Int):=(by rw [hlf,HLE.out.1,HL.out]);have hlf1:lf < l.length:=(by rw [hlf,<-HL.out];exact HLE.out.2);have hcs:(clL t u).toArray.size=l.length:=(by simp [z4S,HL.out])
    have HSo:Hid (Calls prog 159 #[.slice (some ⟨g,0,none⟩) l.length l.length,.func (.func 160) #[] #[]] wr λe w'=>e=.returned (.tuple #[])/\SWK z1R 3 wr g 0 (z04 t u).toArray w'):=by
     have h1:=zb3 g 0 l.length (clL t u).toArray wr (z6O HR.out HB.out) (zke t u) (by rw [hcs];exact hl);have h2:=h1.mono (R':=λe w'=>e=.returned (.tuple #[])/\SWK z1R 3 wr g 0 (z04 t u).toArray w') (λe w' ⟨he,d',hp,hs,hS⟩=>⟨he,by rw [<-zkf hp hs];exact hS⟩);rw [hcs] at h2;exact h2
    have HLF:=O hlf;rw [eg] at HG;rw [el];clear eg HE hgl el hcs hlf;go_wp2_with fail
    refine HSo.out.mono ?_;rintro e w3 ⟨rfl,S3⟩
    have HG3:Hid (zq w3 w1.heap.size (w1.heap.size+1) (.slice (some ⟨w1.heap.size,0,none⟩) l.length l.length) (z1s (z0C t u) (z04 t u) 0)):=by
     rw [z5Y];exact HG.out.kept (λj h1 h2 h3=>zbX S3 h1 (by omega))
    have HW3:=O (HW.out.trans ((zhc S3 lR (by omega)).mono hg));have HS3:=O (S3.holds (by omega) (z6O HR.out HB.out).hH (by simp [z4S,z5s]));have hz3:w1.heap.size < w3.heap.size:=nL hsz S3.le;clear S3 HSo HG HW HB hsz;go_wp2_with fail
    have hg3:g < w3.heap.size:=(by omega);go_loopw [45] (λs51 W=>∃ j:Nat,j<=lf/\s51=int i64 j/\Hid (zq W w1.heap.size (w1.heap.size+1) (.slice (some ⟨w1.heap.size,0,none⟩) l.length l.length) (z1s (z0C t u) (z04 t u) j))/\Hid (W.heap[g]?=w3.heap[g]?)/\Hid (Below w.heap.size w W)/\w1.heap.size < W.heap.size) (λs51 _=>lf - (intOf s51).toNat)
    case atStart=>exact ⟨0,nZ,rfl,HG3,rfl,HW3,hz3⟩
    case round =>
     clear HG3 HW3 hz3;obtain ⟨k,hk,rfl,HG,HB,HW,hsz⟩:=hrel;by_cases hlt:k < lf
     ·have hks:k < (z04 t u).length:=(by rw [z5s,HL.out];omega);have hka:k < (z04 t u).toArray.size:=(by simpa using hks);obtain ⟨c0,c1,c2⟩:=zdo (z6O ⟨z9o,z9p,HS3.out,by omega⟩ HB.out).hH hka;have hget:(z04 t u).toArray[k]! = (z04 t u)[k]:=(by rw [getElem!_pos _ k hka];simp);rw [hget] at c0 c1 c2;obtain ⟨i,hi,hcl⟩:=z6s (List.getElem_mem hks);have HN:=O (z55 (g:=z0C t u) hks);rw [hcl] at c0 c1 c2 HN;have hil:i < l.length:=(by rw [<-HL.out];exact hi);have hbl:(z1s (z0C t u) (z04 t u) k).length=l.length:=(by rw [z4V,z0A,HL.out]);have hbb:=z5J (B:=100000) (s:=z04 t u) (λj hj=>HBS.out j (by rw [z0A] at hj;exact hj)) k (by omega) i (by rw [z0A];exact hi);obtain ⟨g',cap',e',hb1',hd1',hgs,hc1,hc2,hx,hf⟩:=HG.out.get (i:=i) (by omega);simp only [Value.slice.injEq,Option.some.injEq,Addr.mk.injEq,and_true] at e';obtain ⟨e1',e2',e3'⟩:=e';subst e1';simp only [cl] at c0 c1 c2;have HN2:Hid (z1s (z0C t u) (z04 t u) (k+1)=(z1s (z0C t u) (z04 t u) k).set i ((z1s (z0C t u) (z04 t u) k).getD i 0+1)):=HN.out;have HST:=O (HG.out.set (i:=i) (by omega) ((z1s (z0C t u) (z04 t u) k).getD i 0+1));rw [<-HN2.out] at HST;generalize (z1s (z0C t u) (z04 t u) k).getD i 0=z at hx hbb HST;generalize t * u.getD i 0 / u.sum=x at c1;generalize t * u.getD i 0 % u.sum=y at c2;clear e2' e3' hc1 hc2 hb1' hd1' hgs HN HN2 hget hka hks hcl hbl;have hgw:g < wr.heap.size:=(by omega);go_wp2;go_roundw
      case rel =>
       refine ⟨k+1,by omega,by go_num,HST.out.below (ze bR _) (by rw [z31];omega),(bA (by rw [z31];omega)).trans ((bS (by simp;omega)).trans HB.out),ze (z2s HW.out hw1 _) _,by simp;omega⟩
      case measure=>simp [intOf];omega
     ·obtain rfl:k=lf:=by omega
      have HE:Hid (zy t l=z1s (z0C t u) (z04 t u) k):=(by rw [HLF.out];exact HF.out);go_wp2;go_ret;exact ⟨_,rfl,by rw [HE.out];exact HG.out.base hw1 hsz,HW.out⟩
theorem zdq (t:Int) (v:Value) (l:List Int) (w:World) (h:zA w v l) :
  Calls prog 162 #[int i64 t,v] w λe w'=>∃ x,e=.returned x/\zq w' w.heap.size w'.heap.size x (zy t l)/\Below w.heap.size w w':=by
 obtain ⟨a,cap,rfl,_⟩:=h.form;have H:=O h;clear h;have HO:=O (λW=>zgL t (.slice a l.length cap) l W);by_cases hok:zI t l=true
 ·have HS:=O (λW=>z5c t (.slice a l.length cap) l hok W);go_enter func162,ntmps162;go_wp2_with fail
  refine (HO.out _ H.out).mono ?_;rintro e w1 ⟨rfl,e1⟩
  cases e1
  rw [hok];go_wp2_with fail
  refine (HS.out _ H.out).mono ?_;rintro e w2 ⟨x,rfl,hr,hb⟩;have R:=O (And.intro hr hb);clear hr hb;go_wp2;go_ret;exact ⟨x,rfl,R.out.1,R.out.2⟩
 ·have hok':=eq_false_of_ne_true hok;have HE:=O (z4w (t:=t) (l:=l) (by simp [hok']));go_enter func162,ntmps162;go_wp2_with fail
  refine (HO.out _ H.out).mono ?_;rintro e w1 ⟨rfl,e1⟩
  cases e1
  rw [hok'];go_wp2;go_ret;exact ⟨_,rfl,.inl ⟨rfl,HE.out⟩,bR⟩
end
section
open Go.RowKit
theorem zkm:(prog.info? 3).map (λi=>(i.zero,i.size,i.bytes))=some (some (Value.int .i64 0),1,8):=by kernel_rfl
theorem z7V (t:Int) (v:Value) (l:List Int) (hok:zI t l=true) (w:World) (h:zA w v l) :
  Calls prog 148 #[int i64 t,v] w λe w'=>∃ x,e=.returned (.tuple #[x,int i64 (z2l t l)])/\zq w' w.heap.size w'.heap.size x (z0F t l)/\Below w.heap.size w w':=by
 obtain ⟨i0,hi0,hz0,hz1,hz2⟩:=info_parts zkm;obtain ⟨a,cap,rfl,_⟩:=h.form;have H:=O h;obtain ⟨ht,hl,hw⟩:=z0d hok;have hsb:=z2G hw;have HS:=O (λW=>z7S (.slice a l.length cap) l (by omega) hw W);by_cases hs:l.sum<=t
 ·obtain ⟨e1,e2⟩:=z46 hok hs;have E1:=O e1;have E2:=O e2;clear e1 e2 hw;by_cases h0:0 < l.length
  ·obtain ⟨b,off,cap',e',_,_,hbw,_⟩:=h.get h0;simp only [Value.slice.injEq,true_and] at e';obtain ⟨rfl,rfl⟩:=e';clear h;go_enter func148,ntmps148;go_wp2_with fail
   refine (HS.out _ H.out).mono ?_;rintro e w1 ⟨rfl,ex⟩
   cases ex
   generalize l.sum=s at hs E2 hsb;go_wp2_with (at_builtin;refine wpList_append_own_at _ rfl _ _ 27 rfl w.heap.size 3 i0 (int i64 0) 1 8 underlying27 hi0 hz0 hz1 hz2 rfl (by decide) _ 0 [] rfl (World.ownsRow_nil w w.heap.size 3 1) ⟨b,off,none⟩ l.length cap (l.map (Value.int .i64)) rfl ?e1 (z8y H.out bR) (zb5 l) ?e4 ?e5 ?e6 ?_)
   case e1=>simp
   case e4=>unfold maxLen;omega
   case e5=>omega
   case e6=>exact lR
   intro v5 w5 ho5 hg5 _ _;have R5:=O (zq.of_owns (l:=l) (by simpa using ho5));have K5:Hid (Below w.heap.size w w5):=(Below.refl w.heap.size w).grown hg5 lR (λq hq=>by simp [Value.ownBlock] at hq);obtain ⟨a5,c5,rfl⟩:=R5.out.form;clear ho5 hg5;go_wp2
   go_ret2
   exact ⟨_,z8u E2.out.symm,by rw [E1.out];exact R5.out,K5.out⟩
  ·obtain rfl:l=[]:=List.eq_nil_of_length_eq_zero (by omega);clear h
   cases a with
   | none =>
    go_enter func148,ntmps148;go_wp2_with fail
    refine (HS.out _ H.out).mono ?_;rintro e w1 ⟨rfl,ex⟩
    cases ex
    generalize ([]:List Int).sum=s at hs E2 hsb;go_wp2
    go_ret2
    exact ⟨_,z8u E2.out.symm,by rw [E1.out];exact .inl ⟨rfl,rfl⟩,bR⟩
   | some p =>
    go_enter func148,ntmps148;go_wp2_with fail
    refine (HS.out _ H.out).mono ?_;rintro e w1 ⟨rfl,ex⟩
    cases ex
    generalize ([]:List Int).sum=s at hs E2 hsb;go_wp2
    go_ret2
    exact ⟨_,z8u E2.out.symm,by rw [E1.out];exact .inl ⟨rfl,rfl⟩,bR⟩
 ·obtain ⟨e1,e2⟩:=z37 hok hs;have E1:=O e1;have E2:=O e2;have HSh:=O (λW=>z5c t (.slice a l.length cap) l hok W);clear e1 e2 hw h;go_enter func148,ntmps148;go_wp2_with fail
  refine (HS.out _ H.out).mono ?_;rintro e w1 ⟨rfl,ex⟩
  cases ex
  generalize l.sum=s at hs hsb;go_wp2_with fail
  refine (HSh.out _ H.out).mono ?_;rintro e w2 ⟨x,rfl,hr,hb⟩;have R:=O (And.intro hr hb);clear hr hb;go_wp2
  go_ret2
  exact ⟨x,z8u E2.out.symm,by rw [E1.out];exact R.out.1,R.out.2⟩
theorem zq.sub {w:World} {B D g n cap:Nat} {l:List Int} (h:zq w B D (.slice (some ⟨g,0,none⟩) n cap) l) {c m:Nat} (hc:c+m<=l.length) (hm:1<=m):zA w (.slice (some ⟨g,c,none⟩) m (cap - c)) (z07 l c m):=by
 have hlen:=z1S hc
 rcases h with ⟨hv,_⟩ | ⟨g',cap',cur,hv,hb,hd,hg,h1,h2,h3,h4⟩
 ·simp at hv
 ·simp only [Value.slice.injEq,Option.some.injEq,Addr.mk.injEq,and_true] at hv;obtain ⟨rfl,rfl,rfl⟩:=hv;refine ⟨_,cap - c,by rw [hlen],by rw [hlen];omega,by omega,λi hi=>⟨g,c,rfl,(bL hg),?_⟩⟩;rw [hlen] at hi;rw [z7A hc hi];exact (zf hg).trans (h4 (c+i) (by omega))
theorem zq.bk {w w':World} {B D g:Nat} {v:Value} {l:List Int} (h:zq w B D v l) (k:Bk g w w') (hg:g < B\/D<=g):zq w' B D v l:=h.kept (λj h0 h1 h2=>k.block j h0 (by omega))
theorem zhi {l:List Int} {c m:Nat} {gap:Int} (hb:UpB l 50000) (hc:c+m<=l.length) (hm:1<=m/\m<=4) (hg:0<=gap/\gap<=3):z1P (z07 l c m) gap=(z07 l c m).sum+gap * ((m:Int) - 1)/\0<=z1P (z07 l c m) gap/\z1P (z07 l c m) gap<=300000:=by
 have hs:=z5t (λx (hx:x ∈ z07 l c m)=>hb.mem (z6t hx));rw [z1S hc] at hs;have hgm:0<=gap * ((m:Int) - 1):=Int.mul_nonneg hg.1 (by omega);have hgm2:gap * ((m:Int) - 1)<=9:=Int.le_trans (Int.mul_le_mul hg.2 (show (m:Int) - 1<=3 by omega) (by omega) (by omega)) (by omega)
 have e:z1P (z07 l c m) gap=(z07 l c m).sum+gap * ((m:Int) - 1):=by
  rw [z3k (by rw [z1S hc];omega),z1S hc,z32 (by omega)]
 rw [e];omega
theorem zhj (B D g n cap:Nat) (l:List Int) (hb:UpB l 50000) (c m:Nat) (hc:c+m<=l.length) (hm:1<=m/\m<=4) (gap need:Int) (hg:0<=gap/\gap<=3) (hn:0<=need/\need<=30) (w:World) (h:zq w B D (.slice (some ⟨g,0,none⟩) n cap) l) (hgw:g < w.heap.size) :
  Calls prog 156 #[.slice (some ⟨g,c,none⟩) m (cap - c),int i64 gap,int i64 need] w λe w'=>e=.returned (.tuple #[])/\zq w' B D (.slice (some ⟨g,0,none⟩) n cap) (z3a l c m gap need)/\Bk g w w':=by
 have hI:=h.sub hc hm.1;obtain ⟨ha,ha0,ha1⟩:=zhi hb hc hm hg;have KA:=O (z5R _ _ gap w hI);have HLk:Hid (z1i l c m gap need=need - z1P (z07 l c m) gap):=(by rw [Hid,ha];rfl);have HH:=O h;clear h;by_cases hl:z1i l c m gap need<=0
 ·have HV:Hid (z3a l c m gap need=l):=(by rw [Hid,z3a,if_pos hl]);rw [HLk.out] at hl;clear hI ha HLk;generalize z1P (z07 l c m) gap=y at KA hl ha0 ha1
  have hcap:m<=cap - c/\cap - c<=9223372036854775807:=by
   rcases HH.out with ⟨hv,_⟩ | ⟨g',cap',cur,hv,_,_,_,h1,h2,_,_⟩
   ·simp at hv
   ·simp only [Value.slice.injEq,Option.some.injEq,Addr.mk.injEq,and_true] at hv;obtain ⟨rfl,rfl,rfl⟩:=hv;unfold maxLen at h2;omega
  go_enter func156,ntmps156;go_wp2_with fail
  refine KA.out.mono ?_;rintro e w1 ⟨rfl,rfl⟩;go_wp2;exact bodyPost_ret (v:=.tuple #[]) (by simp [results,results156,go_sem]) rfl ⟨rfl,by rw [HV.out];exact HH.out,Bk.refl _ _⟩
 ·obtain ⟨hok,h30⟩:=zaR hb hc hm hg hn.2 (by omega);have HV:Hid (z3a l c m gap need=z2E l c (zy (z1i l c m gap need) (z07 l c m)) m):=(by rw [Hid,z3a,if_neg hl])
  have hcap:n=l.length/\m<=cap - c/\cap - c<=9223372036854775807/\B<=g/\g < D:=by
   rcases HH.out with ⟨hv,_⟩ | ⟨g',cap',cur,hv,h5,h6,_,h1,h2,_,_⟩
   ·simp at hv
   ·simp only [Value.slice.injEq,Option.some.injEq,Addr.mk.injEq,and_true] at hv;obtain ⟨rfl,rfl,rfl⟩:=hv;unfold maxLen at h2;omega
  obtain ⟨rfl,hcp1,hcp2,hBg,hgD⟩:=hcap;have hsl:=z1B hok;rw [z1S hc] at hsl;have HSB:=O (λk hk=>z1G (t:=z1i l c m gap need) (l:=z07 l c m) k hk);have KS:=O (zdq (z1i l c m gap need) _ _ w hI);rw [HLk.out] at hl h30 KS HV hsl HSB;clear hI ha HLk hok;generalize z1P (z07 l c m) gap=y at KA hl ha0 ha1 h30 KS HV hsl HSB;generalize zy (need - y) (z07 l c m)=sh at KS HV hsl HSB;go_enter func156,ntmps156;go_wp2_with fail
  refine KA.out.mono ?_;rintro e w1 ⟨rfl,e1⟩
  cases e1
  go_wp2_with fail
  refine KS.out.mono ?_;rintro e w2 ⟨v2,rfl,hr2,hb2⟩;obtain ⟨a2,c2,rfl⟩:=hr2.form;rw [hsl] at hr2 |-;have HS2:=O hr2;have HR2:=O (HH.out.kept (λj h0 _ _=>hb2.block j h0));have HK2:=O (Bk.of_below (r:=g) hb2);have hz2:=hb2.size;clear hr2 hb2 KA KS HH;go_wp2_with fail
  go_loopw [20] (λs W=>∃ k:Nat,s=int i64 k/\k<=m/\Hid (zq W B D (.slice (some ⟨g,0,none⟩) l.length cap) (z2E l c sh k))/\Hid (zq W w.heap.size w2.heap.size (.slice a2 m c2) sh)/\Hid (Bk g w W)) (λs _=>m - (intOf s).toNat)
  case atStart=>exact ⟨0,rfl,nZ,HR2,HS2,HK2⟩
  case round =>
   obtain ⟨k,rfl,hk,HR,HS,HK⟩:=hrel;by_cases hlt:k < m
   ·obtain ⟨g',cap',e',hb1',hd1',hgs,hc1,hc2,hx,hf⟩:=HS.out.get (i:=k) (by omega);simp only [Value.slice.injEq,hsl,true_and] at e';obtain ⟨rfl,rfl⟩:=e';obtain ⟨g3,cap3,e3,hb3,hd3,hgs3,hc3,hc4,hy,hfy⟩:=HR.out.get (i:=c+k) (by rw [z3n];omega);simp only [Value.slice.injEq,Option.some.injEq,Addr.mk.injEq,and_true] at e3;obtain ⟨rfl,_,rfl⟩:=e3;have hyv:=z6H l c sh (i:=c+k) k (λj hj=>by omega);rw [hyv] at hy;have hbx:=hb (c+k) (by omega);have hbs:=HSB.out k (by omega);have HN:=O (HR.out.set (i:=c+k) (by rw [z3n];omega) (l.getD (c+k) 0+sh.getD k 0));have HN2:Hid (z2E l c sh (k+1)=(z2E l c sh k).set (c+k) (l.getD (c+k) 0+sh.getD k 0)):=rfl;rw [<-HN2.out] at HN;generalize l.getD (c+k) 0=z at hy hbx HN;generalize sh.getD k 0=q at hx hbs HN;unfold maxLen at hc2 hc4;clear hyv HN2;go_wp2;go_roundw
    case rel=>exact ⟨k+1,by go_num,by omega,HN.out,HS.out.kept (λj h0 h1 h2=>bS (by show j ≠ g;omega)),HK.out.set (.inl rfl) _⟩
    case measure=>simp [intOf];omega
   ·obtain rfl:k=m:=by omega
    go_wp2
    go_end0
    exact ⟨rfl,by rw [HV.out];exact HR.out,HK.out⟩
def z2O (w:World) (gb:Nat) (bl:List Bool):Prop:=∃ bs,w.heap[gb]?=some (.cells bs 4)/\bs.size=bl.length/\∀ i,i < bl.length->bs[i]?=some (.bool (bl.getD i false))
theorem z2O.get {w:World} {gb:Nat} {bl:List Bool} (h:z2O w gb bl) {i:Nat} (hi:i < bl.length):w.cell? ⟨gb,i,none⟩=some (.bool (bl.getD i false))/\w.frozen? ⟨gb,i,none⟩=false:=by
 obtain ⟨bs,h1,h2,h3⟩:=h;exact ⟨(zf h1).trans (h3 i hi),zS h1⟩
theorem z2O.kept {w w':World} {gb:Nat} {bl:List Bool} (h:z2O w gb bl) (hb:w'.heap[gb]?=w.heap[gb]?):z2O w' gb bl:=by
 obtain ⟨bs,h1,h2⟩:=h;exact ⟨bs,hb.trans h1,h2⟩
theorem z2O.set {w:World} {gb:Nat} {bl:List Bool} (h:z2O w gb bl) (i:Nat) (hi:i < bl.length) (x:Bool):z2O (w.setCell ⟨gb,i,none⟩ (.bool x)) gb (bl.set i x):=by
 obtain ⟨bs,h1,h2,h3⟩:=h;refine ⟨_,z0s h1 _,by simpa using h2,λj hj=>?_⟩;rw [List.length_set] at hj;by_cases e:i=j
 ·subst e;simp [List.getD,hj,show i < bs.size by omega]
 ·rw [Array.getElem?_setIfInBounds_ne e,h3 j hj];simp [List.getD,e]
theorem zfv (v:Value) (lr:List Int) (gb cap:Nat) (bl:List Bool) (hl:bl.length=lr.length) (w:World) (h:zA w v lr) (hb:z2O w gb bl) :
  Calls prog 120 #[v,.slice (some ⟨gb,0,none⟩) lr.length cap] w λe w'=>∃ k:Int,e=.returned (int i64 k)/\z2X lr bl lr.length k/\∃ q,w'=w.drewN q:=by
 obtain ⟨a,ca,rfl,_⟩:=h.form;have H:=O h;have HBo:=O hb;have HL:=O hl;clear h hb hl;go_enter func120,ntmps120;go_wp2_with fail
 go_loopw [5,6] (λs5 s6 W=>∃ (m nd:Nat) (k:Int),m<=lr.length/\s6=int i64 m/\s5=int i64 k/\Hid (z2X lr bl m k)/\W=w.drewN nd) (λ_ s6 _=>lr.length - (intOf s6).toNat)
 case atStart=>exact ⟨0,0,-1,nZ,rfl,rfl,z2X.zero lr bl,rfl⟩
 case round =>
  obtain ⟨m,nd,k,hm,rfl,rfl,HN,rfl⟩:=hrel;by_cases hlt:m < lr.length
  ·obtain ⟨cb,fb⟩:=HBo.out.get (i:=m) (by rw [HL.out];exact hlt);obtain ⟨b,off,cap',e',hc1,hc2,hbl,hx⟩:=H.out.get hlt;simp only [Value.slice.injEq,true_and] at e';obtain ⟨rfl,rfl⟩:=e';unfold maxLen at hc2
   cases hbm:bl.getD m false with
   | true =>
    rw [hbm] at cb;have HN2:=O (HN.out.got hbm);clear hbm;go_wp2_with fail
    go_quiet (fail)
    go_wp2;go_roundw
    case rel=>exact ⟨m+1,nd+nq,k,by omega,by go_num,rfl,HN2,rfl⟩
    case measure=>simp [intOf];omega
   | false =>
    rw [hbm] at cb
    rcases HN.out with ⟨hk,h2⟩ | ⟨j,hk,h2,h3,h4⟩
    ·have HN2:=O (z2X.first (lr:=lr) h2 hbm);subst hk;clear hbm h2;go_wp2_with fail
     go_quiet (fail)
     go_wp2;go_roundw
     case rel=>exact ⟨m+1,nd+nq,m,by omega,by go_num,rfl,HN2,rfl⟩
     case measure=>simp [intOf];omega
    ·obtain ⟨b2,z4H,cap2,e2,_,_,_,hy⟩:=H.out.get (i:=j) (by omega);simp only [Value.slice.injEq,Option.some.injEq,Addr.mk.injEq,and_true,true_and] at e2;obtain ⟨⟨q1,q2⟩,q3⟩:=e2;subst q1;subst q2;subst hk;have hj0:(0:Int)<=(j:Int):=(by omega);have hj1:(j:Int) < (lr.length:Int):=(by omega);have hj2:¬ (j:Int) < 0:=(by omega);have hj3:decide ((j:Int) < 0)=false:=decide_eq_false hj2;by_cases hgt:lr.getD j 0 < lr.getD m 0
     ·have HN2:=O (z2X.more h4 hbm hgt);generalize lr.getD j 0=y at hy hgt;generalize lr.getD m 0=x at hx hgt;clear hbm h4 h3 q3;go_wp2_with fail
      go_quiet (fail)
      go_wp2;go_roundw
      case rel=>exact ⟨m+1,nd+nq,m,by omega,by go_num,rfl,HN2,rfl⟩
      case measure=>simp [intOf];omega
     ·have HN2:=O (z2X.less h2 h3 h4 hgt);generalize lr.getD j 0=y at hy hgt;generalize lr.getD m 0=x at hx hgt;clear hbm h4 h3 q3;go_wp2_with fail
      go_quiet (fail)
      go_wp2;go_roundw
      case rel=>exact ⟨m+1,nd+nq,j,by omega,by go_num,rfl,HN2,rfl⟩
      case measure=>simp [intOf];omega
  ·obtain rfl:m=lr.length:=by omega
   go_wp2;go_ret;exact ⟨k,rfl,HN.out,nd,rfl⟩
structure Q4 (w W:World) (v5 v8 v9:Value) (gb:Nat) (u lo lr:List Int) (bl:List Bool):Prop where
 o5:W.ownsRow w.heap.size 3 1 v5 u.length (u.map (Value.int .i64))
 o8:W.ownsRow w.heap.size 3 1 v8 lo.length (lo.map (Value.int .i64))
 o9:W.ownsRow w.heap.size 3 1 v9 lr.length (lr.map (Value.int .i64))
 bo:z2O W gb bl
 hb:w.heap.size<=gb
 n58:v5.ownBlock ≠ v8.ownBlock
 n59:v5.ownBlock ≠ v9.ownBlock
 n89:v8.ownBlock ≠ v9.ownBlock
 nb5:v5.ownBlock ≠ some gb
 nb8:v8.ownBlock ≠ some gb
 nb9:v9.ownBlock ≠ some gb
 below:Below w.heap.size w W
theorem z2O.lt {w:World} {gb:Nat} {bl:List Bool} (h:z2O w gb bl):gb < w.heap.size:=by
 obtain ⟨bs,h1,_⟩:=h;exact (bL h1)
theorem Q4.alloc {w W:World} {v5 v8 v9:Value} {gb:Nat} {u lo lr:List Int} {bl:List Bool} (h:Q4 w W v5 v8 v9 gb u lo lr bl) (o:Obj):Q4 w (W.alloc o) v5 v8 v9 gb u lo lr bl :=
 { h with o5:=h.o5.alloc o,o8:=h.o8.alloc o,o9:=h.o9.alloc o,bo:=h.bo.kept (bA h.bo.lt),below:=h.below.alloc h.below.size o }
theorem Q4.drewN {w W:World} {v5 v8 v9:Value} {gb:Nat} {u lo lr:List Int} {bl:List Bool} (h:Q4 w W v5 v8 v9 gb u lo lr bl) (n:Nat):Q4 w (W.drewN n) v5 v8 v9 gb u lo lr bl :=
 { h with o5:=h.o5,o8:=h.o8,o9:=h.o9,bo:=h.bo.kept rfl,below:=z4a h.below n }
theorem z4J {w:World} {v:Value} {B n:Nat} {e:TypeId} {xs:List Value} (h:w.ownsRow B e 1 v n xs) (k:Nat) (hk:w.heap.size<=k):v.ownBlock ≠ some k:=λe=>by have:=(h.lt k e).2;omega
theorem Q4.app8 {w W W':World} {v5 v8 v9 v':Value} {gb:Nat} {u lo lr:List Int} {bl:List Bool} (h:Q4 w W v5 v8 v9 gb u lo lr bl) {x:Int}
  (ho:W'.ownsRow w.heap.size 3 1 v' (lo.length+1) (lo.map (Value.int .i64) ++ [int i64 x])) (hg:W.grownBy W' v8.ownBlock) (hat:v'.ownBlock=v8.ownBlock\/v'.ownBlock=some W.heap.size):Q4 w W' v5 v' v9 gb u (lo ++ [x]) lr bl where
 o5:=h.o5.kept hg (.inr h.n58)
 o8:=by rw [List.length_append,List.map_append];exact ho
 o9:=h.o9.kept hg (.inr (Ne.symm h.n89))
 bo:=h.bo.kept (hg.block gb h.bo.lt (Ne.symm h.nb8))
 hb:=h.hb
 n58:=by rcases hat with e | e <;> rw [e];exact h.n58;exact z4J h.o5 _ lR
 n59:=h.n59
 n89:=by rcases hat with e | e <;> rw [e];exact h.n89;exact (z4J h.o9 _ lR).symm
 nb5:=h.nb5
 nb8:=by rcases hat with e | e <;> rw [e];exact h.nb8;exact λe=>by have:=h.bo.lt;simp at e;omega
 nb9:=h.nb9
 below:=h.below.grown hg h.below.size (λb hb=>(h.o8.lt b hb).1)
theorem Q4.app9 {w W W':World} {v5 v8 v9 v':Value} {gb:Nat} {u lo lr:List Int} {bl:List Bool} (h:Q4 w W v5 v8 v9 gb u lo lr bl) {x:Int}
  (ho:W'.ownsRow w.heap.size 3 1 v' (lr.length+1) (lr.map (Value.int .i64) ++ [int i64 x])) (hg:W.grownBy W' v9.ownBlock) (hat:v'.ownBlock=v9.ownBlock\/v'.ownBlock=some W.heap.size):Q4 w W' v5 v8 v' gb u lo (lr ++ [x]) bl where
 o5:=h.o5.kept hg (.inr h.n59)
 o8:=h.o8.kept hg (.inr h.n89)
 o9:=by rw [List.length_append,List.map_append];exact ho
 bo:=h.bo.kept (hg.block gb h.bo.lt (Ne.symm h.nb9))
 hb:=h.hb
 n58:=h.n58
 n59:=by rcases hat with e | e <;> rw [e];exact h.n59;exact z4J h.o5 _ lR
 n89:=by rcases hat with e | e <;> rw [e];exact h.n89;exact z4J h.o8 _ lR
 nb5:=h.nb5
 nb8:=h.nb8
 nb9:=by rcases hat with e | e <;> rw [e];exact h.nb9;exact λe=>by have:=h.bo.lt;simp at e;omega
 below:=h.below.grown hg h.below.size (λb hb=>(h.o9.lt b hb).1)
theorem z5z (W:World) (p:Addr) (v:Value):W.grownBy (W.setCell p v) (some p.block) :=
 ⟨rfl,rfl,rfl,by simp [World.setCell],λk _ hne=>bS (λe=>hne (by rw [e]))⟩
theorem Q4.set8 {w W:World} {v5 v9:Value} {g8 n c gb:Nat} {u lo lr:List Int} {bl:List Bool} (h:Q4 w W v5 (.slice (some ⟨g8,0,none⟩) n c) v9 gb u lo lr bl) (i:Nat) (hi:i < lo.length) (x:Int) :
  Q4 w (W.setCell ⟨g8,i,none⟩ (int i64 x)) v5 (.slice (some ⟨g8,0,none⟩) n c) v9 gb u (lo.set i x) lr bl where
 o5:=h.o5.kept (z5z W ⟨g8,i,none⟩ (int i64 x)) (.inr h.n58)
 o8:=((zq.of_owns h.o8).set hi x).owns
 o9:=h.o9.kept (z5z W ⟨g8,i,none⟩ (int i64 x)) (.inr (Ne.symm h.n89))
 bo:=h.bo.kept ((z5z W ⟨g8,i,none⟩ (int i64 x)).block gb h.bo.lt (Ne.symm h.nb8))
 hb:=h.hb
 n58:=h.n58
 n59:=h.n59
 n89:=h.n89
 nb5:=h.nb5
 nb8:=h.nb8
 nb9:=h.nb9
 below:=h.below.setCell (h.o8.lt g8 rfl).1 _
theorem Q4.setb {w W:World} {v5 v8 v9:Value} {gb:Nat} {u lo lr:List Int} {bl:List Bool} (h:Q4 w W v5 v8 v9 gb u lo lr bl) (i:Nat) (hi:i < bl.length) (x:Bool) :
  Q4 w (W.setCell ⟨gb,i,none⟩ (.bool x)) v5 v8 v9 gb u lo lr (bl.set i x) where
 o5:=h.o5.kept (z5z W ⟨gb,i,none⟩ (.bool x)) (.inr h.nb5)
 o8:=h.o8.kept (z5z W ⟨gb,i,none⟩ (.bool x)) (.inr h.nb8)
 o9:=h.o9.kept (z5z W ⟨gb,i,none⟩ (.bool x)) (.inr h.nb9)
 bo:=h.bo.set i hi x
 hb:=h.hb
 n58:=h.n58
 n59:=h.n59
 n89:=h.n89
 nb5:=h.nb5
 nb8:=h.nb8
 nb9:=h.nb9
 below:=h.below.setCell h.hb _
def z4o (n:Nat):Array Value:=madeCells (Value.bool false).cells (n * 1)
theorem zko:(prog.info? 4).map (λi=>(i.zero,i.size,i.bytes))=some (some (Value.bool false),1,1):=by kernel_rfl
theorem zhk (n:Nat) (hn:n<=1048576) (u:World):(Instr.makeSlice 148 (int i64 (n:Int)) (int i64 (n:Int))).run prog u=.ok (.slice (some ⟨u.heap.size,0,none⟩) n n) (u.alloc (.cells (z4o n) 4)):=by
 obtain ⟨i0,hi,hz0,hz1,hz2⟩:=info_parts zko;have h:=run_make (P:=prog) u 148 4 i0 _ underlying148 hi hz0 .i64 .i64 (n:Int) (n:Int) (by omega) (Int.le_refl _) (by rw [hz2];omega) (by omega);rw [hz1,Int.toNat_natCast] at h;exact h
theorem zhl (w:World) (n:Nat):z2O (w.alloc (.cells (z4o n) 4)) w.heap.size (List.replicate n false):=by
 refine ⟨z4o n,zj _ _,by rw [z4o,size_madeCells];simp,λi hi=>?_⟩;rw [List.length_replicate] at hi;unfold z4o;rw [Nat.mul_one,<-Array.getElem?_toList,show (Value.bool false).cells=#[Value.bool false] from rfl,toList_madeCells_one];simp [List.getD,hi]
theorem Q4.start {w W:World} {g5 n c5:Nat} {u:List Int} (h5:W.ownsRow w.heap.size 3 1 (.slice (some ⟨g5,0,none⟩) n c5) u.length (u.map (Value.int .i64))) (hb:Below w.heap.size w W) (m:Nat) :
  Q4 w (((W.alloc (.cells #[] 3)).alloc (.cells #[] 3)).alloc (.cells (z4o m) 4)) (.slice (some ⟨g5,0,none⟩) n c5) (.slice (some ⟨W.heap.size,0,none⟩) 0 0) (.slice (some ⟨W.heap.size+1,0,none⟩) 0 0) (W.heap.size+2) u [] [] (List.replicate m false) where
 o5:=((h5.alloc _).alloc _).alloc _
 o8:=((World.ownsRow_made (base:=w.heap.size) (e:=3) (size:=1) W #[] 0 hb.size nZ rfl).alloc _).alloc _
 o9:=by
  have:=World.ownsRow_made (base:=w.heap.size) (e:=3) (size:=1) (W.alloc (.cells #[] 3)) #[] 0 (by have:=hb.size;simp;omega) nZ rfl;have e:(W.alloc (.cells #[] 3)).heap.size=W.heap.size+1:=(by simp);rw [e] at this;exact this.alloc _
 bo:=by
  have:=zhl ((W.alloc (.cells #[] 3)).alloc (.cells #[] 3)) m;have e:((W.alloc (.cells #[] 3)).alloc (.cells #[] 3)).heap.size=W.heap.size+2:=(by simp);rw [e] at this;exact this
 hb:=by have:=hb.size;omega
 n58:=z4J h5 _ lR
 n59:=z4J h5 (W.heap.size+1) (by omega)
 n89:=λe=>by simp [Value.ownBlock] at e
 nb5:=z4J h5 (W.heap.size+2) (by omega)
 nb8:=λe=>by simp [Value.ownBlock] at e
 nb9:=λe=>by simp [Value.ownBlock] at e
 below:=ze (ze (ze hb _) _) _
theorem Q4.cell5 {w W:World} {v8 v9:Value} {g5 n c5 gb:Nat} {u lo lr:List Int} {bl:List Bool} (h:Q4 w W (.slice (some ⟨g5,0,none⟩) n c5) v8 v9 gb u lo lr bl) {k:Nat} (hk:k < u.length):W.cell? ⟨g5,k,none⟩=some (int i64 (u.getD k 0))/\g5 < W.heap.size:=by
 obtain ⟨gq,capq,eq1,_,_,hg,_,_,hy,_⟩:=(zq.of_owns h.o5).get hk;simp only [Value.slice.injEq,Option.some.injEq,Addr.mk.injEq,and_true] at eq1;obtain ⟨rfl,_⟩:=eq1;exact ⟨hy,hg⟩
theorem zfw {l:List Int} (h:∀ i,i < l.length->0<=l.getD i 0/\l.getD i 0<=100000):l.all wtB=true:=by
 rw [List.all_eq_true];intro x hx;obtain ⟨i,hi,rfl⟩:=List.getElem_of_mem hx;have:=h i hi;simp only [wtB,decide_eq_true_eq]
 simpa [List.getD,hi] using this
theorem ziQ {l:List Int} {k:Nat} (h:k < l.length):(List.replicate k (1:Int) ++ l.drop k).set k 1=List.replicate (k+1) 1 ++ l.drop (k+1):=by
 rw [List.set_append_right _ _ (by simp)];simp only [List.length_replicate,Nat.sub_self];rw [List.drop_eq_getElem_cons h,List.set_cons_zero,List.replicate_succ',List.append_assoc];rfl
theorem zdv:(prog.info? 3).map (λi=>(i.zero,i.size,i.bytes))=some (some (Value.int .i64 0),1,8):=by kernel_rfl
theorem z9e (t:Int) (v:Value) (l:List Int) (hok:zI t l=true) (h0:0 < l.length) (w:World) (h:zA w v l) :
  Calls prog 95 #[int i64 t,v] w λe w'=>∃ x,e=.returned x/\zq w' w.heap.size w'.heap.size x (zy t l)/\Below w.heap.size w w':=by
 obtain ⟨i0,hi0,hz0,hz1,hz2⟩:=info_parts zdv;obtain ⟨b,off,cap,rfl,hc1,hc2,hbw,_⟩:=h.get h0;have H:=O h;obtain ⟨ht,hl,hw⟩:=z0d hok;have hnil:l ≠ []:=List.length_pos_iff.1 h0;have HF:=O (z2I hok hnil);have hokU:=z4U hok;have hpU:=z5q hw h0;have hmk:=zhk l.length (by omega);have HWL:=O hw;have HLN:=O (z3G l);have HWU:=O (z8h hw);have HZu:Hid (l.sum=0->wts l=List.replicate l.length 1):=λhz=>by rw [wts,if_pos hz]
 have HZn:Hid (l.sum ≠ 0->wts l=l):=λhz=>by rw [wts,if_neg hz]
 have HBS:=O (λk hk=>z7x hokU hpU (i:=k) hk);have HBSU:=O (z5r hokU hpU);have HLE:=O (z6e hokU hpU);have HUB:Hid (∀ k,k<=(wts l).length->0<=z19 t (wts l) k/\z19 t (wts l) k<=t):=λk hk=>⟨(z5W k).1,Int.le_trans (z5X hk) (z54 hokU hpU).1⟩;have hsb:=z2G (z8h hw);rw [z3G] at hsb;generalize wts l=u at HF hpU HLN HWU HZu HZn HBS HBSU HLE HUB hsb;obtain ⟨s,hs⟩:∃ s,s=u.sum:=⟨_,rfl⟩;rw [<-hs] at hpU hsb;have HSU:Hid (u.sum=s):=hs.symm;clear hokU hw hnil h hs hok;go_enter func95,ntmps95;go_wp2_with (at_builtin;refine wpList_append_own_at _ rfl _ _ 27 rfl w.heap.size 3 i0 (int i64 0) 1 8 underlying27 hi0 hz0 hz1 hz2 rfl (by decide) _ 0 [] rfl (World.ownsRow_made (base:=w.heap.size) (e:=3) (size:=1) w #[] 0 lR nZ rfl) ⟨b,off,none⟩ l.length cap (l.map (Value.int .i64)) rfl ?e1 ?e2 ?e3 ?e4 ?e5 ?e6 ?_)
 case e1=>simp
 case e2 =>
  intro j x hx;rw [List.getElem?_map] at hx;obtain ⟨y,hy,rfl⟩:=Option.map_eq_some_iff.1 hx;have hj:=(List.getElem?_eq_some_iff.1 hy).1;rw [Go.WideShapes.add_plain];obtain ⟨bq,oq,cq,eq1,_,_,_,hcq⟩:=H.out.get hj;simp only [Value.slice.injEq,Option.some.injEq,Addr.mk.injEq,and_true,true_and] at eq1;obtain ⟨⟨rfl,rfl⟩,_⟩:=eq1;rw [((ze (Below.refl w.heap.size w) (.cells #[] 3)).cell (p:=⟨b,off+j,none⟩) hbw),hcq];simp [List.getD,hy]
 case e3=>intro x hx;obtain ⟨y,_,rfl⟩:=List.mem_map.1 hx;rfl
 case e4=>unfold maxLen;omega
 case e5=>omega
 case e6=>simp
 intro v5 w5 ho5 hg5 _ _;have O5:Hid (w5.ownsRow w.heap.size 3 1 v5 l.length (l.map (Value.int .i64))):=O (by simpa using ho5)
 have K5:Hid (Below w.heap.size w w5):=(ze (Below.refl w.heap.size w) (.cells #[] 3)).grown hg5 (by simp) (λq hq=>by
  have:q=w.heap.size:=(by simpa [Value.ownBlock] using hq.symm)
  omega)
 obtain ⟨g5,c5,rfl⟩:=Joins.ownsRow_form O5.out (by omega);clear ho5 hg5;go_wp2_with fail
 refine (z0I _ l (by omega) HWL.out _ (zq.of_owns O5.out).at).mono ?_;rintro e wx ⟨rfl,ex⟩
 cases ex
 by_cases hz:l.sum=0
 case' pos =>
  have huo:=HZu.out hz;rw [hz];have HUO:=O huo;clear huo hz;go_wp2_with fail
  go_loopw [6] (λs6 W=>∃ k:Nat,k<=l.length/\s6=int i64 k/\Hid (zq W w.heap.size W.heap.size (.slice (some ⟨g5,0,none⟩) l.length c5) (List.replicate k 1 ++ l.drop k))/\Hid (Below w.heap.size w W)) (λs6 _=>l.length - (intOf s6).toNat)
  case atStart=>exact ⟨0,nZ,rfl,zq.of_owns O5.out,K5⟩
  case' round =>
   clear O5 K5;obtain ⟨k,hk,rfl,HR,HB⟩:=hrel;have hll:(List.replicate k (1:Int) ++ l.drop k).length=l.length:=(by simp;omega)
   rcases Nat.lt_or_ge k l.length with hlt | hlt
   ·obtain ⟨gq,capq,eq1,hgB,_,hgq,_,_,hy,hfy⟩:=HR.out.get (i:=k) (by omega);simp only [Value.slice.injEq,Option.some.injEq,Addr.mk.injEq,and_true] at eq1;obtain ⟨q1,q2⟩:=eq1;clear q2;subst q1;have HN:Hid ((List.replicate k (1:Int) ++ l.drop k).set k 1=List.replicate (k+1) 1 ++ l.drop (k+1)):=ziQ hlt;have HR2:=O (HR.out.set (i:=k) (by omega) 1);rw [HN.out] at HR2;generalize (List.replicate k (1:Int) ++ l.drop k).getD k 0=y at hy;clear hll HN;go_wp2;go_roundw
    case rel=>exact ⟨k+1,by omega,by go_num,HR2.out.base lR (by rw [z31];exact lR),z2s HB.out hgB _⟩
    case measure=>simp [intOf];omega
   obtain rfl:k=l.length:=by omega
   have O5:Hid (wr.ownsRow w.heap.size 3 1 (.slice (some ⟨g5,0,none⟩) l.length c5) u.length (u.map (Value.int .i64))):=by
    have:=HR.out;rw [List.drop_length,List.append_nil,<-HUO.out] at this;exact this.owns
   have K5:=HB;clear HR HB HUO hll;obtain ⟨W0,hW⟩:∃ W0,W0=wr:=⟨_,rfl⟩;rw [<-hW] at O5 K5 |-;clear hW
 case' neg =>
  have huo:=HZn.out hz;have hzb:(l.sum == 0)=false:=(by simpa using hz);have O5':Hid (w5.ownsRow w.heap.size 3 1 (.slice (some ⟨g5,0,none⟩) l.length c5) u.length (u.map (Value.int .i64))):=(by rw [huo];exact O5.out);clear O5 huo;have O5:=O5';clear O5';generalize l.sum=sl at hzb hz;obtain ⟨W0,hW⟩:∃ W0,W0=w5:=⟨_,rfl⟩;rw [<-hW] at O5 K5 |-;clear hW
 all_goals
  go_wp2_with fail
  have CS0:=z0I _ u (by rw [HLN.out];omega) HWU.out _ (zq.of_owns O5.out).at;rw [HSU.out] at CS0;refine CS0.mono ?_;clear CS0;rintro e wx ⟨rfl,ex⟩
  cases ex
  go_wp2_with fail
  clear hmk;have Q0:=O (Q4.start O5.out K5.out l.length);have hW0:=K5.out.size;clear O5 K5;go_loopw [8,9,11] (λs8 s9 s11 W=>∃ k:Nat,k<=l.length/\s11=int i64 k/\Hid (Q4 w W (.slice (some ⟨g5,0,none⟩) l.length c5) s8 s9 (W0.heap.size+2) u ((z0C t u).take k) ((z3J t u).take k) (List.replicate l.length false))) (λ_ _ s11 _=>l.length - (intOf s11).toNat)
  case atStart=>exact ⟨0,nZ,rfl,Q0⟩
  case round =>
   clear Q0;obtain ⟨k,hk,rfl,HQ⟩:=hrel;have l8:((z0C t u).take k).length=k:=(by rw [List.length_take,z0A,HLN.out];omega);have l9:((z3J t u).take k).length=k:=(by rw [List.length_take,z41,HLN.out];omega);obtain ⟨a8,c8,f8⟩:=(zq.of_owns HQ.out.o8).form;obtain ⟨a9,c9,f9⟩:=(zq.of_owns HQ.out.o9).form;rw [l8] at f8;rw [l9] at f9;subst f8;subst f9;have HL8:=O l8;have HL9:=O l9;clear l8 l9;by_cases hlt:k < l.length
   ·have hku:k < u.length:=(by rw [HLN.out];exact hlt);have hx0:=z2P HWU.out hku;have hm:=z5N ht hx0;have N8:=O (zbC (l:=z0C t u) (k:=k) (by rw [z0A];exact hku));have N9:=O (zbC (l:=z3J t u) (k:=k) (by rw [z41];exact hku));rw [z4T hku] at N8;rw [z7y hku] at N9;have hx:=(HQ.out.cell5 hku).1;have h5b:=(HQ.out.cell5 hku).2;have hmem:=HQ.out.below.size;obtain ⟨x,hxe⟩:∃ x,x=u.getD k 0:=⟨_,rfl⟩;rw [<-hxe] at hx hx0 hm N8 N9;have HX:=O hxe;clear hxe;have hdv:=Int.ediv_nonneg hm.1 (show (0:Int)<=s by omega);have hdw:=Int.le_trans (Int.ediv_le_self s hm.1) hm.2;have hrm:=z8i (a:=t * x) (s:=s) hpU;rw [HSU.out] at N8 N9;go_wp2_with (at_builtin;refine wpList_append_own_at _ rfl _ _ 27 rfl w.heap.size 3 i0 (int i64 0) 1 8 underlying27 hi0 hz0 hz1 hz2 rfl (by decide) _ k _ rfl (by have:=(HQ.out.alloc (.cells #[int i64 (t * x / s)] 3)).o8;rw [HL8.out] at this;exact this) ⟨wr.heap.size,0,none⟩ 1 1 [int i64 (t * x / s)] rfl rfl (cell_one_new _ _ _) ?c2 ?c3 ?c4 ?c5 ?_)
    case c2=>intro v hv;simp at hv;subst hv;rfl
    case c3=>unfold maxLen;omega
    case c4=>omega
    case c5=>simp;omega
    intro v8 w8 ho8 hg8 _ hat8;have HQ8:=O ((HQ.out.alloc (.cells #[int i64 (t * x / s)] 3)).app8 (by rw [HL8.out,List.map_take];exact ho8) hg8 (by simpa using hat8));rw [<-N8.out] at HQ8;have l8:((z0C t u).take (k+1)).length=k+1:=(by rw [List.length_take,z0A,HLN.out];omega);obtain ⟨a8',c8',f8⟩:=(zq.of_owns HQ8.out.o8).form;rw [l8] at f8;subst f8;have hx8:=(HQ8.out.cell5 hku).1;have h5b8:=(HQ8.out.cell5 hku).2;rw [<-HX.out] at hx8;have hmem8:=HQ8.out.below.size;clear ho8 hg8 hat8 HQ hx l8 hmem h5b;go_wp2_with (at_builtin;refine wpList_append_own_at _ rfl _ _ 27 rfl w.heap.size 3 i0 (int i64 0) 1 8 underlying27 hi0 hz0 hz1 hz2 rfl (by decide) _ k _ rfl (by have:=(HQ8.out.alloc (.cells #[int i64 (t * x % s)] 3)).o9;rw [HL9.out] at this;exact this) ⟨w8.heap.size,0,none⟩ 1 1 [int i64 (t * x % s)] rfl rfl (cell_one_new _ _ _) ?d2 ?d3 ?d4 ?d5 ?_)
    case d2=>intro v hv;simp at hv;subst hv;rfl
    case d3=>unfold maxLen;omega
    case d4=>omega
    case d5=>simp;omega
    intro v9 w9 ho9 hg9 _ hat9;have HQ9:=O ((HQ8.out.alloc (.cells #[int i64 (t * x % s)] 3)).app9 (by rw [HL9.out,List.map_take];exact ho9) hg9 (by simpa using hat9));rw [<-N9.out] at HQ9;have l9:((z3J t u).take (k+1)).length=k+1:=(by rw [List.length_take,z41,HLN.out];omega);obtain ⟨a9',c9',f9⟩:=(zq.of_owns HQ9.out.o9).form;rw [l9] at f9;subst f9;clear ho9 hg9 hat9 HQ8 hx8 l9 hmem8 h5b8;go_wp2;go_roundw
    case rel=>exact ⟨k+1,by omega,by go_num,HQ9⟩
    case measure=>simp [intOf];omega
   ·obtain rfl:k=l.length:=by omega
    have e8:(z0C t u).take l.length=z0C t u:=(by rw [<-HLN.out,<-z0A t u,List.take_length]);have e9:(z3J t u).take l.length=z3J t u:=(by rw [<-HLN.out,<-z41 t u,List.take_length]);rw [e8,e9] at HQ;clear HL8 HL9 e8 e9;have hb8:(z0C t u).length=l.length:=(by rw [z0A,HLN.out]);have hr9:(z3J t u).length=l.length:=(by rw [z41,HLN.out]);have HB8:=O hb8;have HR9:=O hr9
    have HSB:Hid ((z0C t u).sum=z19 t u l.length):=by
     have:=HBSU.out u.length lR;rw [<-z0A t u,z1t,z0A,HLN.out] at this;exact this
    have hwb:(z0C t u).all wtB=true:=zfw (λi hi=>HBS.out i (by rw [z0A] at hi;exact hi))
    obtain ⟨g8,hg8⟩:∃ g8,a8=some ⟨g8,0,none⟩:=by
     obtain ⟨gq,capq,eq1,_⟩:=(zq.of_owns HQ.out.o8).get (i:=0) (by omega);simp only [Value.slice.injEq] at eq1;exact ⟨gq,eq1.1⟩
    subst hg8;go_wp2_with fail
    have hI8:=(zq.of_owns HQ.out.o8).at;have CS:=z0I (.slice (some ⟨g8,0,none⟩) l.length c8) (z0C t u) (by omega) hwb wr hI8;rw [HSB.out] at CS;refine CS.mono ?_;rintro e wx ⟨rfl,ex⟩
    cases ex
    clear hI8 CS hwb;obtain ⟨lf,hlf⟩:∃ lf,lf=z2D t u:=⟨_,rfl⟩;have el:t - z19 t u l.length=(lf:Int):=(by rw [hlf,HLE.out.1,HLN.out]);have hlf1:lf < l.length:=(by rw [hlf,<-HLN.out];exact HLE.out.2);have HLF:=O hlf;have hdu:=HUB.out l.length (by rw [HLN.out];exact lR);clear hlf hb8 hr9;have HQb:Hid (Q4 w wr (.slice (some ⟨g5,0,none⟩) l.length c5) (.slice (some ⟨g8,0,none⟩) l.length c8) (.slice a9 l.length c9) (W0.heap.size+2) u (z1s (z0C t u) (z04 t u) 0) (z3J t u) (List.replicate l.length false)):=HQ.out;clear HQ;go_wp2_with fail
    go_loopw [12] (λs12 W=>∃ (j:Nat) (bl:List Bool),j<=lf/\s12=int i64 ((lf:Int) - (j:Int))/\bl.length=l.length/\Hid (zcX t u bl j)/\Hid (Q4 w W (.slice (some ⟨g5,0,none⟩) l.length c5) (.slice (some ⟨g8,0,none⟩) l.length c8) (.slice a9 l.length c9) (W0.heap.size+2) u (z1s (z0C t u) (z04 t u) j) (z3J t u) bl)) (λs12 _=>(intOf s12).toNat)
    case atStart=>exact ⟨0,List.replicate l.length false,nZ,by first | simp | (rw [el];simp),by simp,ziv t u l.length,HQb⟩
    case round =>
     clear HQb;obtain ⟨j,bl,hj,rfl,hbl,HGo,HQ⟩:=hrel;by_cases hlt:j < lf
     ·have hltz:(0:Int) < (lf:Int) - (j:Int):=(by omega);have hlz:(0:Int) < (l.length:Int):=(by omega);have hjs:j < (z04 t u).length:=(by rw [z5s,HLN.out];omega);have HNx:=zfv (.slice a9 l.length c9) (z3J t u) (W0.heap.size+2) l.length bl (by rw [HR9.out];exact hbl) wr (zq.of_owns HQ.out.o9).at HQ.out.bo;rw [HR9.out] at HNx;go_wp2_with fail
      refine HNx.mono ?_;rintro e w4 ⟨kk,rfl,hNP,q4,hw4⟩;rw [<-HLN.out] at hNP;obtain ⟨i,hi,hsi,hki,hbi⟩:=zjz hjs HGo.out hNP;subst hki;have hil:i < l.length:=(by rw [<-HLN.out];exact hi);have HQ4:=HQ.out.drewN q4;rw [<-hw4] at HQ4;have hbb:=z5J (B:=100000) (s:=z04 t u) (λq hq=>HBS.out q (by rw [z0A] at hq;exact hq)) j (by omega) i (by rw [z0A];exact hi);have hbu:(z1s (z0C t u) (z04 t u) j).length=l.length:=(by rw [z4V,HB8.out]);obtain ⟨gq,capq,eq1,_,_,hgq,_,_,hy,hfy⟩:=(zq.of_owns HQ4.o8).get (i:=i) (by omega);simp only [Value.slice.injEq,Option.some.injEq,Addr.mk.injEq,and_true] at eq1;obtain ⟨q1,q2⟩:=eq1;clear q2;subst q1;obtain ⟨hgo,hgf⟩:=HQ4.bo.get (i:=i) (by omega);have hgb:=HQ4.bo.lt;have hne8:g8 ≠ W0.heap.size+2:=λe=>HQ4.nb8 (by rw [e];rfl);have HN:=O (z55 (g:=z0C t u) hjs);rw [hsi] at HN;have HGo2:=O (ziw (by rw [hbl,HLN.out]) hjs HGo.out hsi);have HQ5:=O ((HQ4.setb i (by omega) true).set8 i (by omega) ((z1s (z0C t u) (z04 t u) j).getD i 0+1));have HN2:Hid (z1s (z0C t u) (z04 t u) (j+1)=(z1s (z0C t u) (z04 t u) j).set i ((z1s (z0C t u) (z04 t u) j).getD i 0+1)):=HN.out;rw [<-HN2.out] at HQ5;generalize (z1s (z0C t u) (z04 t u) j).getD i 0=z at hy hbb HQ5;generalize bl.getD i false=zb at hgo hbi;have hi0':(0:Int)<=(i:Int):=(by omega);have hi1':(i:Int) < (l.length:Int):=(by omega);clear hNP hw4 HQ4 HN HN2 HNx hsi hjs hbu HQ HGo;go_wp2;go_roundw
      case rel=>exact ⟨j+1,bl.set i true,by omega,by congr 1;omega,by simp [hbl],HGo2,HQ5⟩
      case measure=>simp [intOf];omega
     ·obtain rfl:j=lf:=by omega
      have hz:¬ (0:Int) < (j:Int) - (j:Int):=(by omega);have HE:Hid (zy t l=z1s (z0C t u) (z04 t u) j):=(by rw [HLF.out];exact HF.out);go_wp2;go_ret;exact ⟨_,rfl,by rw [HE.out];exact zq.of_owns HQ.out.o8,HQ.out.below⟩
theorem z4Z (w:World) (B:Nat) (hB:B<=w.heap.size):zq (w.alloc (.cells #[] 3)) B (w.alloc (.cells #[] 3)).heap.size (.slice (some ⟨w.heap.size,0,none⟩) 0 0) [] :=
 .inr ⟨w.heap.size,0,#[],rfl,hB,by simp,zj _ _,lR,nZ,rfl,λi hi=>absurd hi (Nat.not_lt_zero _)⟩
theorem zeg (t:Int) (ht:0<=t/\t<=100000) (a:Option Addr) (cap:Nat) (w:World) :
  Calls prog 95 #[int i64 t,.slice a 0 cap] w λe w'=>∃ x,e=.returned x/\zq w' w.heap.size w'.heap.size x []/\Below w.heap.size w w':=by
 have hmk:∀ u:World,(Instr.makeSlice 148 (int i64 0) (int i64 0)).run prog u=.ok (.slice (some ⟨u.heap.size,0,none⟩) 0 0) (u.alloc (.cells (z4o 0) 4)):=λu=>zhk 0 (by omega) u;have CS:=O (λ(v:Value) (W:World) (h:zA W v [])=>z0I v [] (by simp) rfl W h);have emp:∀ (W:World) (aa:Option Addr),zA W (.slice aa 0 0) []:=λW aa=>⟨aa,0,rfl,lR,nZ,λi hi=>absurd hi (Nat.not_lt_zero _)⟩;have EM:=O emp;clear emp
 cases a with
 | none =>
  go_enter func95,ntmps95;go_wp2_with (go_at_call 52;refine (CS.out _ _ (EM.out _ _)).mono ?_;rintro e wx ⟨rfl,ex⟩;cases ex)
  go_loopw [6] (λs6 W=>s6=int i64 0/\Hid (Below w.heap.size w W)) (λ_ _=>0)
  case atStart=>exact ⟨rfl,ze bR _⟩
  case round =>
   obtain ⟨rfl,HB⟩:=hrel;have hwr:=HB.out.size;go_wp2_with (go_at_call 52;refine (CS.out _ _ (EM.out _ _)).mono ?_;rintro e wx ⟨rfl,ex⟩;cases ex)
   have R0:=O (((z4Z wr w.heap.size hwr).below (ze (ze bR (.cells #[] 3)) (.cells (z4o 0) 4)) lR).base lR (nT (by simp) (Nat.le_refl ((((wr.alloc (.cells #[] 3)).alloc (.cells #[] 3)).alloc (.cells (z4o 0) 4)).heap.size))));have B0:=O (ze (ze (ze HB.out (.cells #[] 3)) (.cells #[] 3)) (.cells (z4o 0) 4));go_loopw [8,9,11] (λs8 s9 s11 W=>(∃ a8,s8=.slice a8 0 0)/\(∃ a9,s9=.slice a9 0 0)/\s11=int i64 0/\Hid (zq W w.heap.size W.heap.size s8 [])/\Hid (Below w.heap.size w W)) (λ_ _ _ _=>0)
   case atStart=>exact ⟨⟨_,rfl⟩,⟨_,rfl⟩,rfl,R0,B0⟩
   case round =>
    clear R0 B0;obtain ⟨⟨a8,rfl⟩,⟨a9,rfl⟩,rfl,HR,HB2⟩:=hrel;go_wp2_with (go_at_call 52;refine (CS.out _ _ (EM.out _ _)).mono ?_;rintro e wx ⟨rfl,ex⟩;cases ex)
    go_loopw [12] (λs12 W=>s12=int i64 t/\Hid (zq W w.heap.size W.heap.size (.slice a8 0 0) [])/\Hid (Below w.heap.size w W)) (λ_ _=>0)
    case atStart=>exact ⟨by simp,HR,HB2⟩
    case round =>
     clear HR HB2;obtain ⟨rfl,HR,HB2⟩:=hrel;by_cases h0:0 < t
     ·go_wp2;go_ret;exact ⟨_,rfl,HR.out,HB2.out⟩
     ·go_wp2;go_ret;exact ⟨_,rfl,HR.out,HB2.out⟩
 | some p =>
  go_enter func95,ntmps95;go_wp2_with (go_at_call 52;refine (CS.out _ _ (EM.out _ _)).mono ?_;rintro e wx ⟨rfl,ex⟩;cases ex)
  go_loopw [6] (λs6 W=>s6=int i64 0/\Hid (Below w.heap.size w W)) (λ_ _=>0)
  case atStart=>exact ⟨rfl,ze bR _⟩
  case round =>
   obtain ⟨rfl,HB⟩:=hrel;have hwr:=HB.out.size;go_wp2_with (go_at_call 52;refine (CS.out _ _ (EM.out _ _)).mono ?_;rintro e wx ⟨rfl,ex⟩;cases ex)
   have R0:=O (((z4Z wr w.heap.size hwr).below (ze (ze bR (.cells #[] 3)) (.cells (z4o 0) 4)) lR).base lR (nT (by simp) (Nat.le_refl ((((wr.alloc (.cells #[] 3)).alloc (.cells #[] 3)).alloc (.cells (z4o 0) 4)).heap.size))));have B0:=O (ze (ze (ze HB.out (.cells #[] 3)) (.cells #[] 3)) (.cells (z4o 0) 4));go_loopw [8,9,11] (λs8 s9 s11 W=>(∃ a8,s8=.slice a8 0 0)/\(∃ a9,s9=.slice a9 0 0)/\s11=int i64 0/\Hid (zq W w.heap.size W.heap.size s8 [])/\Hid (Below w.heap.size w W)) (λ_ _ _ _=>0)
   case atStart=>exact ⟨⟨_,rfl⟩,⟨_,rfl⟩,rfl,R0,B0⟩
   case round =>
    clear R0 B0;obtain ⟨⟨a8,rfl⟩,⟨a9,rfl⟩,rfl,HR,HB2⟩:=hrel;go_wp2_with (go_at_call 52;refine (CS.out _ _ (EM.out _ _)).mono ?_;rintro e wx ⟨rfl,ex⟩;cases ex)
    go_loopw [12] (λs12 W=>s12=int i64 t/\Hid (zq W w.heap.size W.heap.size (.slice a8 0 0) [])/\Hid (Below w.heap.size w W)) (λ_ _=>0)
    case atStart=>exact ⟨by simp,HR,HB2⟩
    case round =>
     clear HR HB2;obtain ⟨rfl,HR,HB2⟩:=hrel;by_cases h0:0 < t
     ·go_wp2;go_ret;exact ⟨_,rfl,HR.out,HB2.out⟩
     ·go_wp2;go_ret;exact ⟨_,rfl,HR.out,HB2.out⟩
theorem z6Y (t:Int) (v:Value) (l:List Int) (hok:zI t l=true) (w:World) (h:zA w v l) :
  Calls prog 95 #[int i64 t,v] w λe w'=>∃ x,e=.returned x/\zq w' w.heap.size w'.heap.size x (zy t l)/\Below w.heap.size w w':=by
 by_cases h0:0 < l.length
 ·exact z9e t v l hok h0 w h
 ·obtain rfl:l=[]:=List.eq_nil_of_length_eq_zero (by omega);obtain ⟨a,cap,rfl,_⟩:=h.form;rw [z4w (by simp)];exact zeg t (z0d hok).1 a cap w
theorem zaC (t:Int) (v:Value) (l:List Int) (hok:zI t l=true) (w:World) (h:zA w v l) :
  Calls prog 91 #[int i64 t,v] w λe w'=>∃ x,e=.returned (.tuple #[x,int i64 (z2l t l)])/\zq w' w.heap.size w'.heap.size x (z0F t l)/\Below w.heap.size w w':=by
 obtain ⟨i0,hi0,hz0,hz1,hz2⟩:=info_parts zdv;obtain ⟨a,cap,rfl,_⟩:=h.form;have H:=O h;obtain ⟨ht,hl,hw⟩:=z0d hok;have hsb:=z2G hw;have HS:=O (λW=>z0I (.slice a l.length cap) l (by omega) hw W);by_cases hs:l.sum<=t
 ·obtain ⟨e1,e2⟩:=z46 hok hs;have E1:=O e1;have E2:=O e2;clear e1 e2 hw;by_cases h0:0 < l.length
  ·obtain ⟨b,off,cap',e',_,_,hbw,_⟩:=h.get h0;simp only [Value.slice.injEq,true_and] at e';obtain ⟨rfl,rfl⟩:=e';clear h;go_enter func91,ntmps91;go_wp2_with fail
   refine (HS.out _ H.out).mono ?_;rintro e w1 ⟨rfl,ex⟩
   cases ex
   generalize l.sum=s at hs E2 hsb;go_wp2_with (at_builtin;refine wpList_append_own_at _ rfl _ _ 27 rfl w.heap.size 3 i0 (int i64 0) 1 8 underlying27 hi0 hz0 hz1 hz2 rfl (by decide) _ 0 [] rfl (World.ownsRow_made (base:=w.heap.size) (e:=3) (size:=1) w #[] 0 lR nZ rfl) ⟨b,off,none⟩ l.length cap (l.map (Value.int .i64)) rfl ?e1 (z8y H.out (ze bR _)) (zb5 l) ?e4 ?e5 ?e6 ?_)
   case e1=>simp
   case e4=>unfold maxLen;omega
   case e5=>omega
   case e6=>simp
   intro v5 w5 ho5 hg5 _ _;have R5:=O (zq.of_owns (l:=l) (by simpa using ho5))
   have K5:Hid (Below w.heap.size w w5):=(ze (Below.refl w.heap.size w) (.cells #[] 3)).grown hg5 (by simp) (λq hq=>by
    have:q=w.heap.size:=(by simpa [Value.ownBlock] using hq.symm)
    omega)
   obtain ⟨a5,c5,rfl⟩:=R5.out.form;clear ho5 hg5;go_wp2
   go_ret2
   exact ⟨_,z8u E2.out.symm,by rw [E1.out];exact R5.out,K5.out⟩
  ·obtain rfl:l=[]:=List.eq_nil_of_length_eq_zero (by omega);clear h
   cases a with
   | none =>
    go_enter func91,ntmps91;go_wp2_with fail
    refine (HS.out _ H.out).mono ?_;rintro e w1 ⟨rfl,ex⟩
    cases ex
    generalize ([]:List Int).sum=s at hs E2 hsb;go_wp2
    go_ret2
    exact ⟨_,z8u E2.out.symm,by rw [E1.out];exact z4Z w _ lR,ze bR _⟩
   | some p =>
    go_enter func91,ntmps91;go_wp2_with fail
    refine (HS.out _ H.out).mono ?_;rintro e w1 ⟨rfl,ex⟩
    cases ex
    generalize ([]:List Int).sum=s at hs E2 hsb;go_wp2
    go_ret2
    exact ⟨_,z8u E2.out.symm,by rw [E1.out];exact z4Z w _ lR,ze bR _⟩
 ·obtain ⟨e1,e2⟩:=z37 hok hs;have E1:=O e1;have E2:=O e2;have HSh:=O (λW=>z6Y t (.slice a l.length cap) l hok W);clear e1 e2 hw h;go_enter func91,ntmps91;go_wp2_with fail
  refine (HS.out _ H.out).mono ?_;rintro e w1 ⟨rfl,ex⟩
  cases ex
  generalize l.sum=s at hs hsb;go_wp2_with fail
  refine (HSh.out _ H.out).mono ?_;rintro e w2 ⟨x,rfl,hr,hb⟩;have R:=O (And.intro hr hb);clear hr hb;go_wp2
  go_ret2
  exact ⟨x,z8u E2.out.symm,by rw [E1.out];exact R.out.1,R.out.2⟩
end
end Go.Proofs.YtggmjiddadjilahGreat
