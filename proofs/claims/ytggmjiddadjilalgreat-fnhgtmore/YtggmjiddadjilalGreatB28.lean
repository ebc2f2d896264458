/-
  PROVED HERE: what the program's ShrShare answers at every argument: the list 'shareL', in memory of its own; nothing that was in memory is turned. Also: 2 more texts of the same proof.
-/
import Derived.Test.YtggmjiddadjilalGreatB27
import Derived.Test.YtggmjiddadjilalGreatB19
set_option maxRecDepth 1000000
set_option maxHeartbeats 40000000
namespace Go.Proofs.YtggmjiddadjilalGreat
open Value (int)
open IntKind (i64)
section
open Go.RowKit Go.Shelf Go.Lib Go.Sort
theorem z8X {w0 W:World} {g:Nat} {d:Array Cl} (h:SWK z0V 3 w0 g 0 d W) {j:Nat} (hj:j < w0.heap.size) (hne:j ≠ g):W.heap[j]?=w0.heap[j]?:=by
 obtain ⟨n,os,rfl⟩:=h;unfold sortWorldK;rw [heap_grow_old _ _ (by rw [size_putRowK];exact hj)];unfold putRowK putRow mapBlock;show (Array.modify _ _ _)[j]?=_;rw [Array.getElem?_modify];simp [Ne.symm hne]
theorem zd1 {w0 W:World} {g B:Nat} {d:Array Cl} (h:SWK z0V 3 w0 g 0 d W) (hB:B<=g) (hg:g < w0.heap.size):Below B w0 W:=by
 have hs:=h.le;have ho:=fun j (hj:j < B)=>z8X h (j:=j) (by omega) (by omega);obtain ⟨n,os,rfl⟩:=h;exact ⟨rfl,rfl,rfl,hs,ho⟩
theorem zad {w:World} {g:Nat} {d:Array Cl} (h:HoldsK z0V 3 w g 0 d) {i:Nat} (hi:i < d.size) :
  w.cell? ⟨g,i * 3,none⟩=some (int i64 d[i]!.p)/\w.cell? ⟨g,i * 3+1,none⟩=some (int i64 d[i]!.w)/\w.cell? ⟨g,i * 3+2,none⟩=some (int i64 d[i]!.o):=by
 have h0:=h.cell (i:=i) (c:=0) hi (by omega);have h1:=h.cell (i:=i) (c:=1) hi (by omega);have h2:=h.cell (i:=i) (c:=2) hi (by omega);simp only [Nat.zero_add,Nat.add_zero] at h0 h1 h2;exact ⟨h0.1,h1.1,h2.1⟩
theorem z50 {w w':World} {g:Nat} {d:Array Cl} (h:RowK z0V 3 w g 0 d) (hb:w'.heap[g]?=w.heap[g]?):RowK z0V 3 w' g 0 d:=by
 have hlt:g < w'.heap.size:=by
  have:=h.hblk;rw [Array.getElem?_eq_getElem this] at hb;exact (bL hb)
 refine ⟨h.hk,h.h1,fun j hj=>?_,hlt⟩;have hh:=h.hH j hj;rw [World.cell?_of_block (w:=w) (a:=⟨g,0+j,none⟩) hb,World.frozen?_of_block (w:=w) (a:=⟨g,0+j,none⟩) hb];exact hh
theorem ze3 {n i:Nat} (h:i < n):(z0G n)[i]?=some (int i64 0):=by
 unfold z0G;rw [Nat.mul_one,<-Array.getElem?_toList,show (Value.int .i64 0).cells=#[Value.int .i64 0] from rfl,toList_madeCells_one];simp [h]
theorem zae {a b:List Int} (h:a.length=b.length) (hh:∀ i,i < a.length->a.getD i 0=b.getD i 0):a=b:=by
 apply List.ext_getElem h;intro i h1 h2;have:=hh i h1
 simpa [List.getD,h1,h2] using this
theorem z3L (w:World) (n:Nat) (hn:n<=1048576):zH (w.alloc (.cells (z0G n) 3)) w.heap.size (w.heap.size+1) (.slice (some ⟨w.heap.size,0,none⟩) n n) (List.replicate n 0) :=
 .inr ⟨w.heap.size,n,z0G n,by simp,Nat.le_refl _,by omega,zk _ _,by simp,by unfold maxLen;omega,z4Q n,fun i hi=>by
  rw [List.length_replicate] at hi;rw [ze3 hi];simp [List.getD,hi]⟩
theorem z3s (t:Int) (v:Value) (l:List Int) (hok:zt t l=true) (w:World) (h:z0g w v l) :
  Calls Tryz.prog 88 #[int i64 t,v] w fun e w'=>∃ x,e=.returned x/\zH w' w.heap.size w'.heap.size x (zo t l)/\Below w.heap.size w w':=by
 obtain ⟨a,cap,rfl,_⟩:=h.form;have H:=Hd h;clear h;by_cases hne:l.length=0
 ·obtain rfl:l=[]:=List.eq_nil_of_length_eq_zero hne;have HE:=Hd (z3N (t:=t) (l:=[]) (by simp));go_enter Tryz.func88,Tryz.ntmps88;go_wp2;go_ret;exact ⟨_,rfl,.inl ⟨rfl,HE.out⟩,Below.refl _ _⟩
 ·obtain ⟨ht,hl,hw⟩:=z09 hok;have h0:0 < l.length:=(by omega);have hnil:l ≠ []:=List.length_pos_iff.1 h0;have hlz:((l.length:Int) == 0)=false:=(by simp;omega);have HF:=Hd (z29 hok hnil);have hokU:=z3U hok;have hpU:=z4t hw h0;have hln:=z35 l;have HC:=Hd (fun W=>z9j t (.slice a l.length cap) l ht h0 hl hw W);have hmk:=z4R l.length (by omega);generalize wts l=u at HF hokU hpU hln HC;have HL:=Hd hln;have HBS:=Hd (fun k hk=>z7d hokU hpU (i:=k) hk);have HSU:=Hd (z4E hokU hpU);have HLE:=Hd (z5c hokU hpU);have HUB:Hid (∀ k,k<=u.length->0<=z0J t u k/\z0J t u k<=t):=fun k hk=>⟨(z5q k).1,Int.le_trans (z5r hk) (z4B hokU hpU).1⟩;clear hln hokU hpU hw hne hnil;go_enter Tryz.func88,Tryz.ntmps88;go_wp2_with fail
  refine (HC.out _ H.out).mono ?_;rintro e w1 ⟨g,rfl,hg,hR1,hb1⟩;have HR:=Hd hR1;have HK1:=Hd hb1;have hg1:g < w1.heap.size:=hR1.hblk;have hw1:=hb1.size;clear hR1 hb1;go_wp2_with fail
  clear hmk;have S0:Hid (zH (w1.alloc (.cells (z0G l.length) 3)) w1.heap.size (w1.heap.size+1) (.slice (some ⟨w1.heap.size,0,none⟩) l.length l.length) (List.replicate l.length 0)):=z3L w1 l.length (by omega);go_loopw [7,24] (fun s7 s30 W=>∃ (k:Nat) (gl:List Int),k<=l.length/\s30=int i64 k/\s7=int i64 (t - z0J t u k)/\gl.length=l.length/\Hid (zH W w1.heap.size (w1.heap.size+1) (.slice (some ⟨w1.heap.size,0,none⟩) l.length l.length) gl)/\Hid (∀ i,i < k->gl.getD i 0=(z16 t u).getD i 0)/\Hid (W.heap[g]?=w1.heap[g]?)/\Hid (Below w.heap.size w W)/\w1.heap.size < W.heap.size) (fun _ s30 _=>l.length - (intOf s30).toNat)
  case atStart=>exact ⟨0,List.replicate l.length 0,Nat.zero_le _,rfl,by simp [z0J],by simp,S0,fun i hi=>absurd hi (Nat.not_lt_zero _),Below.heap_alloc _ _ _ hg1,ze HK1.out _,by simp⟩
  case round =>
   clear S0;obtain ⟨k,gl,hk,rfl,rfl,hgl,HG,HE,HB,HW,hsz⟩:=hrel;by_cases hlt:k < l.length
   ·have hku:k < u.length:=(by rw [HL.out];exact hlt);have hds:k < (clL t u).toArray.size:=(by simp [z36];exact hku);obtain ⟨c0,c1,c2⟩:=zad (z50 HR.out HB.out).hH hds;have hbk:=HBS.out k hku;rw [z3T hku] at hbk;have hsu:=HUB.out k (by omega);have hsv:=HUB.out (k+1) (by omega);have HBG:=Hd (z3T (t:=t) hku)
    have HDU:Hid (z0J t u (k+1)=z0J t u k+(z16 t u).getD k 0):=by
     have e1:=HSU.out k (by omega);have e2:=HSU.out (k+1) (by omega);rw [z0E (by rw [z0X];exact hku)] at e2;show _=_;omega
    rw [HDU.out,HBG.out] at hsv;rw [z6q hku] at c0 c1 c2;simp only [cl] at c0 c1 c2;generalize t * u.getD k 0 / u.sum=x at c1 HBG hbk hsv;generalize t * u.getD k 0 % u.sum=y at c2;obtain ⟨g',cap',e',hb1',hd1',hgs,hc1,hc2,hx,hf⟩:=HG.out.get (i:=k) (by omega);simp only [Value.slice.injEq,Option.some.injEq,Addr.mk.injEq,and_true] at e';obtain ⟨e1',e2',e3'⟩:=e';subst e1';clear e2' e3' hc1 hc2 hb1' hd1' hgs hds;generalize gl.getD k 0=z at hx;have hgw:g < wr.heap.size:=(by omega);go_wp2;go_roundw
    case rel =>
     refine ⟨k+1,gl.set k x,by omega,by go_num,by rw [HDU.out,HBG.out];congr 1;omega,by simp [hgl],(HG.out.set (i:=k) (by omega) x).below (ze (Below.refl _ _) _) (by rw [z2c];omega),fun i hi=>?_,(Below.heap_alloc _ _ _ (by rw [z2c];omega)).trans ((Below.heap_setCell _ _ _ _ (by simp;omega)).trans HB.out),ze (zw HW.out hw1 _) _,by simp;omega⟩;by_cases e:i=k
     ·subst e;rw [HBG.out];simp [List.getD,hgl,hlt]
     ·have:=HE.out i (by omega);rw [<-this];simp [List.getD,List.getElem?_set_ne (Ne.symm e)]
    case measure=>simp [intOf];omega
   ·obtain rfl:k=l.length:=by omega
    have eg:gl=z16 t u:=zae (by rw [hgl,z0X,HL.out]) (fun i hi=>HE.out i (by omega));obtain ⟨lf,hlf⟩:∃ lf,lf=z20 t u:=⟨_,rfl⟩;have el:t - z0J t u l.length=(lf:Int):=(by rw [hlf,HLE.out.1,HL.out]);have hlf1:lf < l.length:=(by rw [hlf,<-HL.out];exact HLE.out.2);have hcs:(clL t u).toArray.size=l.length:=(by simp [z36,HL.out])
    have HSo:Hid (Calls Tryz.prog 93 #[.slice (some ⟨g,0,none⟩) l.length l.length,.func (.func 94) #[] #[]] wr fun e w'=>e=.returned (.tuple #[])/\SWK z0V 3 wr g 0 (zX t u).toArray w'):=by
     have h1:=z8g g 0 l.length (clL t u).toArray wr (z50 HR.out HB.out) (zfl t u) (by rw [hcs];exact hl);have h2:=h1.mono (R':=fun e w'=>e=.returned (.tuple #[])/\SWK z0V 3 wr g 0 (zX t u).toArray w') (fun e w' ⟨he,d',hp,hs,hS⟩=>⟨he,by rw [<-zfm hp hs];exact hS⟩);rw [hcs] at h2;exact h2
    have HLF:=Hd hlf;rw [eg] at HG;rw [el];clear eg HE hgl el hcs hlf;go_wp2_with fail
    refine HSo.out.mono ?_;rintro e w3 ⟨rfl,S3⟩
    have HG3:Hid (zH w3 w1.heap.size (w1.heap.size+1) (.slice (some ⟨w1.heap.size,0,none⟩) l.length l.length) (z1s (z16 t u) (zX t u) 0)):=by
     rw [z4c];exact HG.out.kept (fun j h1 h2 h3=>z8X S3 h1 (by omega))
    have HW3:=Hd (HW.out.trans ((zd1 S3 (Nat.le_refl _) (by omega)).mono hg));have HS3:=Hd (S3.holds (by omega) (z50 HR.out HB.out).hH (by simp [z36,z4F]));have hz3:w1.heap.size < w3.heap.size:=Nat.lt_of_lt_of_le hsz S3.le;clear S3 HSo HG HW HB hsz;go_wp2_with fail
    have hg3:g < w3.heap.size:=(by omega);go_loopw [45] (fun s51 W=>∃ j:Nat,j<=lf/\s51=int i64 j/\Hid (zH W w1.heap.size (w1.heap.size+1) (.slice (some ⟨w1.heap.size,0,none⟩) l.length l.length) (z1s (z16 t u) (zX t u) j))/\Hid (W.heap[g]?=w3.heap[g]?)/\Hid (Below w.heap.size w W)/\w1.heap.size < W.heap.size) (fun s51 _=>lf - (intOf s51).toNat)
    case atStart=>exact ⟨0,Nat.zero_le _,rfl,HG3,rfl,HW3,hz3⟩
    case round =>
     clear HG3 HW3 hz3;obtain ⟨k,hk,rfl,HG,HB,HW,hsz⟩:=hrel;by_cases hlt:k < lf
     ·have hks:k < (zX t u).length:=(by rw [z4F,HL.out];omega);have hka:k < (zX t u).toArray.size:=(by simpa using hks);obtain ⟨c0,c1,c2⟩:=zad (z50 ⟨z6P,z6Q,HS3.out,by omega⟩ HB.out).hH hka;have hget:(zX t u).toArray[k]! = (zX t u)[k]:=(by rw [getElem!_pos _ k hka];simp);rw [hget] at c0 c1 c2;obtain ⟨i,hi,hcl⟩:=z5s (List.getElem_mem hks);have HN:=Hd (z4d (g:=z16 t u) hks);rw [hcl] at c0 c1 c2 HN;have hil:i < l.length:=(by rw [<-HL.out];exact hi);have hbl:(z1s (z16 t u) (zX t u) k).length=l.length:=(by rw [z3V,z0X,HL.out]);have hbb:=z55 (B:=100000) (s:=zX t u) (fun j hj=>HBS.out j (by rw [z0X] at hj;exact hj)) k (by omega) i (by rw [z0X];exact hi);obtain ⟨g',cap',e',hb1',hd1',hgs,hc1,hc2,hx,hf⟩:=HG.out.get (i:=i) (by omega);simp only [Value.slice.injEq,Option.some.injEq,Addr.mk.injEq,and_true] at e';obtain ⟨e1',e2',e3'⟩:=e';subst e1';simp only [cl] at c0 c1 c2;have HN2:Hid (z1s (z16 t u) (zX t u) (k+1)=(z1s (z16 t u) (zX t u) k).set i ((z1s (z16 t u) (zX t u) k).getD i 0+1)):=HN.out;have HST:=Hd (HG.out.set (i:=i) (by omega) ((z1s (z16 t u) (zX t u) k).getD i 0+1));rw [<-HN2.out] at HST;generalize (z1s (z16 t u) (zX t u) k).getD i 0=z at hx hbb HST;generalize t * u.getD i 0 / u.sum=x at c1;generalize t * u.getD i 0 % u.sum=y at c2;clear e2' e3' hc1 hc2 hb1' hd1' hgs HN HN2 hget hka hks hcl hbl;have hgw:g < wr.heap.size:=(by omega);go_wp2;go_roundw
      case rel =>
       refine ⟨k+1,by omega,by go_num,HST.out.below (ze (Below.refl _ _) _) (by rw [z2c];omega),(Below.heap_alloc _ _ _ (by rw [z2c];omega)).trans ((Below.heap_setCell _ _ _ _ (by simp;omega)).trans HB.out),ze (zw HW.out hw1 _) _,by simp;omega⟩
      case measure=>simp [intOf];omega
     ·obtain rfl:k=lf:=by omega
      have HE:Hid (zo t l=z1s (z16 t u) (zX t u) k):=(by rw [HLF.out];exact HF.out);go_wp2;go_ret;exact ⟨_,rfl,by rw [HE.out];exact HG.out.base hw1 hsz,HW.out⟩
theorem zaf (t:Int) (v:Value) (l:List Int) (w:World) (h:z0g w v l) :
  Calls Tryz.prog 78 #[int i64 t,v] w fun e w'=>∃ x,e=.returned x/\zH w' w.heap.size w'.heap.size x (zo t l)/\Below w.heap.size w w':=by
 obtain ⟨a,cap,rfl,_⟩:=h.form;have H:=Hd h;clear h;have HO:=Hd (fun W=>zc7 t (.slice a l.length cap) l W);by_cases hok:zt t l=true
 ·have HS:=Hd (fun W=>z3s t (.slice a l.length cap) l hok W);go_enter Tryz.func78,Tryz.ntmps78;go_wp2_with fail
  refine (HO.out _ H.out).mono ?_;rintro e w1 ⟨rfl,e1⟩
  cases e1
  rw [hok];go_wp2_with fail
  refine (HS.out _ H.out).mono ?_;rintro e w2 ⟨x,rfl,hr,hb⟩;have R:=Hd (And.intro hr hb);clear hr hb;go_wp2;go_ret;exact ⟨x,rfl,R.out.1,R.out.2⟩
 ·have hok':=eq_false_of_ne_true hok;have HE:=Hd (z3N (t:=t) (l:=l) (by simp [hok']));go_enter Tryz.func78,Tryz.ntmps78;go_wp2_with fail
  refine (HO.out _ H.out).mono ?_;rintro e w1 ⟨rfl,e1⟩
  cases e1
  rw [hok'];go_wp2;go_ret;exact ⟨_,rfl,.inl ⟨rfl,HE.out⟩,Below.refl _ _⟩
end
section
open Go.RowKit
theorem zH.sub {w:World} {B D g n cap:Nat} {l:List Int} (h:zH w B D (.slice (some ⟨g,0,none⟩) n cap) l) {c m:Nat} (hc:c+m<=l.length) (hm:1<=m):z0g w (.slice (some ⟨g,c,none⟩) m (cap - c)) (z0K l c m):=by
 have hlen:=z1Q hc
 rcases h with ⟨hv,_⟩ | ⟨g',cap',cur,hv,hb,hd,hg,h1,h2,h3,h4⟩
 ·simp at hv
 ·simp only [Value.slice.injEq,Option.some.injEq,Addr.mk.injEq,and_true] at hv;obtain ⟨rfl,rfl,rfl⟩:=hv;refine ⟨_,cap - c,by rw [hlen],by rw [hlen];omega,by omega,fun i hi=>⟨g,c,rfl,(bL hg),?_⟩⟩;rw [hlen] at hi;rw [z6T hc hi];exact (zf hg).trans (h4 (c+i) (by omega))
theorem zH.bk {w w':World} {B D g:Nat} {v:Value} {l:List Int} (h:zH w B D v l) (k:Bk g w w') (hg:g < B\/D<=g):zH w' B D v l:=h.kept (fun j h0 h1 h2=>k.block j h0 (by omega))
theorem zd2 {l:List Int} {c m:Nat} {gap:Int} (hb:UpB l 50000) (hc:c+m<=l.length) (hm:1<=m/\m<=4) (hg:0<=gap/\gap<=3):z1F (z0K l c m) gap=(z0K l c m).sum+gap * ((m:Int) - 1)/\0<=z1F (z0K l c m) gap/\z1F (z0K l c m) gap<=300000:=by
 have hs:=z4v (fun x (hx:x ∈ z0K l c m)=>hb.mem (z6U hx));rw [z1Q hc] at hs;have hgm:0<=gap * ((m:Int) - 1):=Int.mul_nonneg hg.1 (by omega);have hgm2:gap * ((m:Int) - 1)<=9:=Int.le_trans (Int.mul_le_mul hg.2 (show (m:Int) - 1<=3 by omega) (by omega) (by omega)) (by omega)
 have e:z1F (z0K l c m) gap=(z0K l c m).sum+gap * ((m:Int) - 1):=by
  rw [z3W (by rw [z1Q hc];omega),z1Q hc,z5d (by omega)]
 rw [e];omega
theorem zd3 (B D g n cap:Nat) (l:List Int) (hb:UpB l 50000) (c m:Nat) (hc:c+m<=l.length) (hm:1<=m/\m<=4) (gap need:Int) (hg:0<=gap/\gap<=3) (hn:0<=need/\need<=30) (w:World) (h:zH w B D (.slice (some ⟨g,0,none⟩) n cap) l) (hgw:g < w.heap.size) :
  Calls Tryz.prog 59 #[.slice (some ⟨g,c,none⟩) m (cap - c),int i64 gap,int i64 need] w fun e w'=>e=.returned (.tuple #[])/\zH w' B D (.slice (some ⟨g,0,none⟩) n cap) (z3h l c m gap need)/\Bk g w w':=by
 have hI:=h.sub hc hm.1;obtain ⟨ha,ha0,ha1⟩:=zd2 hb hc hm hg;have KA:=Hd (z47 _ _ gap w hI);have HLk:Hid (z14 l c m gap need=need - z1F (z0K l c m) gap):=(by rw [Hid,ha];rfl);have HH:=Hd h;clear h;by_cases hl:z14 l c m gap need<=0
 ·have HV:Hid (z3h l c m gap need=l):=(by rw [Hid,z3h,if_pos hl]);rw [HLk.out] at hl;clear hI ha HLk;generalize z1F (z0K l c m) gap=y at KA hl ha0 ha1
  have hcap:m<=cap - c/\cap - c<=9223372036854775807:=by
   rcases HH.out with ⟨hv,_⟩ | ⟨g',cap',cur,hv,_,_,_,h1,h2,_,_⟩
   ·simp at hv
   ·simp only [Value.slice.injEq,Option.some.injEq,Addr.mk.injEq,and_true] at hv;obtain ⟨rfl,rfl,rfl⟩:=hv;unfold maxLen at h2;omega
  go_enter Tryz.func59,Tryz.ntmps59;go_wp2_with fail
  refine KA.out.mono ?_;rintro e w1 ⟨rfl,rfl⟩;go_wp2;exact bodyPost_ret (v:=.tuple #[]) (by simp [results,Tryz.results59,go_sem]) rfl ⟨rfl,by rw [HV.out];exact HH.out,Bk.refl _ _⟩
 ·obtain ⟨hok,h30⟩:=zb1 hb hc hm hg hn.2 (by omega);have HV:Hid (z3h l c m gap need=z2P l c (zo (z14 l c m gap need) (z0K l c m)) m):=(by rw [Hid,z3h,if_neg hl])
  have hcap:n=l.length/\m<=cap - c/\cap - c<=9223372036854775807/\B<=g/\g < D:=by
   rcases HH.out with ⟨hv,_⟩ | ⟨g',cap',cur,hv,h5,h6,_,h1,h2,_,_⟩
   ·simp at hv
   ·simp only [Value.slice.injEq,Option.some.injEq,Addr.mk.injEq,and_true] at hv;obtain ⟨rfl,rfl,rfl⟩:=hv;unfold maxLen at h2;omega
  obtain ⟨rfl,hcp1,hcp2,hBg,hgD⟩:=hcap;have hsl:=z17 hok;rw [z1Q hc] at hsl;have HSB:=Hd (fun k hk=>z1y (t:=z14 l c m gap need) (l:=z0K l c m) k hk);have KS:=Hd (zaf (z14 l c m gap need) _ _ w hI);rw [HLk.out] at hl h30 KS HV hsl HSB;clear hI ha HLk hok;generalize z1F (z0K l c m) gap=y at KA hl ha0 ha1 h30 KS HV hsl HSB;generalize zo (need - y) (z0K l c m)=sh at KS HV hsl HSB;go_enter Tryz.func59,Tryz.ntmps59;go_wp2_with fail
  refine KA.out.mono ?_;rintro e w1 ⟨rfl,e1⟩
  cases e1
  go_wp2_with fail
  refine KS.out.mono ?_;rintro e w2 ⟨v2,rfl,hr2,hb2⟩;obtain ⟨a2,c2,rfl⟩:=hr2.form;rw [hsl] at hr2 |-;have HS2:=Hd hr2;have HR2:=Hd (HH.out.kept (fun j h0 _ _=>hb2.block j h0));have HK2:=Hd (Bk.of_below (r:=g) hb2);have hz2:=hb2.size;clear hr2 hb2 KA KS HH;go_wp2_with fail
  go_loopw [20] (fun s W=>∃ k:Nat,s=int i64 k/\k<=m/\Hid (zH W B D (.slice (some ⟨g,0,none⟩) l.length cap) (z2P l c sh k))/\Hid (zH W w.heap.size w2.heap.size (.slice a2 m c2) sh)/\Hid (Bk g w W)) (fun s _=>m - (intOf s).toNat)
  case atStart=>exact ⟨0,rfl,Nat.zero_le _,HR2,HS2,HK2⟩
  case round =>
   obtain ⟨k,rfl,hk,HR,HS,HK⟩:=hrel;by_cases hlt:k < m
   ·obtain ⟨g',cap',e',hb1',hd1',hgs,hc1,hc2,hx,hf⟩:=HS.out.get (i:=k) (by omega);simp only [Value.slice.injEq,hsl,true_and] at e';obtain ⟨rfl,rfl⟩:=e';obtain ⟨g3,cap3,e3,hb3,hd3,hgs3,hc3,hc4,hy,hfy⟩:=HR.out.get (i:=c+k) (by rw [z3X];omega);simp only [Value.slice.injEq,Option.some.injEq,Addr.mk.injEq,and_true] at e3;obtain ⟨rfl,_,rfl⟩:=e3;have hyv:=z5Z l c sh (i:=c+k) k (fun j hj=>by omega);rw [hyv] at hy;have hbx:=hb (c+k) (by omega);have hbs:=HSB.out k (by omega);have HN:=Hd (HR.out.set (i:=c+k) (by rw [z3X];omega) (l.getD (c+k) 0+sh.getD k 0));have HN2:Hid (z2P l c sh (k+1)=(z2P l c sh k).set (c+k) (l.getD (c+k) 0+sh.getD k 0)):=rfl;rw [<-HN2.out] at HN;generalize l.getD (c+k) 0=z at hy hbx HN;generalize sh.getD k 0=q at hx hbs HN;unfold maxLen at hc2 hc4;clear hyv HN2;go_wp2;go_roundw
    case rel=>exact ⟨k+1,by go_num,by omega,HN.out,HS.out.kept (fun j h0 h1 h2=>Below.heap_setCell _ _ _ _ (by show j ≠ g;omega)),HK.out.set (.inl rfl) _⟩
    case measure=>simp [intOf];omega
   ·obtain rfl:k=m:=by omega
    go_wp2
    go_end0
    exact ⟨rfl,by rw [HV.out];exact HR.out,HK.out⟩
theorem zfD:(Tryz.prog.info? 3).map (fun i=>(i.zero,i.size,i.bytes))=some (some (Value.int .i64 0),1,8):=by kernel_rfl
theorem z5V (t:Int) (v:Value) (l:List Int) (hok:zt t l=true) (w:World) (h:z0g w v l) :
  Calls Tryz.prog 85 #[int i64 t,v] w fun e w'=>∃ x,e=.returned (.tuple #[x,int i64 (z23 t l)])/\zH w' w.heap.size w'.heap.size x (z0m t l)/\Below w.heap.size w w':=by
 obtain ⟨i0,hi0,hz0,hz1,hz2⟩:=info_parts zfD;obtain ⟨a,cap,rfl,_⟩:=h.form;have H:=Hd h;obtain ⟨ht,hl,hw⟩:=z09 hok;have hsb:=z2B hw;have HS:=Hd (fun W=>z5N (.slice a l.length cap) l (by omega) hw W);by_cases hs:l.sum<=t
 ·obtain ⟨e1,e2⟩:=z33 hok hs;have E1:=Hd e1;have E2:=Hd e2;clear e1 e2 hw;by_cases h0:0 < l.length
  ·obtain ⟨b,off,cap',e',_,_,hbw,_⟩:=h.get h0;simp only [Value.slice.injEq,true_and] at e';obtain ⟨rfl,rfl⟩:=e';clear h;go_enter Tryz.func85,Tryz.ntmps85;go_wp2_with fail
   refine (HS.out _ H.out).mono ?_;rintro e w1 ⟨rfl,ex⟩
   cases ex
   generalize l.sum=s at hs E2 hsb;go_wp2_with (at_builtin;refine wpList_append_own_at _ rfl _ _ 42 rfl w.heap.size 3 i0 (int i64 0) 1 8 Tryz.underlying42 hi0 hz0 hz1 hz2 rfl (by decide) _ 0 [] rfl (World.ownsRow_nil w w.heap.size 3 1) ⟨b,off,none⟩ l.length cap (l.map (Value.int .i64)) rfl ?e1 (zda H.out (Below.refl _ _)) (zfc l) ?e4 ?e5 ?e6 ?_)
   case e1=>simp
   case e4=>unfold maxLen;omega
   case e5=>omega
   case e6=>exact Nat.le_refl _
   intro v5 w5 ho5 hg5 _ _;have R5:=Hd (zH.of_owns (l:=l) (by simpa using ho5));have K5:Hid (Below w.heap.size w w5):=(Below.refl w.heap.size w).grown hg5 (Nat.le_refl _) (fun q hq=>by simp [Value.ownBlock] at hq);obtain ⟨a5,c5,rfl⟩:=R5.out.form;clear ho5 hg5;go_wp2
   go_ret2
   exact ⟨_,zbK E2.out.symm,by rw [E1.out];exact R5.out,K5.out⟩
  ·obtain rfl:l=[]:=List.eq_nil_of_length_eq_zero (by omega);clear h
   cases a with
   | none =>
    go_enter Tryz.func85,Tryz.ntmps85;go_wp2_with fail
    refine (HS.out _ H.out).mono ?_;rintro e w1 ⟨rfl,ex⟩
    cases ex
    generalize ([]:List Int).sum=s at hs E2 hsb;go_wp2
    go_ret2
    exact ⟨_,zbK E2.out.symm,by rw [E1.out];exact .inl ⟨rfl,rfl⟩,Below.refl _ _⟩
   | some p =>
    go_enter Tryz.func85,Tryz.ntmps85;go_wp2_with fail
    refine (HS.out _ H.out).mono ?_;rintro e w1 ⟨rfl,ex⟩
    cases ex
    generalize ([]:List Int).sum=s at hs E2 hsb;go_wp2
    go_ret2
    exact ⟨_,zbK E2.out.symm,by rw [E1.out];exact .inl ⟨rfl,rfl⟩,Below.refl _ _⟩
 ·obtain ⟨e1,e2⟩:=z2p hok hs;have E1:=Hd e1;have E2:=Hd e2;have HSh:=Hd (fun W=>z3s t (.slice a l.length cap) l hok W);clear e1 e2 hw h;go_enter Tryz.func85,Tryz.ntmps85;go_wp2_with fail
  refine (HS.out _ H.out).mono ?_;rintro e w1 ⟨rfl,ex⟩
  cases ex
  generalize l.sum=s at hs hsb;go_wp2_with fail
  refine (HSh.out _ H.out).mono ?_;rintro e w2 ⟨x,rfl,hr,hb⟩;have R:=Hd (And.intro hr hb);clear hr hb;go_wp2
  go_ret2
  exact ⟨x,zbK E2.out.symm,by rw [E1.out];exact R.out.1,R.out.2⟩
end
end Go.Proofs.YtggmjiddadjilalGreat
