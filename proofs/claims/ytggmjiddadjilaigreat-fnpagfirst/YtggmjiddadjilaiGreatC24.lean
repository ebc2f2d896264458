/-
  PROVED HERE: what the program's ShrShare answers at every argument: the list 'shareL', in memory of its own; nothing that was in memory is turned. Also: 18 more texts of the same proof.
-/
import Derived.Test.YtggmjiddadjilaiGreatC23
set_option maxRecDepth 1000000
set_option maxHeartbeats 40000000
namespace Go.Proofs.YtggmjiddadjilaiGreat
section
open Go.RowKit Go.Shelf Go.Lib Go.Sort
theorem za5 {w0 W:World} {g:Nat} {d:Array Cl} (h:SWK z11 3 w0 g 0 d W) {j:Nat} (hj:j < w0.heap.size) (hne:j ≠ g):W.heap[j]?=w0.heap[j]?:=by
 obtain ⟨n,os,rfl⟩:=h;unfold sortWorldK;rw [heap_grow_old _ _ (by rw [size_putRowK];exact hj)];unfold putRowK putRow mapBlock;show (Array.modify _ _ _)[j]?=_;rw [Array.getElem?_modify];simp [Ne.symm hne]
theorem zeL {w0 W:World} {g B:Nat} {d:Array Cl} (h:SWK z11 3 w0 g 0 d W) (hB:B≤g) (hg:g < w0.heap.size):Below B w0 W:=by
 have hs:=h.le;have ho:=fun j (hj:j < B)=>za5 h (j:=j) (by omega) (by omega);obtain ⟨n,os,rfl⟩:=h;exact ⟨rfl,rfl,rfl,hs,ho⟩
theorem zbx {w:World} {g:Nat} {d:Array Cl} (h:HoldsK z11 3 w g 0 d) {i:Nat} (hi:i < d.size) :
  w.cell? ⟨g,i * 3,none⟩=some (.int .i64 d[i]!.p)∧w.cell? ⟨g,i * 3+1,none⟩=some (.int .i64 d[i]!.w)∧w.cell? ⟨g,i * 3+2,none⟩=some (.int .i64 d[i]!.o):=by
 have h0:=h.cell (i:=i) (c:=0) hi (by omega);have h1:=h.cell (i:=i) (c:=1) hi (by omega);have h2:=h.cell (i:=i) (c:=2) hi (by omega);simp only [Nat.zero_add,Nat.add_zero] at h0 h1 h2;exact ⟨h0.1,h1.1,h2.1⟩
theorem z5E {w w':World} {g:Nat} {d:Array Cl} (h:RowK z11 3 w g 0 d) (hb:w'.heap[g]?=w.heap[g]?):RowK z11 3 w' g 0 d:=by
 have hlt:g < w'.heap.size:=by
  have:=h.hblk;rw [Array.getElem?_eq_getElem this] at hb;exact (bL hb)
 refine ⟨h.hk,h.h1,fun j hj=>?_,hlt⟩;have hh:=h.hH j hj;rw [World.cell?_of_block (w:=w) (a:=⟨g,0+j,none⟩) hb,World.frozen?_of_block (w:=w) (a:=⟨g,0+j,none⟩) hb];exact hh
theorem zga {n i:Nat} (h:i < n):(z0G n)[i]?=some (.int .i64 0):=by
 unfold z0G;rw [Nat.mul_one,← Array.getElem?_toList,show (Value.int .i64 0).cells=#[Value.int .i64 0] from rfl,toList_madeCells_one];simp [h]
theorem zby {a b:List Int} (h:a.length=b.length) (hh:∀ i,i < a.length→a.getD i 0=b.getD i 0):a=b:=by
 apply List.ext_getElem h;intro i h1 h2;have:=hh i h1
 simpa [List.getD,h1,h2] using this
theorem z4c (w:World) (n:Nat) (hn:n≤1048576):zz (w.alloc (.cells (z0G n) 3)) w.heap.size (w.heap.size+1) (.slice (some ⟨w.heap.size,0,none⟩) n n) (List.replicate n 0) :=
 .inr ⟨w.heap.size,n,z0G n,by simp,Nat.le_refl _,by omega,zl _ _,by simp,by unfold maxLen;omega,z5w n,fun i hi=>by
  rw [List.length_replicate] at hi;rw [zga hi];simp [List.getD,hi]⟩
theorem z3W (t:Int) (v:Value) (l:List Int) (hok:zq t l=true) (w:World) (h:zH w v l) :
  Calls Tryz.prog 114 #[.int .i64 t,v] w fun e w'=>∃ x,e=.returned x∧zz w' w.heap.size w'.heap.size x (zo t l)∧Below w.heap.size w w':=by
 obtain ⟨a,cap,rfl,_⟩:=h.form;have H:=Hd h;clear h;by_cases hne:l.length=0
 ·obtain rfl:l=[]:=List.eq_nil_of_length_eq_zero hne;have HE:=Hd (z4m (t:=t) (l:=[]) (by simp));go_enter Tryz.func114,Tryz.ntmps114;go_wp2;go_ret;exact ⟨_,rfl,.inl ⟨rfl,HE.out⟩,Below.refl _ _⟩
 ·obtain ⟨ht,hl,hw⟩:=z01 hok;have h0:0 < l.length:=(by omega);have hnil:l ≠ []:=List.length_pos_iff.1 h0;have hlz:((l.length:Int) == 0)=false:=(by simp;omega);have HF:=Hd (z2m hok hnil);have hokU:=z4s hok;have hpU:=z4W hw h0;have hln:=z3A l;have HC:=Hd (fun W=>zb9 t (.slice a l.length cap) l ht h0 hl hw W);have hmk:=z5x l.length (by omega);generalize wts l=u at HF hokU hpU hln HC;have HL:=Hd hln;have HBS:=Hd (fun k hk=>z8q hokU hpU (i:=k) hk);have HSU:=Hd (z5f hokU hpU);have HLE:=Hd (z5T hokU hpU);have HUB:Hid (∀ k,k≤u.length→0≤z0I t u k∧z0I t u k≤t):=fun k hk=>⟨(z6b k).1,Int.le_trans (z6c hk) (z5c hokU hpU).1⟩;clear hln hokU hpU hw hne hnil;go_enter Tryz.func114,Tryz.ntmps114;go_wp2_with fail
  refine (HC.out _ H.out).mono ?_;rintro e w1 ⟨g,rfl,hg,hR1,hb1⟩;have HR:=Hd hR1;have HK1:=Hd hb1;have hg1:g < w1.heap.size:=hR1.hblk;have hw1:=hb1.size;clear hR1 hb1;go_wp2_with fail
  clear hmk;have S0:Hid (zz (w1.alloc (.cells (z0G l.length) 3)) w1.heap.size (w1.heap.size+1) (.slice (some ⟨w1.heap.size,0,none⟩) l.length l.length) (List.replicate l.length 0)):=z4c w1 l.length (by omega);go_loopw [7,24] (fun s7 s30 W=>∃ (k:Nat) (gl:List Int),k≤l.length∧s30=.int .i64 k∧s7=.int .i64 (t - z0I t u k)∧gl.length=l.length∧Hid (zz W w1.heap.size (w1.heap.size+1) (.slice (some ⟨w1.heap.size,0,none⟩) l.length l.length) gl)∧Hid (∀ i,i < k→gl.getD i 0=(z1l t u).getD i 0)∧Hid (W.heap[g]?=w1.heap[g]?)∧Hid (Below w.heap.size w W)∧w1.heap.size < W.heap.size) (fun _ s30 _=>l.length - (intOf s30).toNat)
  case atStart=>exact ⟨0,List.replicate l.length 0,Nat.zero_le _,rfl,by simp [z0I],by simp,S0,fun i hi=>absurd hi (Nat.not_lt_zero _),Below.heap_alloc _ _ _ hg1,ze HK1.out _,by simp⟩
  case round =>
   clear S0;obtain ⟨k,gl,hk,rfl,rfl,hgl,HG,HE,HB,HW,hsz⟩:=hrel;by_cases hlt:k < l.length
   ·have hku:k < u.length:=(by rw [HL.out];exact hlt);have hds:k < (clL t u).toArray.size:=(by simp [z3B];exact hku);obtain ⟨c0,c1,c2⟩:=zbx (z5E HR.out HB.out).hH hds;have hbk:=HBS.out k hku;rw [z4r hku] at hbk;have hsu:=HUB.out k (by omega);have hsv:=HUB.out (k+1) (by omega);have HBG:=Hd (z4r (t:=t) hku)
    have HDU:Hid (z0I t u (k+1)=z0I t u k+(z1l t u).getD k 0):=by
     have e1:=HSU.out k (by omega);have e2:=HSU.out (k+1) (by omega);rw [z18 (by rw [z13];exact hku)] at e2;show _=_;omega
    rw [HDU.out,HBG.out] at hsv;rw [z79 hku] at c0 c1 c2;simp only [cl] at c0 c1 c2;generalize t * u.getD k 0 / u.sum=x at c1 HBG hbk hsv;generalize t * u.getD k 0 % u.sum=y at c2;obtain ⟨g',cap',e',hb1',hd1',hgs,hc1,hc2,hx,hf⟩:=HG.out.get (i:=k) (by omega);simp only [Value.slice.injEq,Option.some.injEq,Addr.mk.injEq,and_true] at e';obtain ⟨e1',e2',e3'⟩:=e';subst e1';clear e2' e3' hc1 hc2 hb1' hd1' hgs hds;generalize gl.getD k 0=z at hx;have hgw:g < wr.heap.size:=(by omega);go_wp2;go_roundw
    case rel =>
     refine ⟨k+1,gl.set k x,by omega,by go_num,by rw [HDU.out,HBG.out];congr 1;omega,by simp [hgl],(HG.out.set (i:=k) (by omega) x).below (ze (Below.refl _ _) _) (by rw [z41];omega),fun i hi=>?_,(Below.heap_alloc _ _ _ (by rw [z41];omega)).trans ((Below.heap_setCell _ _ _ _ (by simp;omega)).trans HB.out),ze (z3k HW.out hw1 _) _,by simp;omega⟩;by_cases e:i=k
     ·subst e;rw [HBG.out];simp [List.getD,hgl,hlt]
     ·have:=HE.out i (by omega);rw [← this];simp [List.getD,List.getElem?_set_ne (Ne.symm e)]
    case measure=>simp [intOf];omega
   ·obtain rfl:k=l.length:=by omega
    have eg:gl=z1l t u:=zby (by rw [hgl,z13,HL.out]) (fun i hi=>HE.out i (by omega));obtain ⟨lf,hlf⟩:∃ lf,lf=z2d t u:=⟨_,rfl⟩;have el:t - z0I t u l.length=(lf:Int):=(by rw [hlf,HLE.out.1,HL.out]);have hlf1:lf < l.length:=(by rw [hlf,← HL.out];exact HLE.out.2);have hcs:(clL t u).toArray.size=l.length:=(by simp [z3B,HL.out])
    have HSo:Hid (Calls Tryz.prog 140 #[.slice (some ⟨g,0,none⟩) l.length l.length,.func (.func 141) #[] #[]] wr fun e w'=>e=.returned (.tuple #[])∧SWK z11 3 wr g 0 (zP t u).toArray w'):=by
     have h1:=z9d g 0 l.length (clL t u).toArray wr (z5E HR.out HB.out) (zhC t u) (by rw [hcs];exact hl);have h2:=h1.mono (R':=fun e w'=>e=.returned (.tuple #[])∧SWK z11 3 wr g 0 (zP t u).toArray w') (fun e w' ⟨he,d',hp,hs,hS⟩=>⟨he,by rw [← zhD hp hs];exact hS⟩);rw [hcs] at h2;exact h2
    have HLF:=Hd hlf;rw [eg] at HG;rw [el];clear eg HE hgl el hcs hlf;go_wp2_with fail
    refine HSo.out.mono ?_;rintro e w3 ⟨rfl,S3⟩
    have HG3:Hid (zz w3 w1.heap.size (w1.heap.size+1) (.slice (some ⟨w1.heap.size,0,none⟩) l.length l.length) (z1E (z1l t u) (zP t u) 0)):=by
     rw [z4I];exact HG.out.kept (fun j h1 h2 h3=>za5 S3 h1 (by omega))
    have HW3:=Hd (HW.out.trans ((zeL S3 (Nat.le_refl _) (by omega)).mono hg));have HS3:=Hd (S3.holds (by omega) (z5E HR.out HB.out).hH (by simp [z3B,z5g]));have hz3:w1.heap.size < w3.heap.size:=Nat.lt_of_lt_of_le hsz S3.le;clear S3 HSo HG HW HB hsz;go_wp2_with fail
    have hg3:g < w3.heap.size:=(by omega);go_loopw [45] (fun s51 W=>∃ j:Nat,j≤lf∧s51=.int .i64 j∧Hid (zz W w1.heap.size (w1.heap.size+1) (.slice (some ⟨w1.heap.size,0,none⟩) l.length l.length) (z1E (z1l t u) (zP t u) j))∧Hid (W.heap[g]?=w3.heap[g]?)∧Hid (Below w.heap.size w W)∧w1.heap.size < W.heap.size) (fun s51 _=>lf - (intOf s51).toNat)
    case atStart=>exact ⟨0,Nat.zero_le _,rfl,HG3,rfl,HW3,hz3⟩
    case round =>
     clear HG3 HW3 hz3;obtain ⟨k,hk,rfl,HG,HB,HW,hsz⟩:=hrel;by_cases hlt:k < lf
     ·have hks:k < (zP t u).length:=(by rw [z5g,HL.out];omega);have hka:k < (zP t u).toArray.size:=(by simpa using hks);obtain ⟨c0,c1,c2⟩:=zbx (z5E ⟨z7G,z7H,HS3.out,by omega⟩ HB.out).hH hka;have hget:(zP t u).toArray[k]! = (zP t u)[k]:=(by rw [getElem!_pos _ k hka];simp);rw [hget] at c0 c1 c2;obtain ⟨i,hi,hcl⟩:=z6d (List.getElem_mem hks);have HN:=Hd (z4J (g:=z1l t u) hks);rw [hcl] at c0 c1 c2 HN;have hil:i < l.length:=(by rw [← HL.out];exact hi);have hbl:(z1E (z1l t u) (zP t u) k).length=l.length:=(by rw [z4t,z13,HL.out]);have hbb:=z5L (B:=100000) (s:=zP t u) (fun j hj=>HBS.out j (by rw [z13] at hj;exact hj)) k (by omega) i (by rw [z13];exact hi);obtain ⟨g',cap',e',hb1',hd1',hgs,hc1,hc2,hx,hf⟩:=HG.out.get (i:=i) (by omega);simp only [Value.slice.injEq,Option.some.injEq,Addr.mk.injEq,and_true] at e';obtain ⟨e1',e2',e3'⟩:=e';subst e1';simp only [cl] at c0 c1 c2;have HN2:Hid (z1E (z1l t u) (zP t u) (k+1)=(z1E (z1l t u) (zP t u) k).set i ((z1E (z1l t u) (zP t u) k).getD i 0+1)):=HN.out;have HST:=Hd (HG.out.set (i:=i) (by omega) ((z1E (z1l t u) (zP t u) k).getD i 0+1));rw [← HN2.out] at HST;generalize (z1E (z1l t u) (zP t u) k).getD i 0=z at hx hbb HST;generalize t * u.getD i 0 / u.sum=x at c1;generalize t * u.getD i 0 % u.sum=y at c2;clear e2' e3' hc1 hc2 hb1' hd1' hgs HN HN2 hget hka hks hcl hbl;have hgw:g < wr.heap.size:=(by omega);go_wp2;go_roundw
      case rel =>
       refine ⟨k+1,by omega,by go_num,HST.out.below (ze (Below.refl _ _) _) (by rw [z41];omega),(Below.heap_alloc _ _ _ (by rw [z41];omega)).trans ((Below.heap_setCell _ _ _ _ (by simp;omega)).trans HB.out),ze (z3k HW.out hw1 _) _,by simp;omega⟩
      case measure=>simp [intOf];omega
     ·obtain rfl:k=lf:=by omega
      have HE:Hid (zo t l=z1E (z1l t u) (zP t u) k):=(by rw [HLF.out];exact HF.out);go_wp2;go_ret;exact ⟨_,rfl,by rw [HE.out];exact HG.out.base hw1 hsz,HW.out⟩
theorem zbz (t:Int) (v:Value) (l:List Int) (w:World) (h:zH w v l) :
  Calls Tryz.prog 154 #[.int .i64 t,v] w fun e w'=>∃ x,e=.returned x∧zz w' w.heap.size w'.heap.size x (zo t l)∧Below w.heap.size w w':=by
 obtain ⟨a,cap,rfl,_⟩:=h.form;have H:=Hd h;clear h;have HO:=Hd (fun W=>zem t (.slice a l.length cap) l W);by_cases hok:zq t l=true
 ·have HS:=Hd (fun W=>z3W t (.slice a l.length cap) l hok W);go_enter Tryz.func154,Tryz.ntmps154;go_wp2_with fail
  refine (HO.out _ H.out).mono ?_;rintro e w1 ⟨rfl,e1⟩
  cases e1
  rw [hok];go_wp2_with fail
  refine (HS.out _ H.out).mono ?_;rintro e w2 ⟨x,rfl,hr,hb⟩;have R:=Hd (And.intro hr hb);clear hr hb;go_wp2;go_ret;exact ⟨x,rfl,R.out.1,R.out.2⟩
 ·have hok':=eq_false_of_ne_true hok;have HE:=Hd (z4m (t:=t) (l:=l) (by simp [hok']));go_enter Tryz.func154,Tryz.ntmps154;go_wp2_with fail
  refine (HO.out _ H.out).mono ?_;rintro e w1 ⟨rfl,e1⟩
  cases e1
  rw [hok'];go_wp2;go_ret;exact ⟨_,rfl,.inl ⟨rfl,HE.out⟩,Below.refl _ _⟩
end
section
open Go.RowKit
theorem zeQ {w:World} {b off n cap:Nat} {l:List Int} (H:zH w (.slice (some ⟨b,off,none⟩) n cap) l) {w':World} (K:Below w.heap.size w w'):∀ j x,(l.map (Value.int .i64))[j]?=some x→w'.cell? ((⟨b,off,none⟩:Addr).add j)=some x:=by
 intro j x hx;rw [List.getElem?_map] at hx;obtain ⟨y,hy,rfl⟩:=Option.map_eq_some_iff.1 hx;have hj:=(List.getElem?_eq_some_iff.1 hy).1;rw [Go.WideShapes.add_plain];obtain ⟨bq,oq,cq,eq1,_,_,hbw,hcq⟩:=H.get hj;simp only [Value.slice.injEq,Option.some.injEq,Addr.mk.injEq,and_true] at eq1;obtain ⟨⟨rfl,rfl⟩,_⟩:=eq1;rw [K.cell (p:=⟨b,off+j,none⟩) hbw,hcq];simp [List.getD,hy]
theorem zhh (l:List Int):∀ x ∈ l.map (Value.int .i64),x.oneCell'=true:=fun x hx=>by obtain ⟨y,_,rfl⟩:=List.mem_map.1 hx;rfl
theorem zhK:(Tryz.prog.info? 3).map (fun i=>(i.zero,i.size,i.bytes))=some (some (Value.int .i64 0),1,8):=by kernel_rfl
theorem z6w (t:Int) (v:Value) (l:List Int) (hok:zq t l=true) (w:World) (h:zH w v l) :
  Calls Tryz.prog 111 #[.int .i64 t,v] w fun e w'=>∃ x,e=.returned (.tuple #[x,.int .i64 (z2e t l)])∧zz w' w.heap.size w'.heap.size x (z0i t l)∧Below w.heap.size w w':=by
 obtain ⟨i0,hi0,hz0,hz1,hz2⟩:=info_parts zhK;obtain ⟨a,cap,rfl,_⟩:=h.form;have H:=Hd h;obtain ⟨ht,hl,hw⟩:=z01 hok;have hsb:=z2Q hw;have HS:=Hd (fun W=>z6r (.slice a l.length cap) l (by omega) hw W);by_cases hs:l.sum≤t
 ·obtain ⟨e1,e2⟩:=z3r hok hs;have E1:=Hd e1;have E2:=Hd e2;clear e1 e2 hw;by_cases h0:0 < l.length
  ·obtain ⟨b,off,cap',e',_,_,hbw,_⟩:=h.get h0;simp only [Value.slice.injEq,true_and] at e';obtain ⟨rfl,rfl⟩:=e';clear h;go_enter Tryz.func111,Tryz.ntmps111;go_wp2_with fail
   refine (HS.out _ H.out).mono ?_;rintro e w1 ⟨rfl,ex⟩
   cases ex
   generalize l.sum=s at hs E2 hsb;go_wp2_with (at_builtin;refine wpList_append_own_at _ rfl _ _ 34 rfl w.heap.size 3 i0 (.int .i64 0) 1 8 Tryz.underlying34 hi0 hz0 hz1 hz2 rfl (by decide) _ 0 [] rfl (World.ownsRow_nil w w.heap.size 3 1) ⟨b,off,none⟩ l.length cap (l.map (Value.int .i64)) rfl ?e1 (zeQ H.out (Below.refl _ _)) (zhh l) ?e4 ?e5 ?e6 ?_)
   case e1=>simp
   case e4=>unfold maxLen;omega
   case e5=>omega
   case e6=>exact Nat.le_refl _
   intro v5 w5 ho5 hg5 _ _;have R5:=Hd (zz.of_owns (l:=l) (by simpa using ho5));have K5:Hid (Below w.heap.size w w5):=(Below.refl w.heap.size w).grown hg5 (Nat.le_refl _) (fun q hq=>by simp [Value.ownBlock] at hq);obtain ⟨a5,c5,rfl⟩:=R5.out.form;clear ho5 hg5;go_wp2
   go_ret2
   exact ⟨_,zdi E2.out.symm,by rw [E1.out];exact R5.out,K5.out⟩
  ·obtain rfl:l=[]:=List.eq_nil_of_length_eq_zero (by omega);clear h
   cases a with
   | none =>
    go_enter Tryz.func111,Tryz.ntmps111;go_wp2_with fail
    refine (HS.out _ H.out).mono ?_;rintro e w1 ⟨rfl,ex⟩
    cases ex
    generalize ([]:List Int).sum=s at hs E2 hsb;go_wp2
    go_ret2
    exact ⟨_,zdi E2.out.symm,by rw [E1.out];exact .inl ⟨rfl,rfl⟩,Below.refl _ _⟩
   | some p =>
    go_enter Tryz.func111,Tryz.ntmps111;go_wp2_with fail
    refine (HS.out _ H.out).mono ?_;rintro e w1 ⟨rfl,ex⟩
    cases ex
    generalize ([]:List Int).sum=s at hs E2 hsb;go_wp2
    go_ret2
    exact ⟨_,zdi E2.out.symm,by rw [E1.out];exact .inl ⟨rfl,rfl⟩,Below.refl _ _⟩
 ·obtain ⟨e1,e2⟩:=z2G hok hs;have E1:=Hd e1;have E2:=Hd e2;have HSh:=Hd (fun W=>z3W t (.slice a l.length cap) l hok W);clear e1 e2 hw h;go_enter Tryz.func111,Tryz.ntmps111;go_wp2_with fail
  refine (HS.out _ H.out).mono ?_;rintro e w1 ⟨rfl,ex⟩
  cases ex
  generalize l.sum=s at hs hsb;go_wp2_with fail
  refine (HSh.out _ H.out).mono ?_;rintro e w2 ⟨x,rfl,hr,hb⟩;have R:=Hd (And.intro hr hb);clear hr hb;go_wp2
  go_ret2
  exact ⟨x,zdi E2.out.symm,by rw [E1.out];exact R.out.1,R.out.2⟩
theorem zz.sub {w:World} {B D g n cap:Nat} {l:List Int} (h:zz w B D (.slice (some ⟨g,0,none⟩) n cap) l) {c m:Nat} (hc:c+m≤l.length) (hm:1≤m):zH w (.slice (some ⟨g,c,none⟩) m (cap - c)) (z0J l c m):=by
 have hlen:=z26 hc
 rcases h with ⟨hv,_⟩ | ⟨g',cap',cur,hv,hb,hd,hg,h1,h2,h3,h4⟩
 ·simp at hv
 ·simp only [Value.slice.injEq,Option.some.injEq,Addr.mk.injEq,and_true] at hv;obtain ⟨rfl,rfl,rfl⟩:=hv;refine ⟨_,cap - c,by rw [hlen],by rw [hlen];omega,by omega,fun i hi=>⟨g,c,rfl,(bL hg),?_⟩⟩;rw [hlen] at hi;rw [z7K hc hi];exact (zf hg).trans (h4 (c+i) (by omega))
theorem zz.bk {w w':World} {B D g:Nat} {v:Value} {l:List Int} (h:zz w B D v l) (k:Bk g w w') (hg:g < B∨D≤g):zz w' B D v l:=h.kept (fun j h0 h1 h2=>k.block j h0 (by omega))
theorem zeR {l:List Int} {c m:Nat} {gap:Int} (hb:UpB l 50000) (hc:c+m≤l.length) (hm:1≤m∧m≤4) (hg:0≤gap∧gap≤3):z1R (z0J l c m) gap=(z0J l c m).sum+gap * ((m:Int) - 1)∧0≤z1R (z0J l c m) gap∧z1R (z0J l c m) gap≤300000:=by
 have hs:=z4Y (fun x (hx:x ∈ z0J l c m)=>hb.mem (z7L hx));rw [z26 hc] at hs;have hgm:0≤gap * ((m:Int) - 1):=Int.mul_nonneg hg.1 (by omega);have hgm2:gap * ((m:Int) - 1)≤9:=Int.le_trans (Int.mul_le_mul hg.2 (show (m:Int) - 1≤3 by omega) (by omega) (by omega)) (by omega)
 have e:z1R (z0J l c m) gap=(z0J l c m).sum+gap * ((m:Int) - 1):=by
  rw [z4o (by rw [z26 hc];omega),z26 hc,z3u (by omega)]
 rw [e];omega
theorem zeS (B D g n cap:Nat) (l:List Int) (hb:UpB l 50000) (c m:Nat) (hc:c+m≤l.length) (hm:1≤m∧m≤4) (gap need:Int) (hg:0≤gap∧gap≤3) (hn:0≤need∧need≤30) (w:World) (h:zz w B D (.slice (some ⟨g,0,none⟩) n cap) l) (hgw:g < w.heap.size) :
  Calls Tryz.prog 137 #[.slice (some ⟨g,c,none⟩) m (cap - c),.int .i64 gap,.int .i64 need] w fun e w'=>e=.returned (.tuple #[])∧zz w' B D (.slice (some ⟨g,0,none⟩) n cap) (z3N l c m gap need)∧Bk g w w':=by
 have hI:=h.sub hc hm.1;obtain ⟨ha,ha0,ha1⟩:=zeR hb hc hm hg;have KA:=Hd (z4B _ _ gap w hI);have HLk:Hid (z1h l c m gap need=need - z1R (z0J l c m) gap):=(by rw [Hid,ha];rfl);have HH:=Hd h;clear h;by_cases hl:z1h l c m gap need≤0
 ·have HV:Hid (z3N l c m gap need=l):=(by rw [Hid,z3N,if_pos hl]);rw [HLk.out] at hl;clear hI ha HLk;generalize z1R (z0J l c m) gap=y at KA hl ha0 ha1
  have hcap:m≤cap - c∧cap - c≤9223372036854775807:=by
   rcases HH.out with ⟨hv,_⟩ | ⟨g',cap',cur,hv,_,_,_,h1,h2,_,_⟩
   ·simp at hv
   ·simp only [Value.slice.injEq,Option.some.injEq,Addr.mk.injEq,and_true] at hv;obtain ⟨rfl,rfl,rfl⟩:=hv;unfold maxLen at h2;omega
  go_enter Tryz.func137,Tryz.ntmps137;go_wp2_with fail
  refine KA.out.mono ?_;rintro e w1 ⟨rfl,rfl⟩;go_wp2;exact bodyPost_ret (v:=.tuple #[]) (by simp [results,Tryz.results137,go_sem]) rfl ⟨rfl,by rw [HV.out];exact HH.out,Bk.refl _ _⟩
 ·obtain ⟨hok,h30⟩:=zcC hb hc hm hg hn.2 (by omega);have HV:Hid (z3N l c m gap need=z3c l c (zo (z1h l c m gap need) (z0J l c m)) m):=(by rw [Hid,z3N,if_neg hl])
  have hcap:n=l.length∧m≤cap - c∧cap - c≤9223372036854775807∧B≤g∧g < D:=by
   rcases HH.out with ⟨hv,_⟩ | ⟨g',cap',cur,hv,h5,h6,_,h1,h2,_,_⟩
   ·simp at hv
   ·simp only [Value.slice.injEq,Option.some.injEq,Addr.mk.injEq,and_true] at hv;obtain ⟨rfl,rfl,rfl⟩:=hv;unfold maxLen at h2;omega
  obtain ⟨rfl,hcp1,hcp2,hBg,hgD⟩:=hcap;have hsl:=z1m hok;rw [z26 hc] at hsl;have HSB:=Hd (fun k hk=>z1K (t:=z1h l c m gap need) (l:=z0J l c m) k hk);have KS:=Hd (zbz (z1h l c m gap need) _ _ w hI);rw [HLk.out] at hl h30 KS HV hsl HSB;clear hI ha HLk hok;generalize z1R (z0J l c m) gap=y at KA hl ha0 ha1 h30 KS HV hsl HSB;generalize zo (need - y) (z0J l c m)=sh at KS HV hsl HSB;go_enter Tryz.func137,Tryz.ntmps137;go_wp2_with fail
  refine KA.out.mono ?_;rintro e w1 ⟨rfl,e1⟩
  cases e1
  go_wp2_with fail
  refine KS.out.mono ?_;rintro e w2 ⟨v2,rfl,hr2,hb2⟩;obtain ⟨a2,c2,rfl⟩:=hr2.form;rw [hsl] at hr2 ⊢;have HS2:=Hd hr2;have HR2:=Hd (HH.out.kept (fun j h0 _ _=>hb2.block j h0));have HK2:=Hd (Bk.of_below (r:=g) hb2);have hz2:=hb2.size;clear hr2 hb2 KA KS HH;go_wp2_with fail
  go_loopw [20] (fun s W=>∃ k:Nat,s=.int .i64 k∧k≤m∧Hid (zz W B D (.slice (some ⟨g,0,none⟩) l.length cap) (z3c l c sh k))∧Hid (zz W w.heap.size w2.heap.size (.slice a2 m c2) sh)∧Hid (Bk g w W)) (fun s _=>m - (intOf s).toNat)
  case atStart=>exact ⟨0,rfl,Nat.zero_le _,HR2,HS2,HK2⟩
  case round =>
   obtain ⟨k,rfl,hk,HR,HS,HK⟩:=hrel;by_cases hlt:k < m
   ·obtain ⟨g',cap',e',hb1',hd1',hgs,hc1,hc2,hx,hf⟩:=HS.out.get (i:=k) (by omega);simp only [Value.slice.injEq,hsl,true_and] at e';obtain ⟨rfl,rfl⟩:=e';obtain ⟨g3,cap3,e3,hb3,hd3,hgs3,hc3,hc4,hy,hfy⟩:=HR.out.get (i:=c+k) (by rw [z4u];omega);simp only [Value.slice.injEq,Option.some.injEq,Addr.mk.injEq,and_true] at e3;obtain ⟨rfl,_,rfl⟩:=e3;have hyv:=z6T l c sh (i:=c+k) k (fun j hj=>by omega);rw [hyv] at hy;have hbx:=hb (c+k) (by omega);have hbs:=HSB.out k (by omega);have HN:=Hd (HR.out.set (i:=c+k) (by rw [z4u];omega) (l.getD (c+k) 0+sh.getD k 0));have HN2:Hid (z3c l c sh (k+1)=(z3c l c sh k).set (c+k) (l.getD (c+k) 0+sh.getD k 0)):=rfl;rw [← HN2.out] at HN;generalize l.getD (c+k) 0=z at hy hbx HN;generalize sh.getD k 0=q at hx hbs HN;unfold maxLen at hc2 hc4;clear hyv HN2;go_wp2;go_roundw
    case rel=>exact ⟨k+1,by go_num,by omega,HN.out,HS.out.kept (fun j h0 h1 h2=>Below.heap_setCell _ _ _ _ (by show j ≠ g;omega)),HK.out.set (.inl rfl) _⟩
    case measure=>simp [intOf];omega
   ·obtain rfl:k=m:=by omega
    go_wp2
    go_end0
    exact ⟨rfl,by rw [HV.out];exact HR.out,HK.out⟩
theorem zc9 (s:ByteArray) (hs:s.size≤maxLen) (w:World):Calls Tryz.prog 138 #[.string s] w fun e w'=>e=.returned (.int .i64 (z4w s))∧w'=w:=by
 unfold z4w;have hm:=hs;unfold maxLen at hm
 cases hok:z00 s
 all_goals
  go_enter Tryz.func138,Tryz.ntmps138;go_wp2_with (go_at_call 42;refine (z1H _ _ hs).mono ?_;rintro e w' ⟨rfl,rfl⟩;rw [hok])
  go_ret;exact ⟨rfl,rfl⟩
theorem z3n (ac ar:Option Addr) (cc cr:Nat) (t:T) (width:Int) (w:World) {z:Nat} (hc:zX w z (.slice ac t.cols.length cc) t.cols) (hr:zT w z (.slice ar t.rows.length cr) t.rows) :
  Calls Tryz.prog 44 #[.agg #[.slice ac t.cols.length cc,.int .i64 t.head,.int .i64 t.foot,.slice ar t.rows.length cr,.int .i64 t.gap],.int .i64 width] w fun e w'=>e=.returned (.bool (zr t && inB width 0 300))∧Below w.heap.size w w':=by
 have K0:=ze (Below.refl w.heap.size w) (.cells #[.slice ac t.cols.length cc,.int .i64 t.head,.int .i64 t.foot,.slice ar t.rows.length cr,.int .i64 t.gap] 33);have KT:=Hd (z32 ac ar cc cr t _ (hc.kept K0) (hr.kept K0));have HK0:=Hd K0;have HI:=Hd (zw width 0 300);clear hc hr K0
 cases htk:zr t with
 | false =>
  rw [htk] at KT;clear htk;go_enter Tryz.func44,Tryz.ntmps44;go_wp2_with fail
  refine KT.out.mono ?_;rintro e w1 ⟨rfl,hb1⟩;have HK1:=Hd (zh HK0.out hb1);clear hb1 KT HK0;go_wp2;go_ret;exact ⟨rfl,HK1.out⟩
 | true =>
  rw [htk] at KT;clear htk;go_enter Tryz.func44,Tryz.ntmps44;go_wp2_with fail
  refine KT.out.mono ?_;rintro e w1 ⟨rfl,hb1⟩;have HK1:=Hd (zh HK0.out hb1);clear hb1 KT HK0;go_wp2_with fail
  refine (HI.out _).mono ?_;rintro e w2 ⟨rfl,rfl⟩;go_wp2;go_ret;exact ⟨by simp,HK1.out⟩
end
section
open Go.RowKit
section
variable {P:Program} {ops:Array Oper} {C:World→Prop}
def z0K (n:Nat):Nat→Array Bool
 | 0=>Array.replicate n false
 | k+1=>(z0K n k).setIfInBounds k true
def z71 (P:Program) (ops:Array Oper) (C:World→Prop) (Q:Exit→Act→World→Prop) (z:Nat):Nat→Array Bool→Act→Prop
 | 0,_,_=>False
 | fuel+1,listed,a=>Region.ready .any ops listed ≠ []∧∀ i ∈ Region.ready .any ops listed,if i=z then (∀ w,C w→wpOp P ops Q z (wpAny P .any ops Q fuel (listed.setIfInBounds z true)) a w) else qOp P ops C i (z71 P ops C Q z fuel (listed.setIfInBounds i true)) a
theorem z8N {Q:Exit→Act→World→Prop} {z:Nat}:∀ (fuel:Nat) (listed:Array Bool) (a:Act) (w:World),C w→z71 P ops C Q z fuel listed a→wpAny P .any ops Q fuel listed a w
 | 0,_,_,_,_,h=>h.elim
 | fuel+1,listed,a,w,hw,h=>⟨fun h0=>absurd h0 h.1,fun i hi=>by
   have h2:=h.2 i hi;by_cases hz:i=z
   ·rw [if_pos hz] at h2;subst hz;exact h2 w hw
   ·rw [if_neg hz] at h2;exact wpOp_of_qOp hw (fun a' w' hw'=>z8N fuel _ a' w' hw') h2⟩
theorem zbD {Q:Exit→Act→World→Prop} {z i:Nat} {oi:Oper} {v:Value} (hs:z6j ops z=true) (hi:ops[i]?=some oi) (hiz:i < z) (hsel:∀ (j:Nat) (o:Oper) cs b,ops[j]?=some o→o.op ≠ .select cs b) :
  ∀ (fuel:Nat) (listed:Array Bool) (a:Act),z2s ops (fun k=>listed.getD k false) →
   (∀ j oj,ops[j]?=some oj→j ≠ i→listed.getD j true=false→(∀ e ∈ oj.after,Region.binds .any e=true→e.on ≠ i)→oi.apart ops oj=true) →
   i ∈ Region.ready .any ops listed→YieldsIn P ops C oi v a →
   z71 P ops C Q z fuel (listed.setIfInBounds i true) (a.put oi.dst v)→z71 P ops C Q z (fuel+1) listed a:=by
 intro fuel
 induction fuel with
 | zero=>intro listed a _ _ _ _ H;exact H.elim
 | succ fuel ih =>
  intro listed a hcl hfree hr hy H;refine ⟨fun h=>(by rw [h] at hr;cases hr),fun j hj=>?_⟩;by_cases hji:j=i
  ·rw [if_neg (by omega)];subst hji;exact hy.qOp hi H
  ·have hjz:j ≠ z:=fun e=>by
    subst e;obtain ⟨_,o,ho,ha⟩:=mem_ready.1 hj;have h1:=z6Y hs hcl ho ha _ i (Nat.le_refl _) hiz;have h0:=(mem_ready.1 hr).1
    rcases Nat.lt_or_ge i listed.size with h' | h'
    ·simp [h'] at h0 h1;rw [h0] at h1;cases h1
    ·simp [Array.getElem?_eq_none h'] at h1
   rw [if_neg hjz];have h1:=H.2 j (ready_mono hj hji);rw [if_neg hjz] at h1;obtain ⟨hjun,oj,hoj,hall⟩:=mem_ready.1 hj
   have hnot:∀ e ∈ oj.after,Region.binds .any e=true→e.on ≠ i:=fun e he hb heq=>by
    have h1:=hall e he hb;have h0:=(mem_ready.1 hr).1;rw [heq] at h1
    rcases Nat.lt_or_ge i listed.size with h' | h'
    ·simp [h'] at h0 h1;rw [h0] at h1;cases h1
    ·simp [Array.getElem?_eq_none h'] at h1
   have h2:=qOp_put hoj (hfree j oj hoj hji hjun hnot) (fun cs b=>hsel i oi cs b hi) (fun cs b=>hsel j oj cs b hoj) hy h1
   have hfree':∀ k ok,ops[k]?=some ok→k ≠ i→(listed.setIfInBounds j true).getD k true=false →
     (∀ e ∈ ok.after,Region.binds .any e=true→e.on ≠ i)→oi.apart ops ok=true:=fun k ok hk hki hun hno=>by
    refine hfree k ok hk hki ?_ hno;by_cases hjk:j=k
    ·subst hjk;exact hjun
    ·rw [getD_set_ne true hjk] at hun;exact hun
   refine qOp_mono (fun a' h3=>ih (listed.setIfInBounds j true) a' (z4O hcl hj) hfree' (ready_mono hr (Ne.symm hji)) h3.1 ?_) h2;rw [Array.setIfInBounds_comm _ _ hji];exact h3.2
theorem z8O {Q:Exit→Act→World→Prop} {n z f:Nat} (hns:Region.noSelect ops=true) (hs:z6j ops z=true) (hz:Region.ready .any ops (z0K n z)=[z]):∀ (l:List Oper) (k:Nat) (a:Act),k+l.length=z→(∀ j,j < l.length→l[j]?=ops[k+j]?)→z2s ops (fun j=>(z0K n k).getD j false) →
  Region.lexFrom .any ops (l.length+(f+1)) k (z0K n k)=true→wpQuiet P ops C (fun a'=>∀ w',C w'→wpOp P ops Q z (wpAny P .any ops Q f (z0K n (z+1))) a' w') l a→z71 P ops C Q z (l.length+(f+1)) (z0K n k) a
 | [],k,a,hk,_,_,_,h=>by
  have hk':k=z:=(by simpa using hk);subst hk';rw [List.length_nil,Nat.zero_add];refine ⟨by rw [hz];simp,fun i hi=>?_⟩;rw [hz] at hi;have hik:i=k:=(by simpa using hi);rw [if_pos hik];exact h
 | o :: l,k,a,hk,hl,hcl,hB,h=>by
  have h0:ops[k]?=some o:=(by simpa using (hl 0 (by simp)).symm);simp only [List.length_cons] at hk hB ⊢;rw [show l.length+1+(f+1)=(l.length+(f+1))+1 by omega] at hB ⊢;rw [Region.lexFrom] at hB;simp only [Bool.and_eq_true] at hB;obtain ⟨⟨hr,hf⟩,hB'⟩:=hB;have hr':k ∈ Region.ready .any ops (z0K n k):=(by simpa using hr);have hst:qOp P ops C k (wpQuiet P ops C (fun a'=>∀ w',C w'→wpOp P ops Q z (wpAny P .any ops Q f (z0K n (z+1))) a' w') l) a:=(by unfold qOp;simp only [h0];exact h);obtain ⟨v,hy,hK⟩:=yieldsIn_of_qOp h0 hst
  exact zbD hs h0 (by omega) (Region.noSelect_spec hns) (l.length+(f+1)) (z0K n k) a hcl (Region.free_spec h0 hf) hr' hy
   (z8O hns hs hz l (k+1) _ (by omega) (fun j hj=>by have:=hl (j+1) (by simpa using hj);simpa [Nat.add_assoc,Nat.add_comm 1 j] using this) (z4O hcl hr') hB' hK)
end
theorem z9f {P:Program} {id:Nat} {Q:Exit→Act→World→Prop} {a:Act} {w:World} {l:List Oper} (n f:Nat) {o:Oper} (hm:P.follows .mixedOrders=true) (hl:l.length=n+(f+1)) (ho:l[n]?=some o) (hB:Region.lexB .any l.toArray=true) (hs:z6j l.toArray n=true) (hz:Region.ready .any l.toArray (z0K (n+(f+1)) n)=[n])
  (h:wpQuiet P l.toArray (fun w'=>∃ p:BW w,w'=p.u) (fun a'=>∀ w',(∃ p:BW w,w'=p.u)→if Region.wanted o (yielded l.toArray a'.tmps)=true then o.wp P a' w' (wpAny P .any l.toArray Q f (z0K (n+(f+1)) (n+1))) Q else wpAny P .any l.toArray Q f (z0K (n+(f+1)) (n+1)) (a'.put o.dst undef) w') (l.take n) a):(Code.region id l.toArray true).wp P Q a w:=by
 simp only [Region.lexB,Bool.and_eq_true] at hB;have hlt:(l.take n).length=n:=(by rw [List.length_take];omega);refine wp_region_any hm (z8N (C:=fun w'=>∃ p:BW w,w'=p.u) (z:=n) _ _ _ _ ⟨⟨_,z1U (Below.refl _ _)⟩,rfl⟩ ?_)
 have hcv:∀ a',(∀ w',(∃ p:BW w,w'=p.u)→if Region.wanted o (yielded l.toArray a'.tmps)=true then o.wp P a' w' (wpAny P .any l.toArray Q f (z0K (n+(f+1)) (n+1))) Q else wpAny P .any l.toArray Q f (z0K (n+(f+1)) (n+1)) (a'.put o.dst undef) w')→∀ w',(∃ p:BW w,w'=p.u)→wpOp P l.toArray Q n (wpAny P .any l.toArray Q f (z0K (n+(f+1)) (n+1))) a' w':=by
  intro a' hR w' hw';have h1:=hR w' hw';unfold wpOp;rw [show l.toArray[n]?=some o by simpa using ho];dsimp only
  split
  ·rename_i hw;rw [if_pos hw] at h1;exact .inl h1
  ·rename_i hw;rw [if_neg hw] at h1;exact h1
 have hmono:∀ (q:List Oper) (b:Act),wpQuiet P l.toArray (fun w'=>∃ p:BW w,w'=p.u) (fun a'=>∀ w',(∃ p:BW w,w'=p.u)→if Region.wanted o (yielded l.toArray a'.tmps)=true then o.wp P a' w' (wpAny P .any l.toArray Q f (z0K (n+(f+1)) (n+1))) Q else wpAny P .any l.toArray Q f (z0K (n+(f+1)) (n+1)) (a'.put o.dst undef) w') q b→wpQuiet P l.toArray (fun w'=>∃ p:BW w,w'=p.u) (fun a'=>∀ w',(∃ p:BW w,w'=p.u)→wpOp P l.toArray Q n (wpAny P .any l.toArray Q f (z0K (n+(f+1)) (n+1))) a' w') q b:=by
  intro q
  induction q with
  | nil=>intro b hb;exact hcv b hb
  | cons o q ih =>
   intro b hb;simp only [wpQuiet] at hb ⊢
   split
   ·rename_i hw;rw [if_pos hw] at hb;exact Oper.quiet_mono ih hb
   ·rename_i hw;rw [if_neg hw] at hb;exact ih _ hb
 have:=z8O (P:=P) (Q:=Q) (n:=n+(f+1)) (f:=f) (C:=fun w'=>∃ p:BW w,w'=p.u) hB.1 hs hz (l.take n) 0 a (by omega) (fun j hj=>by rw [hlt] at hj;simp [hj]) (fun j i _ _=>by
  show (Array.replicate (n+(f+1)) false).getD j false=false;rw [Array.getD_eq_getD_getElem?,Array.getElem?_replicate]
  split <;> rfl) (by rw [hlt];have h9:=hB.2;rw [show l.toArray.size=n+(f+1) by simpa using hl] at h9;exact h9) (hmono _ _ h)
 rw [hlt] at this;rw [show l.toArray.size=n+(f+1) by simpa using hl];exact this
end
section
open Go.RowKit
def z2k (w:World) (gb:Nat) (bl:List Bool):Prop:=∃ bs,w.heap[gb]?=some (.cells bs 4)∧bs.size=bl.length∧∀ i,i < bl.length→bs[i]?=some (.bool (bl.getD i false))
theorem z2k.get {w:World} {gb:Nat} {bl:List Bool} (h:z2k w gb bl) {i:Nat} (hi:i < bl.length):w.cell? ⟨gb,i,none⟩=some (.bool (bl.getD i false))∧w.frozen? ⟨gb,i,none⟩=false:=by
 obtain ⟨bs,h1,h2,h3⟩:=h;exact ⟨(zf h1).trans (h3 i hi),zx h1⟩
theorem z2k.kept {w w':World} {gb:Nat} {bl:List Bool} (h:z2k w gb bl) (hb:w'.heap[gb]?=w.heap[gb]?):z2k w' gb bl:=by
 obtain ⟨bs,h1,h2⟩:=h;exact ⟨bs,hb.trans h1,h2⟩
theorem z2k.set {w:World} {gb:Nat} {bl:List Bool} (h:z2k w gb bl) (i:Nat) (hi:i < bl.length) (x:Bool):z2k (w.setCell ⟨gb,i,none⟩ (.bool x)) gb (bl.set i x):=by
 obtain ⟨bs,h1,h2,h3⟩:=h;refine ⟨_,z06 h1 _,by simpa using h2,fun j hj=>?_⟩;rw [List.length_set] at hj;by_cases e:i=j
 ·subst e;simp [List.getD,hj,show i < bs.size by omega]
 ·rw [Array.getElem?_setIfInBounds_ne e,h3 j hj];simp [List.getD,e]
structure Q4 (w W:World) (v5 v8 v9:Value) (gb:Nat) (u lo lr:List Int) (bl:List Bool):Prop where
 o5:W.ownsRow w.heap.size 3 1 v5 u.length (u.map (Value.int .i64))
 o8:W.ownsRow w.heap.size 3 1 v8 lo.length (lo.map (Value.int .i64))
 o9:W.ownsRow w.heap.size 3 1 v9 lr.length (lr.map (Value.int .i64))
 bo:z2k W gb bl
 hb:w.heap.size≤gb
 n58:v5.ownBlock ≠ v8.ownBlock
 n59:v5.ownBlock ≠ v9.ownBlock
 n89:v8.ownBlock ≠ v9.ownBlock
 nb5:v5.ownBlock ≠ some gb
 nb8:v8.ownBlock ≠ some gb
 nb9:v9.ownBlock ≠ some gb
 below:Below w.heap.size w W
theorem z2k.lt {w:World} {gb:Nat} {bl:List Bool} (h:z2k w gb bl):gb < w.heap.size:=by
 obtain ⟨bs,h1,_⟩:=h;exact (bL h1)
theorem Q4.alloc {w W:World} {v5 v8 v9:Value} {gb:Nat} {u lo lr:List Int} {bl:List Bool} (h:Q4 w W v5 v8 v9 gb u lo lr bl) (o:Obj):Q4 w (W.alloc o) v5 v8 v9 gb u lo lr bl :=
 { h with o5:=h.o5.alloc o,o8:=h.o8.alloc o,o9:=h.o9.alloc o,bo:=h.bo.kept (Below.heap_alloc _ _ _ h.bo.lt),below:=h.below.alloc h.below.size o }
theorem Q4.drewN {w W:World} {v5 v8 v9:Value} {gb:Nat} {u lo lr:List Int} {bl:List Bool} (h:Q4 w W v5 v8 v9 gb u lo lr bl) (n:Nat):Q4 w (W.drewN n) v5 v8 v9 gb u lo lr bl :=
 { h with o5:=h.o5,o8:=h.o8,o9:=h.o9,bo:=h.bo.kept rfl,below:=z8U h.below n }
theorem z7P {w:World} {v:Value} {B n:Nat} {e:TypeId} {xs:List Value} (h:w.ownsRow B e 1 v n xs) (k:Nat) (hk:w.heap.size≤k):v.ownBlock ≠ some k:=fun e=>by have:=(h.lt k e).2;omega
def z8Q (n:Nat):Array Value:=madeCells (Value.bool false).cells (n * 1)
theorem zeT (w:World) (n:Nat):z2k (w.alloc (.cells (z8Q n) 4)) w.heap.size (List.replicate n false):=by
 refine ⟨z8Q n,zl _ _,by rw [z8Q,size_madeCells];simp,fun i hi=>?_⟩;rw [List.length_replicate] at hi;unfold z8Q;rw [Nat.mul_one,← Array.getElem?_toList,show (Value.bool false).cells=#[Value.bool false] from rfl,toList_madeCells_one];simp [List.getD,hi]
theorem Q4.start {w W:World} {g5 n c5:Nat} {u:List Int} (h5:W.ownsRow w.heap.size 3 1 (.slice (some ⟨g5,0,none⟩) n c5) u.length (u.map (Value.int .i64))) (hb:Below w.heap.size w W) (m:Nat) :
  Q4 w (((W.alloc (.cells #[] 3)).alloc (.cells #[] 3)).alloc (.cells (z8Q m) 4)) (.slice (some ⟨g5,0,none⟩) n c5) (.slice (some ⟨W.heap.size,0,none⟩) 0 0) (.slice (some ⟨W.heap.size+1,0,none⟩) 0 0) (W.heap.size+2) u [] [] (List.replicate m false) where
 o5:=((h5.alloc _).alloc _).alloc _
 o8:=((World.ownsRow_made (base:=w.heap.size) (e:=3) (size:=1) W #[] 0 hb.size (Nat.zero_le _) rfl).alloc _).alloc _
 o9:=by
  have:=World.ownsRow_made (base:=w.heap.size) (e:=3) (size:=1) (W.alloc (.cells #[] 3)) #[] 0 (by have:=hb.size;simp;omega) (Nat.zero_le _) rfl;have e:(W.alloc (.cells #[] 3)).heap.size=W.heap.size+1:=(by simp);rw [e] at this;exact this.alloc _
 bo:=by
  have:=zeT ((W.alloc (.cells #[] 3)).alloc (.cells #[] 3)) m;have e:((W.alloc (.cells #[] 3)).alloc (.cells #[] 3)).heap.size=W.heap.size+2:=(by simp);rw [e] at this;exact this
 hb:=by have:=hb.size;omega
 n58:=z7P h5 _ (Nat.le_refl _)
 n59:=z7P h5 (W.heap.size+1) (by omega)
 n89:=fun e=>by simp [Value.ownBlock] at e
 nb5:=z7P h5 (W.heap.size+2) (by omega)
 nb8:=fun e=>by simp [Value.ownBlock] at e
 nb9:=fun e=>by simp [Value.ownBlock] at e
 below:=ze (ze (ze hb _) _) _
def hsB (hs:List Int):Bool:=hs.all (fun h=>inB h 0 100)
def z4d (t:T) (width:Int) (hs:List Int):Bool:=(zr t && inB width 0 300) && (inB hs.length 1 60 && hsB hs)
theorem zhP {hs:List Int} {k:Nat} (hk:k < hs.length) (h:inB (hs.getD k 0) 0 100=false):hsB hs=false:=by
 rw [hsB,List.all_eq_false];refine ⟨hs[k],List.getElem_mem hk,?_⟩;have e:hs.getD k 0=hs[k]:=(by simp [List.getD,hk]);rw [e] at h;simp [h]
theorem zhl {hs:List Int} (h:∀ i,i < hs.length→inB (hs.getD i 0) 0 100=true):hsB hs=true:=by
 rw [hsB,List.all_eq_true];intro x hx;obtain ⟨i,hi,rfl⟩:=List.mem_iff_getElem.1 hx;have:=h i hi
 simpa [List.getD,hi] using this
theorem zhm {hs:List Int} {k:Nat} (h:∀ i,i < k→inB (hs.getD i 0) 0 100=true) (hk:inB (hs.getD k 0) 0 100=true):∀ i,i < k+1→inB (hs.getD i 0) 0 100=true:=fun i hi=>by
 rcases Nat.lt_or_eq_of_le (Nat.lt_succ_iff.1 hi) with h1 | rfl
 ·exact h i h1
 ·exact hk
theorem zeW (ac ar:Option Addr) (cc cr:Nat) (t:T) (width:Int) (vh:Value) (hs:List Int) (w:World) {z:Nat} (hc:zX w z (.slice ac t.cols.length cc) t.cols) (hr:zT w z (.slice ar t.rows.length cr) t.rows) (hh:zH w vh hs) :
  Calls Tryz.prog 36 #[.agg #[.slice ac t.cols.length cc,.int .i64 t.head,.int .i64 t.foot,.slice ar t.rows.length cr,.int .i64 t.gap],.int .i64 width,vh] w fun e w'=>e=.returned (.bool (z4d t width hs))∧Below w.heap.size w w':=by
 obtain ⟨ah,ch,rfl,hlen⟩:=hh.form;have K0:=ze (Below.refl w.heap.size w) (.cells #[.slice ac t.cols.length cc,.int .i64 t.head,.int .i64 t.foot,.slice ar t.rows.length cr,.int .i64 t.gap] 33);have KM:=Hd (z3n ac ar cc cr t width _ (hc.kept K0) (hr.kept K0));have HK0:=Hd K0;have HI:=Hd (zw (hs.length:Int) 1 60);have HH:=Hd hh;have HV:Hid (z4d t width hs=((zr t && inB width 0 300) && (inB hs.length 1 60 && hsB hs))):=rfl;clear hc hr K0 hh;generalize (zr t && inB width 0 300)=m at KM HV
 cases m with
 | false =>
  rw [HV.out];go_enter Tryz.func36,Tryz.ntmps36;go_wp2_with fail
  refine KM.out.mono ?_;rintro e w1 ⟨rfl,hb1⟩;have HK1:=Hd (zh HK0.out hb1);clear hb1 KM HK0 HV;go_wp2;go_ret;exact ⟨rfl,HK1.out⟩
 | true =>
  generalize inB (hs.length:Int) 1 60=n at HI HV
  cases n with
  | false =>
   rw [HV.out];go_enter Tryz.func36,Tryz.ntmps36;go_wp2_with fail
   refine KM.out.mono ?_;rintro e w1 ⟨rfl,hb1⟩;have HK1:=Hd (zh HK0.out hb1);clear hb1 KM HK0 HV;go_wp2_with fail
   refine (HI.out _).mono ?_;rintro e w2 ⟨rfl,rfl⟩;go_wp2;go_ret;exact ⟨rfl,HK1.out⟩
  | true =>
   have HW:Hid (z4d t width hs=hsB hs):=(by rw [Hid,HV.out];rfl);clear HV;go_enter Tryz.func36,Tryz.ntmps36;go_wp2_with fail
   refine KM.out.mono ?_;rintro e w1 ⟨rfl,hb1⟩;have HK1:=Hd (zh HK0.out hb1);clear hb1 KM HK0;go_wp2_with fail
   refine (HI.out _).mono ?_;rintro e w2 ⟨rfl,rfl⟩;clear HI;have H2:=Hd (HH.out.kept HK1.out);go_wp2_with fail
   go_loop [21] (fun i=>∃ k:Nat,k≤hs.length∧i=.int .i64 k∧Hid (∀ i,i < k→inB (hs.getD i 0) 0 100=true)) (fun i=>hs.length - (intOf i).toNat)
   case atStart=>exact ⟨0,Nat.zero_le _,rfl,fun i hi=>absurd hi (Nat.not_lt_zero _)⟩
   case round =>
    obtain ⟨k,hk,rfl,HA⟩:=hrel;by_cases hlt:k < hs.length
    ·obtain ⟨b,off,cap',e',hc1,hc2,hbl,hx⟩:=H2.out.get hlt;simp only [Value.slice.injEq,true_and] at e';obtain ⟨rfl,rfl⟩:=e';unfold maxLen at hc2;have HN:=Hd (fun h=>zhP hlt h);have HY:=Hd (fun h=>zhm HA.out h);generalize hs.getD k 0=x at hx HN HY;have HX:=Hd (zw x 0 100);go_wp2_with fail
     refine (HX.out _).mono ?_
     cases hin:inB x 0 100 with
     | false =>
      have HF:=Hd (HN.out hin);rintro e w3 ⟨rfl,rfl⟩;clear hin;go_wp2;go_ret;exact ⟨by rw [HW.out,HF.out];rfl,HK1.out⟩
     | true =>
      have HF:=Hd (HY.out hin);rintro e w3 ⟨rfl,rfl⟩;clear hin;go_wp2
      go_round
      case rel=>exact ⟨k+1,by omega,by go_num,HF⟩
      case measure=>simp [intOf];omega
    ·obtain rfl:k=hs.length:=by omega
     have HF:=Hd (zhl HA.out);go_wp2;go_ret;exact ⟨by rw [HW.out,HF.out];rfl,HK1.out⟩
def z4S (row:Int) (ps:List PgS) (k:Nat):Bool:=z1a row (ps.take k)
theorem z8R (row:Int) (ps:List PgS):z4S row ps 0=false:=by simp [z4S,z1a]
theorem zdw {row:Int} {ps:List PgS} {k:Nat} (h:k < ps.length):z4S row ps (k+1)=(z4S row ps k || (ps.getD k dP).r == row):=by
 have e:ps.getD k dP=ps[k]:=(by simp [List.getD,h]);unfold z4S z1a;rw [List.take_succ_eq_append_getElem h,List.any_append,e];simp
theorem zf3 (row:Int) (ps:List PgS):z4S row ps ps.length=z1a row ps:=by rw [z4S,List.take_length]
theorem zcg {pss:List (List PgS)} {row:Int} {i:Nat} (hi:i < pss.length):(z1a row (pss.getD i [])=true→¬ z15 pss row < 0∧¬ (i:Int) < z15 pss row)∧(z1a row (pss.getD i [])=false→¬ z15 pss row=(i:Int)):=by
 have e:pss.getD i []=pss[i]:=(by simp [List.getD,hi]);rw [e];unfold z15
 cases hf:pss.findIdx? (z1a row) with
 | none =>
  rw [List.findIdx?_eq_none_iff] at hf;have:=hf pss[i] (List.getElem_mem hi);refine ⟨fun h=>?_,fun _=>?_⟩
  ·rw [h] at this
   cases this
  ·show ¬ (-1:Int)=(i:Int);omega
 | some k =>
  rw [List.findIdx?_eq_some_iff_getElem] at hf;obtain ⟨hk,h1,h2⟩:=hf;simp only;refine ⟨fun h=>⟨by omega,fun hlt=>?_⟩,fun h hki=>?_⟩
  ·exact absurd h (h2 i (by omega))
  ·obtain rfl:k=i:=by omega
   rw [h] at h1
   cases h1
def z6m (x:PgS):List Value:=[.int .i64 x.r,.int .i64 x.f,.int .i64 x.t]
theorem zhS:(Tryz.prog.info? 29).map (fun i=>(i.zero,i.size,i.bytes))=some (some (Value.agg #[.int .i64 0,.int .i64 0,.int .i64 0]),3,24):=by kernel_rfl
def z3X (w:World) (base:Nat) (v:Value) (l:List PgS):Prop:=w.ownsRow base 29 3 v l.length (l.flatMap z6m)
theorem z3X.bk {r:Nat} {w w':World} {base:Nat} {v:Value} {l:List PgS} (h:z3X w base v l) (k:Bk r w w') (hr:r < base):z3X w' base v l :=
 ⟨h.1,h.2.elim Or.inl (fun ⟨g,cap,cur,hv,hg,hc,q⟩=>Or.inr ⟨g,cap,cur,hv,hg,(k.block g (bL hc) (by omega)).trans hc,q⟩)⟩
theorem z3X.at {w:World} {base:Nat} {v:Value} {l:List PgS} (h:z3X w base v l):z2p w base v l:=by
 rcases h.2 with ⟨rfl,hn⟩ | ⟨g,cap,cur,rfl,hg,hc,h3,h4,_⟩
 ·exact ⟨none,0,by rw [hn],by omega,by unfold maxLen;omega,fun i hi=>by omega⟩
 ·refine ⟨_,cap,rfl,h3,h4,fun i hi=>⟨g,0,rfl,(bL hc),hg,?_⟩⟩
  have hx:∀ j,j < 3→w.cell? ⟨g,i * 3+j,none⟩=(z6m l[i])[j]?:=fun j hj=>by
   have e:=z2U z6m 3 (fun _=>rfl) l i hi j hj;rw [z2V h (u:=(z6m l[i])[j]'(by show j < 3;exact hj)) (by rw [e];simp)];simp
  have e:l.getD i dP=l[i]:=(by simp [List.getD,hi]);dsimp only;rw [e,Nat.zero_add];exact ⟨hx 0 (by omega),hx 1 (by omega),hx 2 (by omega)⟩
theorem zf4 {w w3 w4:World} {r B:Nat} {l:List PgS} {x:PgS} {o v':Value} {T:TypeId} {arr:Array Value} (hr:r < w.heap.size) (hO:z3X w3 w.heap.size o l) (hR:Rd w3 r B) (hB:Bk r w w3)
  (hg:(w3.alloc (.cells arr T)).grownBy w4 o.ownBlock) (hown:w4.ownsRow w.heap.size 29 3 v' (l.length+1) (l.flatMap z6m ++ z6m x)) :
  Rd w4 r B∧Bk r w w4∧z3X w4 w.heap.size v' (l ++ [x]):=by
 have hlt:=hR.lt;have hA:=hB.alloc (.cells arr T);refine ⟨?_,?_,by unfold z3X;rw [List.length_append,List.flatMap_append];simpa using hown⟩
 ·refine (hR.alloc (.cells arr T)).keep (fun k hk=>hg.block k (by simp;omega) (fun hb=>?_));have:=(hO.lt k hb.symm).1;omega
 ·refine ⟨hg.os.trans hA.os,hg.tape.trans hA.tape,hg.output.trans hA.output,Nat.le_trans hA.size hg.size,fun k hk hkr=>(hg.block k (Nat.lt_of_lt_of_le hk hA.size) (fun hb=>?_)).trans (hA.block k hk hkr)⟩;have:=(hO.lt k hb.symm).1;omega
def z60 (x:PgS):Prop:=(0≤x.r∧x.r≤4)∧0≤x.f∧x.f≤x.t∧x.t≤7
theorem zap (r B:Nat) (w:World) (h:Rd w r B) (hB:B≤1000) :
  Calls Tryz.prog 67 #[.pointer (some ⟨r,0,none⟩)] w fun e w'=>∃ (v:Value) (l:List PgS),e=.returned v∧l.length≤4∧(∀ x ∈ l,z60 x)∧z3X w' w.heap.size v l∧Rd w' r (B+20)∧Bk r w w':=by
 obtain ⟨i0,hi,hz0,hz1,hz2⟩:=info_parts zhS;have hr:=h.lt;have H:=Hd h;clear h;go_enter Tryz.func67,Tryz.ntmps67;go_wp2_with fail
 refine (zj _ B _ _ (H.out.alloc _) (by omega)).mono ?_;rintro e w2 ⟨m0,rfl,hm0,hR2,hb2⟩;obtain ⟨m1,m2⟩:=hm0 (by omega);obtain ⟨M,rfl⟩:=Int.eq_ofNat_of_zero_le m1;have O2:Hid (z3X w2 w.heap.size (.slice (some ⟨w.heap.size,0,none⟩) 0 0) []):=z3X.bk (l:=[]) (World.ownsRow_made (base:=w.heap.size) (e:=29) (size:=3) w #[] 0 (Nat.le_refl _) (Nat.zero_le _) rfl) hb2 hr;have R2:=Hd hR2;have K2:=Hd (((Bk.refl r w).alloc (.cells #[] 29)).trans hb2);clear hR2 hb2 hm0 m1;go_wp2_with fail
 go_loopw [3,4] (fun o q W=>∃ (m:Nat) (l:List PgS),q=.int .i64 m∧m+l.length≤4∧Hid (∀ x ∈ l,z60 x)∧Hid (z3X W w.heap.size o l)∧Hid (Rd W r (B+1+4 * l.length))∧Hid (Bk r w W)) (fun _ q _=>(intOf q).toNat)
 case atStart=>exact ⟨M,[],rfl,by simp;omega,fun x hx=>(by cases hx),O2.out,R2.out,K2.out⟩
 case round =>
  obtain ⟨m,l,rfl,hms,HS,HO,HR,HB⟩:=hrel;by_cases hm:0 < m
  ·have hm':(0:Int) < (m:Int):=(by omega);obtain ⟨oa,oc,rfl,_⟩:=z02 HO.out;go_wp2_with fail
   refine (zj _ _ _ _ HR.out (by omega)).mono ?_;rintro e w4 ⟨x,rfl,hk7,hR4,hb4⟩;obtain ⟨xa,xb⟩:=hk7 (by omega);have HR4:=Hd hR4;have HK4:=Hd hb4;clear hb4 hk7 hR4;go_wp2_with fail
   refine (zj _ _ _ _ HR4.out (by omega)).mono ?_;rintro e w5 ⟨y,rfl,hk7,hR5,hb5⟩;obtain ⟨ya,yb⟩:=hk7 (by omega);have HR5:=Hd hR5;have HK5:=Hd (HK4.out.trans hb5);clear hb5 hk7 hR5 HR4 HK4;go_wp2_with fail
   refine (zj _ _ _ _ HR5.out (by omega)).mono ?_;rintro e w6 ⟨u,rfl,hk7,hR6,hb6⟩;obtain ⟨ua,ub⟩:=hk7 (by omega);have hK6:=HK5.out.trans hb6;have hO6:=HO.out.bk hK6 hr;have hB6:=HB.out.trans hK6;have hsz:=hB6.size;clear hb6 hk7 HR5 HK5 hK6;have hO6':w6.ownsRow w.heap.size 29 3 (.slice oa l.length oc) l.length (l.flatMap z6m):=hO6;go_wp2_with (at_builtin;refine wpList_append_own _ rfl _ _ 27 rfl w.heap.size 29 i0 _ 3 24 Tryz.underlying27 hi hz0 hz1 hz2 rfl (by decide) _ _ _ rfl (hO6'.alloc _) ⟨w6.heap.size,0,none⟩ 1 1 (z6m ⟨y,x,x+u⟩) rfl rfl (z1e (zl _ _)) (by simp [z6m,Value.oneCell']) (by unfold maxLen;omega) (by omega) (by simp;omega) ?_)
   intro v' w7 hown' hgrow' _;obtain ⟨hR7,hB7,hO7⟩:=zf4 (x:=⟨y,x,x+u⟩) hr hO6 hR6 hB6 hgrow' hown';have HR7:Hid (Rd w7 r (B+1+4 * (l ++ [(⟨y,x,x+u⟩:PgS)]).length)):=hR7.mono (by simp;omega);have HB7:=Hd hB7;have HO7:=Hd hO7
   have HS7:Hid (∀ p ∈ l ++ [(⟨y,x,x+u⟩:PgS)],z60 p):=fun p hp=>by
    rcases List.mem_append.1 hp with hp | hp
    ·exact HS.out p hp
    ·simp at hp;subst hp;exact ⟨⟨ya,by simp;omega⟩,xa,by simp;omega,by simp;omega⟩
   obtain ⟨g',cap',rfl⟩:=Joins.ownsRow_form hown' (by omega);clear hown' hgrow' hO6 hO6' hB6 hR6 hR7 hB7 hO7;have hms4:(m - 1)+(l ++ [(⟨y,x,x+u⟩:PgS)]).length≤4:=(by simp;omega);have hle:(l ++ [(⟨y,x,x+u⟩:PgS)]).length=l.length+1:=(by simp);have HL:=Hd hle;clear hle;generalize l ++ [(⟨y,x,x+u⟩:PgS)]=l2 at *;go_wp2;go_roundw
   case rel=>exact ⟨m - 1,l2,by go_num,hms4,HS7,by first | exact HO7 | (rw [← HL.out];exact HO7),HR7,HB7⟩
   case measure=>simp [intOf];omega
  ·obtain rfl:m=0:=by omega
   obtain ⟨aa,cc,rfl,_⟩:=z02 HO.out;have HR3:Hid (Rd wr r (B+20)):=HR.out.mono (by omega);go_wp2;go_ret;exact ⟨_,l,rfl,by omega,HS.out,HO.out,HR3.out,HB.out⟩
theorem zB.bk {r:Nat} {w w':World} {B:Nat} {us:List Value} {ls:List (List PgS)} (h:zB w B us ls) (k:Bk r w w') (hr:r < B):zB w' B us ls:=⟨h.1,fun i hi=>z3X.bk (h.2 i hi) k hr⟩
theorem zbJ {r:Nat} {w w':World} {base:Nat} {e:TypeId} {sz:Nat} {v:Value} {m:Nat} {xs:List Value} (h:w.ownsRow base e sz v m xs) (k:Bk r w w') (hr:r < base):w'.ownsRow base e sz v m xs :=
 ⟨h.1,h.2.elim Or.inl (fun ⟨g,cap,cur,hv,hg,hc,q⟩=>Or.inr ⟨g,cap,cur,hv,hg,(k.block g (bL hc) (by omega)).trans hc,q⟩)⟩
theorem zgi {w w3 w4:World} {r B:Nat} {us:List Value} {pss:List (List PgS)} {x:Value} {ps:List PgS} {o v':Value} {T:TypeId} {arr:Array Value} (hr:r < w.heap.size) (hO:w3.ownsRow w.heap.size 27 1 o us.length us) (hP:zB w3 w.heap.size us pss) (hx:z3X w3 w.heap.size x ps) (hR:Rd w3 r B) (hB:Bk r w w3)
  (hg:(w3.alloc (.cells arr T)).grownBy w4 o.ownBlock) (hown:w4.ownsRow w.heap.size 27 1 v' (us.length+1) (us ++ [x])) :
  Rd w4 r B∧Bk r w w4∧w4.ownsRow w.heap.size 27 1 v' (us ++ [x]).length (us ++ [x])∧zB w4 w.heap.size (us ++ [x]) (pss ++ [ps]):=by
 have hA:=hB.alloc (.cells arr T);have hOA:=World.ownsRow.alloc hO (.cells arr T);have KA:=ze (Below.refl w3.heap.size w3) (.cells arr T);refine ⟨?_,?_,by rw [List.length_append];exact hown,((hP.kept KA).grown hOA hg).app (zB.one (zS.grown (zS.kept hx KA) hOA hg))⟩
 ·refine (hR.alloc (.cells arr T)).keep (fun k hk=>hg.block k (by have:=hR.lt;simp;omega) (fun hb=>?_));have:=(World.ownsRow.lt hO k hb.symm).1;omega
 ·refine ⟨hg.os.trans hA.os,hg.tape.trans hA.tape,hg.output.trans hA.output,Nat.le_trans hA.size hg.size,fun k hk hkr=>(hg.block k (Nat.lt_of_lt_of_le hk hA.size) (fun hb=>?_)).trans (hA.block k hk hkr)⟩;have:=(World.ownsRow.lt hO k hb.symm).1;omega
def z9i (pss:List (List PgS)):Prop:=pss.length≤4∧∀ ps ∈ pss,ps.length≤4∧∀ x ∈ ps,z60 x
theorem z9j (A:Option Addr) (len cap:Nat) (w:World) (h:z1J w A len cap) :
  Calls Tryz.prog 33 #[.slice A len cap] w fun e w'=>∃ (v:Value) (pss:List (List PgS)) (row:Int),e=.returned (.tuple #[v,.int .i64 row])∧z9i pss∧z0H w' w.heap.size v pss∧Below w.heap.size w w':=by
 obtain ⟨i0,hi,hz0,hz1,hz2⟩:=info_parts z78;have HD:=Hd h;clear h;go_enter Tryz.func33,Tryz.ntmps33;go_wp2_with fail
 refine (zaL _ _ _ _ HD.out).mono ?_;rintro e w1 ⟨rfl,hR1,hb1⟩;have hlt1:=hR1.lt;have HB1:=Hd hb1;have hsz1:=hb1.size;clear hb1 HD;go_wp2_with fail
 refine (zj _ 0 _ _ (hR1.alloc _) (by omega)).mono ?_;rintro e w2 ⟨m0,rfl,hm0,hR2,hb2⟩;obtain ⟨m1,m2⟩:=hm0 (by omega);obtain ⟨M,rfl⟩:=Int.eq_ofNat_of_zero_le m1;have O2:Hid (w2.ownsRow w1.heap.size 27 1 (.slice (some ⟨w1.heap.size,0,none⟩) 0 0) 0 []):=zbJ (World.ownsRow_made (base:=w1.heap.size) (e:=27) (size:=1) w1 #[] 0 (Nat.le_refl _) (Nat.zero_le _) rfl) hb2 hlt1;have R2:=Hd hR2;have K2:=Hd (((Bk.refl w.heap.size w1).alloc (.cells #[] 27)).trans hb2);clear hR2 hb2 hm0 m1 hR1;go_wp2_with fail
 go_loopw [5,6] (fun o q W=>∃ (m:Nat) (us:List Value) (pss:List (List PgS)),q=.int .i64 m∧m+pss.length≤4∧us.length=pss.length∧Hid (∀ ps ∈ pss,ps.length≤4∧∀ x ∈ ps,z60 x)∧Hid (W.ownsRow w1.heap.size 27 1 o us.length us)∧Hid (zB W w1.heap.size us pss)∧Hid (Rd W w.heap.size (1+20 * pss.length))∧Hid (Bk w.heap.size w1 W)) (fun _ q _=>(intOf q).toNat)
 case atStart=>exact ⟨M,[],[],rfl,by simp;omega,rfl,fun x hx=>(by cases hx),O2.out,zB.nil _ _,R2.out,K2.out⟩
 case round =>
  obtain ⟨m,us,pss,rfl,hms,hul,HS,HO,HP,HR,HB⟩:=hrel;by_cases hm:0 < m
  ·have hm':(0:Int) < (m:Int):=(by omega);obtain ⟨oa,oc,rfl,_⟩:=z02 HO.out;have HU:=Hd hul;have hus4:us.length≤4:=(by omega);clear hul;go_wp2_with fail
   refine (zap _ _ _ HR.out (by omega)).mono ?_;rintro e w4 ⟨x,ps,rfl,hps4,hpsS,hx4,hR4,hb4⟩;have hsz:=HB.out.size;have hx4:=zS.base hx4 hsz;have hO4:=zbJ HO.out hb4 hlt1;have hP4:=HP.out.bk hb4 hlt1;have hB4:=HB.out.trans hb4;have hsz4:=hB4.size;have HSx:=Hd hpsS;obtain ⟨xa,xc,rfl,_⟩:=z02 hx4;clear hb4 hpsS;go_wp2_with (at_builtin;refine wpList_append_own _ rfl _ _ 23 rfl w1.heap.size 27 i0 _ 1 24 Tryz.underlying23 hi hz0 hz1 hz2 rfl (by decide) _ _ _ rfl (hO4.alloc _) ⟨w4.heap.size,0,none⟩ 1 1 [.slice xa ps.length xc] rfl rfl (z1e (zl _ _)) (by simp [Value.oneCell']) (by unfold maxLen;omega) (by omega) (by simp;omega) ?_)
   intro v' w7 hown' hgrow' _;have hul:=HU.out;obtain ⟨hR7,hB7,hO7,hP7⟩:=zgi hlt1 hO4 hP4 hx4 hR4 hB4 hgrow' hown';have hle:(us ++ [Value.slice xa ps.length xc]).length=us.length+1:=(by simp);have hlp:(pss ++ [ps]).length=pss.length+1:=(by simp);have HR7:Hid (Rd w7 w.heap.size (1+20 * (pss ++ [ps]).length)):=hR7.mono (by omega);have HB7:=Hd hB7;have HO7:=Hd hO7;have HP7:=Hd hP7
   have HS7:Hid (∀ p ∈ pss ++ [ps],p.length≤4∧∀ x ∈ p,z60 x):=fun p hp=>by
    rcases List.mem_append.1 hp with hp | hp
    ·exact HS.out p hp
    ·simp at hp;subst hp;exact ⟨hps4,HSx.out⟩
   obtain ⟨g',cap',rfl⟩:=Joins.ownsRow_form hown' (by omega);clear hown' hgrow' hO4 hP4 hB4 hx4 hR4 hR7 hB7 hO7 hP7 HO HP HS HSx hps4;have hms4:(m - 1)+(pss ++ [ps]).length≤4:=(by omega);have hul2:(us ++ [Value.slice xa ps.length xc]).length=(pss ++ [ps]).length:=(by omega);have HL:=Hd hle;clear hle hlp hul HU;generalize pss ++ [ps]=pss2 at *;generalize us ++ [Value.slice xa ps.length xc]=us2 at *;go_wp2;go_roundw
   case rel=>exact ⟨m - 1,us2,pss2,by go_num,hms4,hul2,HS7,by first | exact HO7 | (rw [← HL.out];exact HO7),HP7,HR7,HB7⟩
   case measure=>simp [intOf];omega
  ·obtain rfl:m=0:=by omega
   obtain ⟨aa,cc,rfl,_⟩:=z02 HO.out;have HU:=Hd hul;clear hul;go_wp2_with fail
   refine (zj _ _ _ _ HR.out (by omega)).mono ?_;rintro e w5 ⟨y,rfl,_,_,hb5⟩;have HPe:Hid (z0H w5 w.heap.size (.slice aa us.length cc) pss):=zB.pss (HP.out.bk hb5 hlt1) (zbJ HO.out hb5 hlt1) hsz1 hsz1;have HK:=Hd (HB1.out.trans ((HB.out.trans hb5).below hsz1 (Nat.le_refl _)));have HS4:Hid (z9i pss):=⟨by omega,HS.out⟩;clear hb5 HP HO HR HB HS;go_wp2;exact bodyPost_ret (v:=.tuple #[.slice aa us.length cc,.int .i64 y]) (by simp [results,Tryz.results33,go_sem]) rfl ⟨_,pss,y,rfl,HS4.out,HPe.out,HK.out⟩
theorem z7T (A:Option Addr) (len cap:Nat) (w:World) (h:z1J w A len cap) :
  Calls Tryz.prog 7 #[.slice A len cap] w fun e w'=>∃ (v:Value) (pss:List (List PgS)) (row:Int),e=.returned (.tuple #[v,.int .i64 row])∧z9i pss∧z0H w' w.heap.size v pss∧Below w.heap.size w w':=by
 have HD:=Hd h;clear h;go_enter Tryz.func7,Tryz.ntmps7;go_wp2_with fail
 refine (z9j _ _ _ _ HD.out).mono ?_;rintro e w1 ⟨v,pss,row,rfl,hs,hp,hb⟩;have HS:=Hd hs;have HP:=Hd hp;have HB:=Hd hb;clear hs hp hb HD;go_wp2;exact bodyPost_ret (v:=.tuple #[v,.int .i64 row]) (by simp [results,Tryz.results7,go_sem]) rfl ⟨v,pss,row,rfl,HS.out,HP.out,HB.out⟩
theorem zij:z00 ⟨#[97,98,32,99]⟩=true:=by decide +kernel
theorem zbK (w:World):Calls Tryz.prog 12 #[] w fun e w'=>e=.returned (.bool true)∧w'=w:=by
 go_enter Tryz.func12,Tryz.ntmps12;go_wp2_with fail
 refine (z1H _ _ (by unfold maxLen;decide)).mono ?_;rw [zij];rintro e w1 ⟨rfl,rfl⟩;go_wp2;go_ret;exact ⟨rfl,rfl⟩
end
end Go.Proofs.YtggmjiddadjilaiGreat
