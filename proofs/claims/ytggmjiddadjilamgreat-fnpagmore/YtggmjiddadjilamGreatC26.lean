/-
  PROVED HERE: l20High draws how high pages are, small numbers; nothing that was in memory is turned but the reader's own place. Also: 3 more texts of the same proof.
-/
import Derived.Test.YtggmjiddadjilamGreatC19
import Derived.Test.YtggmjiddadjilamGreatC17
set_option maxRecDepth 1000000
set_option maxHeartbeats 40000000
namespace Go.Proofs.YtggmjiddadjilamGreat
open Go.RowKit
theorem zjP:(Tryz.prog.info? 3).map (fun i=>(i.zero,i.size,i.bytes))=some (some (Value.int .i64 0),1,8):=by kernel_rfl
def z7w (w:World) (base:Nat) (v:Value) (l:List Int):Prop:=w.ownsRow base 3 1 v l.length (l.map (Value.int .i64))
theorem z7w.bk {r:Nat} {w w':World} {base:Nat} {v:Value} {l:List Int} (h:z7w w base v l) (k:Bk r w w') (hr:r < base):z7w w' base v l :=
 ⟨h.1,h.2.elim Or.inl (fun ⟨g,cap,cur,hv,hg,hc,q⟩=>Or.inr ⟨g,cap,cur,hv,hg,(k.block g (bL hc) (by omega)).trans hc,q⟩)⟩
def z4v (w:World) (z:Nat) (v:Value) (l:List Int):Prop:=At w z v l.length 1 (fun i b o=>w.cell? ⟨b,o,none⟩=some (.int .i64 (l.getD i 0)))
theorem z4v.since {w w':World} {z:Nat} {v:Value} {l:List Int} (h:z4v w z v l) (k:z0A z w w'):z4v w' z v l:=At.mono h k.size (Nat.le_refl _) (fun _ _ _ _ hb hz he=>(k.cell hz hb _).trans he)
theorem z4v.base {w:World} {z z':Nat} {v:Value} {l:List Int} (h:z4v w z v l) (k:z'≤z):z4v w z' v l:=At.mono h (Nat.le_refl _) k (fun _ _ _ _ _ _ he=>he)
theorem z4v.ints {w:World} {z:Nat} {v:Value} {l:List Int} (h:z4v w z v l):zu w v l:=by
 obtain ⟨a,cap,e,h1,h2,h3⟩:=h;refine ⟨a,cap,e,h1,h2,fun i hi=>?_⟩;obtain ⟨b,off,e2,h4,_,h5⟩:=h3 i hi;rw [Nat.mul_one] at h5;exact ⟨b,off,e2,h4,h5⟩
theorem zh2 {w:World} {base:Nat} {v:Value} {l:List Int} (h:w.ownsRow base 3 1 v l.length (l.map (Value.int .i64))):z4v w base v l:=by
 rcases h.2 with ⟨hv,hn⟩ | ⟨g,cap,cur,hv,hg,hc,h3,h4,_⟩
 ·exact ⟨none,0,by rw [hn];exact hv,by omega,Nat.zero_le _,fun i hi=>by omega⟩
 ·refine ⟨_,cap,hv,h3,h4,fun i hi=>⟨g,0,rfl,(bL hc),hg,?_⟩⟩;subst hv;have e:l.getD i 0=l[i]:=(by simp [List.getD,hi]);rw [Nat.mul_one,Nat.zero_add,e];exact z4p h (by simp [hi])
theorem zjg {w w3 w4:World} {r B:Nat} {l:List Int} {x:Int} {o v':Value} {T:TypeId} {arr:Array Value} (hr:r < w.heap.size) (hO:z7w w3 w.heap.size o l) (hR:Rd w3 r B) (hB:Bk r w w3)
  (hg:(w3.alloc (.cells arr T)).grownBy w4 o.ownBlock) (hown:w4.ownsRow w.heap.size 3 1 v' (l.length+1) (l.map (Value.int .i64) ++ [.int .i64 x])) :
  Rd w4 r B∧Bk r w w4∧z7w w4 w.heap.size v' (l ++ [x]):=by
 have hlt:=hR.lt;have hA:=hB.alloc (.cells arr T);refine ⟨?_,?_,by unfold z7w;rw [List.length_append,List.map_append];simpa using hown⟩
 ·refine (hR.alloc (.cells arr T)).keep (fun k hk=>hg.block k (by simp;omega) (fun hb=>?_));have:=(World.ownsRow.lt hO k hb.symm).1;omega
 ·refine ⟨hg.os.trans hA.os,hg.tape.trans hA.tape,hg.output.trans hA.output,Nat.le_trans hA.size hg.size,fun k hk hkr=>(hg.block k (Nat.lt_of_lt_of_le hk hA.size) (fun hb=>?_)).trans (hA.block k hk hkr)⟩;have:=(World.ownsRow.lt hO k hb.symm).1;omega
theorem hi7 (k:Int) (h0:0≤k) (h1:k < 7):∃ v:Int,(-1≤v∧v≤101)∧(#[Value.int .i64 0,.int .i64 1,.int .i64 2,.int .i64 3,.int .i64 5,.int .i64 8,.int .i64 20]:Array Value)[k.toNat]?=some (.int .i64 v):=by
 rcases (by omega:k=0∨k=1∨k=2∨k=3∨k=4∨k=5∨k=6) with rfl | rfl | rfl | rfl | rfl | rfl | rfl
 ·exact ⟨0,by omega,rfl⟩
 ·exact ⟨1,by omega,rfl⟩
 ·exact ⟨2,by omega,rfl⟩
 ·exact ⟨3,by omega,rfl⟩
 ·exact ⟨5,by omega,rfl⟩
 ·exact ⟨8,by omega,rfl⟩
 ·exact ⟨20,by omega,rfl⟩
def z6h (l:List Int):Prop:=l.length≤5∧∀ x ∈ l,-1≤x∧x≤101
theorem z6h.snoc {l:List Int} {x:Int} (h:∀ y ∈ l,-1≤y∧y≤101) (hx:-1≤x∧x≤101):∀ y ∈ l ++ [x],-1≤y∧y≤101:=by
 intro y hy
 rcases List.mem_append.1 hy with h1 | h1
 ·exact h y h1
 ·rw [List.mem_singleton.1 h1];exact hx
theorem z4M {w:World} {k:Nat} {o x:Obj} (h:w.heap[k]?=some o):(w.alloc x).heap[k]?=some o:=(Below.heap_alloc _ _ _ (bL h)).trans h
theorem z6A {w:World} {arr:Array Value} {t:TypeId} {k:Nat} (h:w.heap.size=k):(w.alloc (.cells arr t)).heap[k]?=some (.cells arr t):=by
 subst h;exact zj w _
theorem zaN {w:World} {b z:Nat} {x:Int} (hz:z≤b) (h:w.heap[b]?=some (.cells #[.int .i64 x] 3)):z4v w z (.slice (some ⟨b,0,none⟩) 1 1) [x] :=
 zh2 (l:=[x]) ⟨rfl,.inr ⟨b,1,#[.int .i64 x],rfl,hz,h,Nat.le_refl _,by unfold maxLen;omega,rfl,rfl⟩⟩
theorem zjQ (w:World) (z:Nat) (a:Option Addr):z4v w z (.slice a 0 0) []:=⟨a,0,rfl,Nat.le_refl _,Nat.zero_le _,fun i hi=>absurd hi (Nat.not_lt_zero i)⟩
theorem hi4 {w:World} {b0 b1 b2 b3 z:Nat} (z1:z≤b1) (z2:z≤b2) (z3:z≤b3) (h1:w.heap[b1]?=some (.cells #[.int .i64 (-1)] 3)) (h2:w.heap[b2]?=some (.cells #[.int .i64 101] 3)) (h3:w.heap[b3]?=some (.cells #[.int .i64 100] 3)) (k:Int) (k0:0≤k) (k1:k < 4) :
  ∃ v l,(#[Value.slice (some ⟨b0,0,none⟩) 0 0,.slice (some ⟨b1,0,none⟩) 1 1,.slice (some ⟨b2,0,none⟩) 1 1,.slice (some ⟨b3,0,none⟩) 1 1]:Array Value)[k.toNat]?=some v∧z6h l∧z4v w z v l:=by
 rcases (by omega:k=0∨k=1∨k=2∨k=3) with rfl | rfl | rfl | rfl
 ·exact ⟨_,[],rfl,⟨Nat.zero_le _,fun x hx=>by cases hx⟩,zjQ w _ _⟩
 ·exact ⟨_,[-1],rfl,⟨by decide,fun x hx=>by rw [List.mem_singleton.1 hx];omega⟩,zaN z1 h1⟩
 ·exact ⟨_,[101],rfl,⟨by decide,fun x hx=>by rw [List.mem_singleton.1 hx];omega⟩,zaN z2 h2⟩
 ·exact ⟨_,[100],rfl,⟨by decide,fun x hx=>by rw [List.mem_singleton.1 hx];omega⟩,zaN z3 h3⟩
theorem zdY (r B:Nat) (n:Int) (w:World) (h:Rd w r B) (hB:B≤900000) :
  Calls Tryz.prog 75 #[.pointer (some ⟨r,0,none⟩),.int .i64 n] w fun e w'=>∃ (v:Value) (l:List Int),e=.returned v∧z6h l∧z4v w' w.heap.size v l∧Rd w' r (B+20)∧Bk r w w':=by
 obtain ⟨i0,hi,hz0,hz1,hz2⟩:=info_parts zjP;have hr:=h.lt;have H:=Hd h;clear h;go_enter Tryz.func75,Tryz.ntmps75;go_wp2_with fail
 refine (zx _ B _ _ (H.out.alloc _) (by omega)).mono ?_;rintro e w2 ⟨m0,rfl,hm0,hR2,hb2⟩;obtain ⟨m1,m2⟩:=hm0 (by omega);obtain ⟨M,rfl⟩:=Int.eq_ofNat_of_zero_le m1;have O2:Hid (z7w w2 w.heap.size (.slice (some ⟨w.heap.size,0,none⟩) 0 0) []):=z7w.bk (l:=[]) (World.ownsRow_made (base:=w.heap.size) (e:=3) (size:=1) w #[] 0 (Nat.le_refl _) (Nat.zero_le _) rfl) hb2 hr;have R2:=Hd hR2;have K2:=Hd (((Bk.refl r w).alloc (.cells #[] 3)).trans hb2);have hw1:IntKind.i64.wrap (1+(M:Int))=((M+1:Nat):Int):=(by rw [IntKind.wrap_i64];omega);clear hR2 hb2 hm0 m1;go_wp2_with fail
 go_loopw [5,6] (fun o q W=>∃ (m:Nat) (l:List Int),q=.int .i64 m∧m+l.length≤5∧Hid (∀ x ∈ l,-1≤x∧x≤101)∧Hid (z7w W w.heap.size o l)∧Hid (Rd W r (B+1+l.length))∧Hid (Bk r w W)) (fun _ q _=>(intOf q).toNat)
 case atStart=>exact ⟨M+1,[],rfl,by simp;omega,fun x hx=>(by cases hx),O2.out,R2.out,K2.out⟩
 case round =>
  clear O2 R2 K2 hw1;obtain ⟨m,l,rfl,hms,HS,HO,HR,HB⟩:=hrel;obtain ⟨oa,oc,rfl,_⟩:=z0i HO.out;by_cases hm:0 < m
  case pos =>
   have hm':(0:Int) < (m:Int):=(by omega);have A1:=zj wr (.cells #[.int .i64 0,.int .i64 1,.int .i64 2,.int .i64 3,.int .i64 5,.int .i64 8,.int .i64 20] 3);have hwm:IntKind.i64.wrap ((m:Int) - 1)=((m - 1:Nat):Int):=(by rw [IntKind.wrap_i64];omega);go_wp2_with fail
   refine (zx _ _ _ _ (HR.out.alloc _) (by omega)).mono ?_;rintro e w4 ⟨k,rfl,hk7,hR4,hb4⟩;obtain ⟨ka,kb⟩:=hk7 (by omega);obtain ⟨v,hv,hvl⟩:=hi7 k ka kb;have A2:=(hb4.block wr.heap.size (by simp) (by have:=HR.out.lt;omega)).trans A1;have hc:w4.cell? ⟨wr.heap.size,k.toNat,none⟩=some (.int .i64 v):=(zf A2).trans hvl;have hK4:=(Bk.alloc (Bk.refl r wr) (.cells #[.int .i64 0,.int .i64 1,.int .i64 2,.int .i64 3,.int .i64 5,.int .i64 8,.int .i64 20] 3)).trans hb4;have hO4:=HO.out.bk hK4 hr;have hB4:=HB.out.trans hK4;have hsz:=hB4.size;have hO4':w4.ownsRow w.heap.size 3 1 (.slice oa l.length oc) l.length (l.map (Value.int .i64)):=hO4;clear A1 A2 hvl hk7 hb4 hK4;go_wp2_with (at_builtin;refine wpList_append_own _ rfl _ _ 36 rfl w.heap.size 3 i0 _ 1 8 Tryz.underlying36 hi hz0 hz1 hz2 rfl (by decide) _ _ _ rfl (hO4'.alloc _) ⟨w4.heap.size,0,none⟩ 1 1 [.int .i64 v] rfl rfl (z0D (zj _ _)) (by simp [Value.oneCell']) (by unfold maxLen;omega) (by omega) (by simp;omega) ?_)
   intro v' w7 hown' hgrow' _;obtain ⟨hR7,hB7,hO7⟩:=zjg (x:=v) hr hO4 hR4 hB4 hgrow' hown';have HR7:Hid (Rd w7 r (B+1+(l ++ [v]).length)):=hR7.mono (by simp;omega);have HB7:=Hd hB7;have HO7:=Hd hO7;have HS7:=Hd (z6h.snoc HS.out hv);obtain ⟨g',cap',rfl⟩:=Joins.ownsRow_form hown' (by omega);have hms4:(m - 1)+(l ++ [v]).length≤5:=(by simp;omega);have HL:=Hd (by simp:(l ++ [v]).length=l.length+1);clear hown' hgrow' hO4 hO4' hB4 hR4 hR7 hB7 hO7;generalize l ++ [v]=l2 at *;go_wp2;go_roundw
   case rel=>exact ⟨m - 1,l2,by go_num,hms4,HS7,by first | exact HO7 | (rw [← HL.out];exact HO7),HR7,HB7⟩
   case measure=>simp [intOf];omega
  obtain rfl:m=0:=by omega
  have HSm:Hid (z6h l):=Hd ⟨by omega,HS.out⟩;go_wp2_with fail
  refine (zx _ _ _ _ HR.out (by omega)).mono ?_;rintro e w4 ⟨k,rfl,hk7,hR4,hb4⟩;clear hk7;by_cases h0:k=0
  ·subst h0;go_wp2_with fail
   refine (zx _ _ _ _ (((((hR4.alloc _).alloc _).alloc _).alloc _).alloc _) (by omega)).mono ?_;rintro e w6 ⟨k,rfl,hk7,hR6,hb6⟩;obtain ⟨ka,kb⟩:=hk7 (by omega);have hr4:=hR4.lt;have n1:=z4M (x:=.cells #[.slice (some ⟨w4.heap.size,0,none⟩) 0 0,.slice (some ⟨w4.heap.size+1,0,none⟩) 1 1,.slice (some ⟨w4.heap.size+1+1,0,none⟩) 1 1,.slice (some ⟨w4.heap.size+1+1+1,0,none⟩) 1 1] 36) (z4M (x:=.cells #[.int .i64 100] 3) (z4M (x:=.cells #[.int .i64 101] 3) (z6A (arr:=#[.int .i64 (-1)]) (t:=3) (show (w4.alloc (.cells #[] 3)).heap.size=w4.heap.size+1 by simp))));have n2:=z4M (x:=.cells #[.slice (some ⟨w4.heap.size,0,none⟩) 0 0,.slice (some ⟨w4.heap.size+1,0,none⟩) 1 1,.slice (some ⟨w4.heap.size+1+1,0,none⟩) 1 1,.slice (some ⟨w4.heap.size+1+1+1,0,none⟩) 1 1] 36) (z4M (x:=.cells #[.int .i64 100] 3) (z6A (arr:=#[.int .i64 101]) (t:=3) (show ((w4.alloc (.cells #[] 3)).alloc (.cells #[.int .i64 (-1)] 3)).heap.size=w4.heap.size+1+1 by simp)));have n3:=z4M (x:=.cells #[.slice (some ⟨w4.heap.size,0,none⟩) 0 0,.slice (some ⟨w4.heap.size+1,0,none⟩) 1 1,.slice (some ⟨w4.heap.size+1+1,0,none⟩) 1 1,.slice (some ⟨w4.heap.size+1+1+1,0,none⟩) 1 1] 36) (z6A (arr:=#[.int .i64 100]) (t:=3) (show (((w4.alloc (.cells #[] 3)).alloc (.cells #[.int .i64 (-1)] 3)).alloc (.cells #[.int .i64 101] 3)).heap.size=w4.heap.size+1+1+1 by simp));have n4:=z6A (arr:=#[.slice (some ⟨w4.heap.size,0,none⟩) 0 0,.slice (some ⟨w4.heap.size+1,0,none⟩) 1 1,.slice (some ⟨w4.heap.size+1+1,0,none⟩) 1 1,.slice (some ⟨w4.heap.size+1+1+1,0,none⟩) 1 1]) (t:=36) (show ((((w4.alloc (.cells #[] 3)).alloc (.cells #[.int .i64 (-1)] 3)).alloc (.cells #[.int .i64 101] 3)).alloc (.cells #[.int .i64 100] 3)).heap.size=w4.heap.size+1+1+1+1 by simp);have m1:=(hb6.block _ (by simp) (by omega)).trans n1;have m2:=(hb6.block _ (by simp) (by omega)).trans n2;have m3:=(hb6.block _ (by simp) (by omega)).trans n3;have m4:=(hb6.block _ (by simp) (by omega)).trans n4;obtain ⟨v,l2,hvl,hs2,hI2⟩:=hi4 (b0:=w4.heap.size) (z:=w.heap.size) (by have:=HB.out.size;have:=hb4.size;omega) (by have:=HB.out.size;have:=hb4.size;omega) (by have:=HB.out.size;have:=hb4.size;omega) m1 m2 m3 k ka kb;have hc:w6.cell? ⟨w4.heap.size+1+1+1+1,k.toNat,none⟩=some v:=(zf m4).trans hvl;have HK:=Hd ((HB.out.trans hb4).trans ((((((Bk.refl r w4).alloc _).alloc _).alloc _).alloc _).alloc _ |>.trans hb6));have HR6:=Hd (hR6.mono (show B+1+l.length+1+1≤B+20 by omega));have HS2:=Hd hs2;have HI2:=Hd hI2;clear n1 n2 n3 n4 m1 m2 m3 m4 hvl hs2 hI2 hk7 hR6 hb6 hR4 hb4 HO HR HB;go_wp2;go_ret;exact ⟨v,l2,rfl,HS2.out,HI2.out,HR6.out,HK.out⟩
  ·have hne:(k == 0)=false:=beq_eq_false_iff_ne.2 h0;have HR4:=Hd (hR4.mono (show B+1+l.length+1≤B+20 by omega));have HK:=Hd (HB.out.trans hb4);have HI:=Hd (zh2 (HO.out.bk hb4 hr));clear hR4 hb4 h0 HO;go_wp2;go_ret;exact ⟨_,l,rfl,HSm.out,HI.out,HR4.out,HK.out⟩
theorem wd3 (k:Int) (h0:0≤k) (h1:k < 3):∃ v:Int,(-1≤v∧v≤301)∧(#[Value.int .i64 (-1),.int .i64 301,.int .i64 300]:Array Value)[k.toNat]?=some (.int .i64 v):=by
 rcases (by omega:k=0∨k=1∨k=2) with rfl | rfl | rfl
 ·exact ⟨-1,by omega,rfl⟩
 ·exact ⟨301,by omega,rfl⟩
 ·exact ⟨300,by omega,rfl⟩
theorem wd8 (x k:Int) (hx:0≤x∧x < 100) (h0:0≤k) (h1:k < 8):∃ v:Int,(-1≤v∧v≤301)∧(#[Value.int .i64 0,.int .i64 10,.int .i64 25,.int .i64 40,.int .i64 60,.int .i64 80,.int .i64 120,.int .i64 x]:Array Value)[k.toNat]?=some (.int .i64 v):=by
 rcases (by omega:k=0∨k=1∨k=2∨k=3∨k=4∨k=5∨k=6∨k=7) with rfl | rfl | rfl | rfl | rfl | rfl | rfl | rfl
 ·exact ⟨0,by omega,rfl⟩
 ·exact ⟨10,by omega,rfl⟩
 ·exact ⟨25,by omega,rfl⟩
 ·exact ⟨40,by omega,rfl⟩
 ·exact ⟨60,by omega,rfl⟩
 ·exact ⟨80,by omega,rfl⟩
 ·exact ⟨120,by omega,rfl⟩
 ·exact ⟨x,by omega,rfl⟩
theorem zbW (r B:Nat) (n:Int) (w:World) (h:Rd w r B) (hB:B≤900000) :
  Calls Tryz.prog 50 #[.pointer (some ⟨r,0,none⟩),.int .i64 n] w fun e w'=>∃ x:Int,e=.returned (.int .i64 x)∧(-1≤x∧x≤301)∧Rd w' r (B+3)∧Bk r w w':=by
 have hlt:=h.lt;have HR:Hid (Rd w r B):=h;clear h;go_enter Tryz.func50,Tryz.ntmps50;go_wp2_with fail
 refine (zx r B _ _ HR.out (by omega)).mono ?_;rintro e w1 ⟨k1,rfl,hk1,hR1,hb1⟩;have hz1:=hb1.size;by_cases h0:k1=0
 ·subst h0;clear hk1;have A1:=z3t w1 (.cells #[.int .i64 (-1),.int .i64 301,.int .i64 300] 3);go_wp2_with fail
  refine (zx r (B+1) _ _ (hR1.alloc _) (by omega)).mono ?_;rintro e w2 ⟨k2,rfl,hk2,hR2,hb2⟩;obtain ⟨ka,kb⟩:=hk2 (by omega);obtain ⟨v,hv,hvl⟩:=wd3 k2 ka kb;have A2:=(hb2.block w1.heap.size (by simp) (by omega)).trans A1;have hc:w2.cell? ⟨w1.heap.size,k2.toNat,none⟩=some (.int .i64 v):=(zf A2).trans hvl;have HK:=Hd ((hb1.trans (Bk.alloc (Bk.refl _ _) _)).trans hb2);have HRr:=Hd (hR2.mono (show B+1+1≤B+3 by omega));clear A1 A2 hb1 hb2 hR1 hR2 hvl hk2;go_wp2;go_ret;exact ⟨v,rfl,hv,HRr.out,HK.out⟩
 ·have hne:(k1 == 0)=false:=beq_eq_false_iff_ne.2 h0;clear h0 hk1;go_wp2_with fail
  refine (zx r (B+1) _ _ hR1 (by omega)).mono ?_;rintro e w2 ⟨x,rfl,hx,hR2,hb2⟩;have hxb:=hx (by omega);have hz2:=hb2.size;have A1:=z3t w2 (.cells #[.int .i64 0,.int .i64 10,.int .i64 25,.int .i64 40,.int .i64 60,.int .i64 80,.int .i64 120,.int .i64 x] 3);go_wp2_with fail
  refine (zx r (B+2) _ _ (hR2.alloc _) (by omega)).mono ?_;rintro e w3 ⟨k3,rfl,hk3,hR3,hb3⟩;obtain ⟨ka,kb⟩:=hk3 (by omega);obtain ⟨v,hv,hvl⟩:=wd8 x k3 hxb ka kb;have A2:=(hb3.block w2.heap.size (by simp) (by omega)).trans A1;have hc:w3.cell? ⟨w2.heap.size,k3.toNat,none⟩=some (.int .i64 v):=(zf A2).trans hvl;have HK:=Hd (((hb1.trans hb2).trans (Bk.alloc (Bk.refl _ _) _)).trans hb3);have HRr:=Hd (hR3.mono (show B+2+1≤B+3 by omega));clear A1 A2 hb1 hb2 hb3 hR1 hR2 hR3 hvl hk3 hx;go_wp2;go_ret;exact ⟨v,rfl,hv,HRr.out,HK.out⟩
theorem zjR (n:Nat) (hn:n≤9) (k:Int) (h0:0≤k) (h1:k < 3):∃ v:Int,(#[.int .i64 (-1),.int .i64 9,.int .i64 (n:Int)]:Array Value)[k.toNat]?=some (.int .i64 v)∧-1≤v∧v≤9:=by
 rcases (by omega:k=0∨k=1∨k=2) with rfl | rfl | rfl
 ·exact ⟨-1,rfl,by omega,by omega⟩
 ·exact ⟨9,rfl,by omega,by omega⟩
 ·exact ⟨n,rfl,by omega,by omega⟩
def z50 (L:Nat→Bool):Nat:=(if L 5=true then 1 else 0)
theorem zbI (L:Nat→Bool):z50 L≤1:=by unfold z50;(repeat (first | omega | split))
theorem zic {L:Nat→Bool} (h:L 5=false):z50 (upd L 5)=z50 L+1:=by simp [z50,upd,h]
theorem z2e {L:Nat→Bool} {i:Nat} (h:i ≠ 5):z50 (upd L i)=z50 L:=by
 have k5:(5:Nat) ≠ i:=fun e=>(h) e.symm;simp [z50,upd,k5]
structure zkr (r B n0:Nat) (w0:World) (F:World→Prop) (tb:Nat) (tc:Array Value) (ra:Option Addr) (rn rc:Nat)  (L:Nat→Bool) (w:World) (v33 v34 v35 v36 v37 v38 v39 v40 v41:Value):Prop where
 f0:L 0=true→v33=.pointer (some ⟨tb,3,none⟩)
 f1:L 1=true→v34=.slice ra rn rc
 f2:L 2=true→v35=.int .i64 (rn:Int)
 f3:L 3=true→L 9=false→PB n0 w 3 3 (fun arr=>arr=#[.int .i64 (-1),.int .i64 9,.int .i64 (rn:Int)]) v36
 f4:L 4=true→v37=.pointer (some ⟨r,0,none⟩)
 f5:L 5=true→PI 0 2 v38
 f6:L 6=true→L 9=false→PP n0 w 3 (fun arr k=>∃ v:Int,arr[k]?=some (.int .i64 v)∧-1≤v∧v≤9) v39
 f7:L 7=true→PI (-1) 9 v40
 f8:L 8=true→v41=.pointer (some ⟨tb,1,none⟩)
 rd:Rd w r (B+z50 L)
 bk:Bk r w0 w
 fr:F w
 tb0:L 9=false→w.heap[tb]?=some (.cells tc 26)
 tb1:L 9=true→∃ v:Int,(-1≤v∧v≤9)∧w.heap[tb]?=some (.cells (tc.setIfInBounds 1 (.int .i64 v)) 26)
def hdR (r B n0:Nat) (w0:World) (F:World→Prop) (tb:Nat) (tc:Array Value) (ra:Option Addr) (rn rc:Nat)  (mk:Value→Value→Value→Value→Value→Value→Value→Value→Value→Act) (L:Nat→Bool) (a:Act) (w:World):Prop:=∃ v33 v34 v35 v36 v37 v38 v39 v40 v41:Value,a=mk v33 v34 v35 v36 v37 v38 v39 v40 v41∧zkr r B n0 w0 F tb tc ra rn rc L w v33 v34 v35 v36 v37 v38 v39 v40 v41
def z51 (L:Nat→Bool):Nat:=(if L 5=true then 1 else 0)
theorem zbJ (L:Nat→Bool):z51 L≤1:=by unfold z51;(repeat (first | omega | split))
theorem zid {L:Nat→Bool} (h:L 5=false):z51 (upd L 5)=z51 L+1:=by simp [z51,upd,h]
theorem z2f {L:Nat→Bool} {i:Nat} (h:i ≠ 5):z51 (upd L i)=z51 L:=by
 have k5:(5:Nat) ≠ i:=fun e=>(h) e.symm;simp [z51,upd,k5]
structure zks (r B n0:Nat) (w0:World) (F:World→Prop) (tb:Nat) (tc:Array Value) (ra:Option Addr) (rn rc:Nat)  (L:Nat→Bool) (w:World) (v44 v45 v46 v47 v48 v49 v50 v51 v52:Value):Prop where
 f0:L 0=true→v44=.pointer (some ⟨tb,3,none⟩)
 f1:L 1=true→v45=.slice ra rn rc
 f2:L 2=true→v46=.int .i64 (rn:Int)
 f3:L 3=true→L 9=false→PB n0 w 3 3 (fun arr=>arr=#[.int .i64 (-1),.int .i64 9,.int .i64 (rn:Int)]) v47
 f4:L 4=true→v48=.pointer (some ⟨r,0,none⟩)
 f5:L 5=true→PI 0 2 v49
 f6:L 6=true→L 9=false→PP n0 w 3 (fun arr k=>∃ v:Int,arr[k]?=some (.int .i64 v)∧-1≤v∧v≤9) v50
 f7:L 7=true→PI (-1) 9 v51
 f8:L 8=true→v52=.pointer (some ⟨tb,2,none⟩)
 rd:Rd w r (B+z51 L)
 bk:Bk r w0 w
 fr:F w
 tb0:L 9=false→w.heap[tb]?=some (.cells tc 26)
 tb1:L 9=true→∃ v:Int,(-1≤v∧v≤9)∧w.heap[tb]?=some (.cells (tc.setIfInBounds 2 (.int .i64 v)) 26)
def ftR (r B n0:Nat) (w0:World) (F:World→Prop) (tb:Nat) (tc:Array Value) (ra:Option Addr) (rn rc:Nat)  (mk:Value→Value→Value→Value→Value→Value→Value→Value→Value→Act) (L:Nat→Bool) (a:Act) (w:World):Prop:=∃ v44 v45 v46 v47 v48 v49 v50 v51 v52:Value,a=mk v44 v45 v46 v47 v48 v49 v50 v51 v52∧zks r B n0 w0 F tb tc ra rn rc L w v44 v45 v46 v47 v48 v49 v50 v51 v52
def z3v (L:Nat→Bool):Nat:=(if L 3=true then 1 else 0)+(if L 6=true then 1 else 0)
theorem z8o (L:Nat→Bool):z3v L≤2:=by unfold z3v;(repeat (first | omega | split))
theorem zie {L:Nat→Bool} (h:L 3=false):z3v (upd L 3)=z3v L+1:=by simp [z3v,upd,h];omega
theorem zif {L:Nat→Bool} (h:L 6=false):z3v (upd L 6)=z3v L+1:=by simp [z3v,upd,h]
theorem z1z {L:Nat→Bool} {i:Nat} (h:i ≠ 3∧i ≠ 6):z3v (upd L i)=z3v L:=by
 have k3:(3:Nat) ≠ i:=fun e=>(h.1) e.symm;have k6:(6:Nat) ≠ i:=fun e=>(h.2) e.symm;simp [z3v,upd,k3,k6]
structure zkt (r B n0:Nat) (w0:World) (F:World→Prop) (base:Nat) (U:Value) (nn:Nat) (xs:List Value) (tb:Nat) (tc:Array Value)  (L:Nat→Bool) (w:World) (v63 v64 v65 v66 v67 v68 v69 v70 v71 v72 v73 v74 v75:Value):Prop where
 f0:L 0=true→v63=.pointer (some ⟨tb,0,none⟩)
 f1:L 1=true→v64=U
 f2:L 2=true→v65=.pointer (some ⟨r,0,none⟩)
 f3:L 3=true→PI 0 3 v66
 f4:L 4=true→L 11=false→PB n0 w 3 4 (fun arr=>arr=#[.int .i64 (-1),.int .i64 0,.int .i64 61,.int .i64 101]) v67
 f5:L 5=true→v68=.pointer (some ⟨r,0,none⟩)
 f6:L 6=true→PI 0 3 v69
 f7:L 7=true→L 11=false→PP n0 w 3 (fun arr k=>∃ v:Int,arr[k]?=some (.int .i64 v)) v70
 f8:L 8=true→∃ v:Int,v71=.int .i64 v
 f9:L 9=true→∃ x y:Int,v72=.agg #[.int .i64 x,.int .i64 y]
 f10:L 10=true→L 11=false→PB n0 w 67 1 (fun arr=>∃ x y:Int,arr=#[.int .i64 x,.int .i64 y]) v73
 f12:L 12=true→v75=.pointer (some ⟨tb,0,none⟩)
 rd:Rd w r (B+z3v L)
 bk:Bk r w0 w
 fr:F w
 own:L 11=false→w.ownsRow base 67 2 U nn xs
 ownA:L 11=true→∃ nw,(∃ p,nw=z5p p)∧w.ownsRow base 67 2 v74 (nn+1) (xs ++ nw)
 tb0:L 13=false→w.heap[tb]?=some (.cells tc 26)
 tb1:L 13=true→w.heap[tb]?=some (.cells (tc.setIfInBounds (0) v74) 26)
def acR (r B n0:Nat) (w0:World) (F:World→Prop) (base:Nat) (U:Value) (nn:Nat) (xs:List Value) (tb:Nat) (tc:Array Value)  (mk:Value→Value→Value→Value→Value→Value→Value→Value→Value→Value→Value→Value→Value→Act) (L:Nat→Bool) (a:Act) (w:World):Prop:=∃ v63 v64 v65 v66 v67 v68 v69 v70 v71 v72 v73 v74 v75:Value,a=mk v63 v64 v65 v66 v67 v68 v69 v70 v71 v72 v73 v74 v75∧zkt r B n0 w0 F base U nn xs tb tc L w v63 v64 v65 v66 v67 v68 v69 v70 v71 v72 v73 v74 v75
def z52 (L:Nat→Bool):Nat:=(if L 10=true then 50 else 0)
theorem zbK (L:Nat→Bool):z52 L≤50:=by unfold z52;(repeat (first | omega | split))
theorem zh3 {L:Nat→Bool} (h:L 10=false):z52 (upd L 10)=z52 L+50:=by simp [z52,upd,h]
theorem z0T {L:Nat→Bool} {i:Nat} (h:i ≠ 10):z52 (upd L i)=z52 L:=by
 have k10:(10:Nat) ≠ i:=fun e=>(h) e.symm;simp [z52,upd,k10]
structure zku (r B n0:Nat) (w0:World) (F:World→Prop) (base:Nat) (U:Value) (nn:Nat) (xs:List Value) (tb:Nat) (tc:Array Value) (t5 kk rn rc:Nat)  (L:Nat→Bool) (w:World) (v78 v79 v80 v81 v82 v83 v84 v85 v86 v87 v88 v89 v90 v91 v92:Value):Prop where
 f0:L 0=true→v78=.pointer (some ⟨t5,3,none⟩)
 f1:L 1=true→v79=.slice (some ⟨tb,0,none⟩) rn rc
 f2:L 2=true→v80=.int .i64 (kk:Int)
 f3:L 3=true→v81=.pointer (some ⟨t5,3,none⟩)
 f4:L 4=true→v82=.slice (some ⟨tb,0,none⟩) rn rc
 f5:L 5=true→v83=.int .i64 (kk:Int)
 f6:L 6=true→v84=.pointer (some ⟨tb,kk * 2,none⟩)
 f7:L 7=true→v85=.pointer (some ⟨tb,kk * 2,none⟩)
 f8:L 8=true→v86=U
 f9:L 9=true→v87=.pointer (some ⟨r,0,none⟩)
 f10:L 10=true→∃ x:C,v88=.agg #[.string x.s,.int .i64 x.c,.int .i64 x.r,.int .i64 x.a1,.int .i64 x.b1,.int .i64 x.a2,.int .i64 x.b2,.int .i64 x.a3,.int .i64 x.b3,.int .i64 x.a4,.int .i64 x.b4]∧Cx x
 f11:L 11=true→L 12=false→PB n0 w 35 1 (fun arr=>∃ x:C,arr=(z2p x).toArray∧Cx x) v89
 f13:L 13=true→v91=.pointer (some ⟨tb,kk * 2,none⟩)
 f14:L 14=true→v92=.pointer (some ⟨tb,kk * 2,none⟩)
 rd:Rd w r (B+z52 L)
 bk:Bk r w0 w
 fr:F w
 own:L 12=false→w.ownsRow base 35 11 U nn xs
 ownA:L 12=true→∃ nw,(∃ x,nw=z2p x∧Cx x)∧w.ownsRow base 35 11 v90 (nn+1) (xs ++ nw)
 tb0:L 15=false→w.heap[tb]?=some (.cells tc 31)
 tb1:L 15=true→w.heap[tb]?=some (.cells (tc.setIfInBounds (kk * 2) v90) 31)
def crR (r B n0:Nat) (w0:World) (F:World→Prop) (base:Nat) (U:Value) (nn:Nat) (xs:List Value) (tb:Nat) (tc:Array Value) (t5 kk rn rc:Nat)  (mk:Value→Value→Value→Value→Value→Value→Value→Value→Value→Value→Value→Value→Value→Value→Value→Act) (L:Nat→Bool) (a:Act) (w:World):Prop:=∃ v78 v79 v80 v81 v82 v83 v84 v85 v86 v87 v88 v89 v90 v91 v92:Value,a=mk v78 v79 v80 v81 v82 v83 v84 v85 v86 v87 v88 v89 v90 v91 v92∧zku r B n0 w0 F base U nn xs tb tc t5 kk rn rc L w v78 v79 v80 v81 v82 v83 v84 v85 v86 v87 v88 v89 v90 v91 v92
def z3x (r B:Nat) (w:World) (e:Ending) (w':World):Prop :=
 ∃ (ac ar:Option Addr) (cc cr:Nat) (t:T),e=.returned (.agg #[.slice ac t.cols.length cc,.int .i64 t.head,.int .i64 t.foot,.slice ar t.rows.length cr,.int .i64 t.gap])∧z0g t∧z07 w' w.heap.size (.slice ac t.cols.length cc) t.cols∧z01 w' w.heap.size (.slice ar t.rows.length cr) t.rows∧Rd w' r (B+3000)∧Bk r w w'
theorem z4w {w:World} {base g:Nat} {cur:Array Value} {vc vr:Value} {ps:List (Int × Int)} {ur:List (Value × R)} (h1:z0r w base vc ps) (h2:w.ownsRow base 31 2 vr ur.length (ur.flatMap z1L)) (h3:∀ p ∈ ur,z2R w base p.1 p.2.cells) (hg:w.heap[g]?=some (.cells cur 26)) (y0 y1 y2 y3 y4:Value) :
  z0r (st5 w g y0 y1 y2 y3 y4) base vc ps∧(st5 w g y0 y1 y2 y3 y4).ownsRow base 31 2 vr ur.length (ur.flatMap z1L)∧∀ p ∈ ur,z2R (st5 w g y0 y1 y2 y3 y4) base p.1 p.2.cells:=by
 have ho:Off base (some g) none w (st5 w g y0 y1 y2 y3 y4):=Off.ofBk (z2K w g y0 y1 y2 y3 y4);have hnn:∀ x:Value,x.ownBlock=none∨x.ownBlock ≠ none:=fun x=>by cases x.ownBlock <;> simp
 exact ⟨z1R h1 ho (Nat.le_refl _) (zo h1 hg (by decide)) (hnn _),z1R h2 ho (Nat.le_refl _) (zo h2 hg (by decide)) (hnn _),fun p hp=>z1R (h3 p hp) ho (Nat.le_refl _) (zo (h3 p hp) hg (by decide)) (hnn _)⟩
theorem z3x.mk' {r B:Nat} {w w':World} {ac ar:Option Addr} {cc cr:Nat} {ps:List (Int × Int)} {ur:List (Value × R)} {hd ft gp:Int} (hD:z0g ⟨ps,hd,ft,ur.map (·.2),gp⟩) (h1:z07 w' w.heap.size (.slice ac ps.length cc) ps) (h2:z01 w' w.heap.size (.slice ar ur.length cr) (ur.map (·.2)))
  (h3:Rd w' r (B+3000)) (h4:Bk r w w'):z3x r B w (.returned (.agg #[.slice ac ps.length cc,.int .i64 hd,.int .i64 ft,.slice ar ur.length cr,.int .i64 gp])) w' :=
 ⟨ac,ar,cc,cr,⟨ps,hd,ft,ur.map (·.2),gp⟩,by simp,hD,h1,by simpa using h2,h3,h4⟩
def FA (w:World) (vc vr:Value) (ps:List (Int × Int)) (ur:List (Value × R)) (W:World):Prop:=z0r W w.heap.size vc ps∧z13 W w.heap.size vr ur∧W.heap[w.heap.size]?=some (.cells #[.slice none 0 0,.int .i64 0,.int .i64 0,.slice none 0 0,.int .i64 0] 26)
def FB (w:World) (vr:Value) (ur:List (Value × R)) (W:World):Prop:=z13 W w.heap.size vr ur∧W.heap[w.heap.size]?=some (.cells #[.slice none 0 0,.int .i64 0,.int .i64 0,.slice none 0 0,.int .i64 0] 26)
theorem nn' (x:Value):x.ownBlock=none∨x.ownBlock ≠ none:=by cases x.ownBlock <;> simp
theorem FA.stays {w:World} {tb:Nat} {vc vr:Value} {ps:List (Int × Int)} {ur:List (Value × R)} (hz:w.heap.size < tb) (h1:vc.ownBlock=none∨vc.ownBlock ≠ some tb) (h2:vr.ownBlock=none∨vr.ownBlock ≠ some tb) (h3:∀ p ∈ ur,p.1.ownBlock=none∨p.1.ownBlock ≠ some tb):z77 w.heap.size tb (.slice none 0 0) (FA w vc vr ps ur) :=
 fun _ _ ⟨a1,a2,a3⟩ ho=>⟨z1R a1 ho (Nat.le_refl _) h1 (nn' _),a2.off ho (Nat.le_refl _) h2 (nn' _) (fun p hp=>⟨h3 p hp,nn' _⟩),(ho.block _ (Nat.le_refl _) (bL a3) (by simp;omega) (by simp [Value.ownBlock])).trans a3⟩
theorem FB.stays {w:World} {tb:Nat} {vc vr:Value} {ur:List (Value × R)} (hz:w.heap.size < tb) (h2:vr.ownBlock=none∨vr.ownBlock ≠ some tb) (h3:∀ p ∈ ur,p.1.ownBlock=none∨p.1.ownBlock ≠ some tb) (h4:vr.ownBlock=none∨vr.ownBlock ≠ vc.ownBlock) (h5:∀ p ∈ ur,p.1.ownBlock=none∨p.1.ownBlock ≠ vc.ownBlock) (h6:some w.heap.size ≠ vc.ownBlock):z77 w.heap.size tb vc (FB w vr ur) :=
 fun _ _ ⟨a2,a3⟩ ho=>⟨a2.off ho (Nat.le_refl _) h2 h4 (fun p hp=>⟨h3 p hp,h5 p hp⟩),(ho.block _ (Nat.le_refl _) (bL a3) (by simp;omega) h6).trans a3⟩
def FC (w:World) (t5:Nat) (tc:Array Value) (vc:Value) (ps:List (Int × Int)) (ur:List (Value × R)) (kk:Nat) (W:World):Prop :=
 W.heap[t5]?=some (.cells tc 26)∧z0r W w.heap.size vc ps∧W.heap[w.heap.size]?=some (.cells #[.slice none 0 0,.int .i64 0,.int .i64 0,.slice none 0 0,.int .i64 0] 26)∧∀ i (hi:i < ur.length),i ≠ kk→z2R W w.heap.size ur[i].1 ur[i].2.cells
theorem FC.stays {w:World} {t5 rb:Nat} {tc:Array Value} {vc u:Value} {ps:List (Int × Int)} {ur:List (Value × R)} {kk:Nat} (ht:w.heap.size≤t5) (h1:some t5 ≠ some rb) (h2:some t5 ≠ u.ownBlock) (h3:vc.ownBlock=none∨vc.ownBlock ≠ some rb) (h4:vc.ownBlock=none∨vc.ownBlock ≠ u.ownBlock)
  (h5:some w.heap.size ≠ some rb) (h6:some w.heap.size ≠ u.ownBlock) (h7:∀ i (hi:i < ur.length),i ≠ kk→zkh ur[i].1 (some rb) u.ownBlock):z77 w.heap.size rb u (FC w t5 tc vc ps ur kk) :=
 fun _ _ ⟨a1,a2,a3,a4⟩ ho=>⟨(ho.block _ ht (bL a1) h1 h2).trans a1,z1R a2 ho (Nat.le_refl _) h3 h4,(ho.block _ (Nat.le_refl _) (bL a3) h5 h6).trans a3,fun i hi hk=>z1R (a4 i hi hk) ho (Nat.le_refl _) (h7 i hi hk).1 (h7 i hi hk).2⟩
theorem zbL (v:Value) (cs:List C):∀ (l:List (Value × R)) (k:Nat) (hk:k < l.length),(l.set k (v,⟨cs,l[k].2.whole⟩)).flatMap z1L=(l.flatMap z1L).set (k * 2) v
 | a :: t,0,_=>by simp [z1L]
 | a :: t,k+1,hk=>by
  have ih:=zbL v cs t k (by simpa using hk);have e:(k+1) * 2=k * 2+2:=(by omega);simp only [List.set_cons_succ,List.flatMap_cons,List.getElem_cons_succ];rw [ih,e];simp [z1L]
theorem z13.other {w:World} {base:Nat} {v:Value} {ur:List (Value × R)} (h:z13 w base v ur) {i k:Nat} (hi:i < ur.length) (hk:k < ur.length) (hne:i ≠ k):ur[i].1.ownBlock=none∨ur[i].1.ownBlock ≠ ur[k].1.ownBlock:=by
 have hp:=List.pairwise_iff_getElem.1 h.apart
 rcases Nat.lt_or_gt_of_ne hne with h1 | h1
 ·exact hp i k hi hk h1
 ·rcases hp k i hk hi h1 with h2 | h2
  ·rw [h2]
   cases ur[i].1.ownBlock <;> simp
  ·exact .inr (fun e=>h2 e.symm)
theorem zh4 {w:World} {base rb cap kk:Nat} {cur:Array Value} {ur:List (Value × R)} {v:Value} {x:C} (hk:kk < ur.length) (hb:base≤rb) (hn:ur.length≤cap) (hcm:cap≤maxLen) (hc:cur.size=cap * 2) (ht:cur.toList.take (ur.length * 2)=ur.flatMap z1L)
  (hT:w.heap[rb]?=some (.cells (cur.setIfInBounds (kk * 2) v) 31)) (hO:z2R w base v (ur[kk].2.cells ++ [x])) (hothers:∀ i (hi:i < ur.length),i ≠ kk→z2R w base ur[i].1 ur[i].2.cells) :
  w.ownsRow base 31 2 (.slice (some ⟨rb,0,none⟩) (ur.set kk (v,⟨ur[kk].2.cells ++ [x],ur[kk].2.whole⟩)).length cap) (ur.set kk (v,⟨ur[kk].2.cells ++ [x],ur[kk].2.whole⟩)).length ((ur.set kk (v,⟨ur[kk].2.cells ++ [x],ur[kk].2.whole⟩)).flatMap z1L)∧∀ p ∈ ur.set kk (v,⟨ur[kk].2.cells ++ [x],ur[kk].2.whole⟩),z2R w base p.1 p.2.cells:=by
 refine ⟨⟨zhe z1L 2 (fun _=>rfl) _,.inr ⟨rb,cap,_,rfl,hb,hT,by rw [List.length_set];exact hn,hcm,by rw [Array.size_setIfInBounds];exact hc,?_⟩⟩,fun p hp=>?_⟩
 ·rw [zbL,List.length_set,Array.toList_setIfInBounds,List.take_set,ht]
 ·obtain ⟨i,hi,rfl⟩:=List.mem_iff_getElem.1 hp;rw [List.length_set] at hi;by_cases h:kk=i
  ·subst h;rw [List.getElem_set_self];exact hO
  ·rw [List.getElem_set_ne h];exact hothers i hi (fun e=>h e.symm)
theorem zfi {kk:Nat} {ur:List (Value × R)} {v:Value} {x:C} (hk:kk < ur.length) (hs:∀ p ∈ ur,p.2.cells.length≤4∧∀ x ∈ p.2.cells,Cx x) (hx:Cx x) :
  (∀ p ∈ ur.set kk (v,⟨ur[kk].2.cells ++ [x],ur[kk].2.whole⟩),∀ y ∈ p.2.cells,Cx y)∧∃ k,∀ i,(((ur.set kk (v,⟨ur[kk].2.cells ++ [x],ur[kk].2.whole⟩)).map (·.2)).getD i dR).cells.length≤if i=k then 5 else 4:=by
 constructor
 ·intro p hp y hy;obtain ⟨i,hi,rfl⟩:=List.mem_iff_getElem.1 hp;rw [List.length_set] at hi;by_cases h:kk=i
  ·subst h;rw [List.getElem_set_self] at hy
   rcases List.mem_append.1 hy with hy | hy
   ·exact (hs _ (List.getElem_mem hk)).2 y hy
   ·simp at hy;subst hy;exact hx
  ·rw [List.getElem_set_ne h] at hy;exact (hs _ (List.getElem_mem hi)).2 y hy
 ·refine ⟨kk,fun i=>?_⟩;by_cases hi:i < ur.length
  ·rw [z3n dR (by simpa using hi),List.getElem_map];by_cases h:kk=i
   ·subst h;rw [List.getElem_set_self,if_pos rfl];have:=(hs _ (List.getElem_mem hk)).1;simp;omega
   ·rw [List.getElem_set_ne h,if_neg (fun e=>h e.symm)];exact (hs _ (List.getElem_mem hi)).1
  ·simp [List.getD,hi,dR]
end Go.Proofs.YtggmjiddadjilamGreat
