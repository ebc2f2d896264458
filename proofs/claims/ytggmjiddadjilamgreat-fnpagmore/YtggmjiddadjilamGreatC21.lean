/-
  PROVED HERE: how high rows are, as lists: each as high as the cells need whose last row it is, beside what their rows above have. A cell is a row, a number of rows, a number of lines. Also: 12 more texts of the same proof.
-/
import Derived.Test.YtggmjiddadjilamGreatC19
import Derived.Laws.CopyOwn
import Derived.Shelf.Bits.Mul64
import Derived.Shelf.SlSortCmp.KitK
set_option maxRecDepth 1000000
set_option maxHeartbeats 40000000
namespace Go.Proofs.YtggmjiddadjilamGreat
section
open Go.RowKit
abbrev z0F:=Nat × Nat × Int
def z1M (up:List Int) (h:Int) (c:z0F):Int:=if c.1+c.2.1=up.length+1 then max h (c.2.2 - (up.sum - zF up c.1)) else h
def zjr (up:List Int) (cs:List z0F):Int:=cs.foldl (z1M up) 0
def z0b (cs:List z0F):Nat→List Int
 | 0=>[]
 | k+1=>z0b cs k ++ [zjr (z0b cs k) cs]
theorem z0Y (cs:List z0F):∀ k,(z0b cs k).length=k
 | 0=>rfl
 | k+1=>by rw [z0b,List.length_append,z0Y cs k];rfl
theorem ziP (up:List Int) (h:Int) (c:z0F):h≤z1M up h c:=by
 unfold z1M
 split <;> omega
theorem zat (up:List Int):∀ (cs:List z0F) (h:Int),h≤cs.foldl (z1M up) h
 | [],h=>Int.le_refl h
 | c :: cs,h=>Int.le_trans (ziP up h c) (zat up cs _)
theorem zbb (up:List Int):∀ (cs:List z0F) (h:Int),cs.foldl (z1M up) h=h∨∃ c ∈ cs,c.1+c.2.1=up.length+1∧cs.foldl (z1M up) h=c.2.2 - (up.sum - zF up c.1)
 | [],_=>.inl rfl
 | d :: cs,h=>by
  rw [List.foldl_cons]
  rcases zbb up cs (z1M up h d) with h1 | ⟨c,hc,he,h1⟩
  ·rw [h1];by_cases he:d.1+d.2.1=up.length+1
   ·rcases Int.le_total h (d.2.2 - (up.sum - zF up d.1)) with h2 | h2
    ·refine .inr ⟨d,List.mem_cons_self ..,he,?_⟩;unfold z1M;rw [if_pos he];omega
    ·refine .inl ?_;unfold z1M;rw [if_pos he];omega
   ·refine .inl ?_;unfold z1M;rw [if_neg he]
  ·exact .inr ⟨c,List.mem_cons_of_mem _ hc,he,h1⟩
theorem zbc (up:List Int):∀ (cs:List z0F) (h:Int),(∀ c ∈ cs,up.length < c.1∧1≤c.2.1)→cs.foldl (z1M up) h=h
 | [],_,_=>rfl
 | d :: cs,h,hl=>by
  have h1:=hl d (List.mem_cons_self ..)
  have h2:z1M up h d=h:=by
   unfold z1M;rw [if_neg (by omega)]
  rw [List.foldl_cons,h2];exact zbc up cs h (fun c hc=>hl c (List.mem_cons_of_mem _ hc))
theorem zcw (up:List Int) {M:Int}:∀ (cs:List z0F) (h:Int),(∀ c ∈ cs,c.2.2 - (up.sum - zF up c.1)≤M)→h≤M→cs.foldl (z1M up) h≤M:=fun cs h hl hh=>by
 rcases zbb up cs h with h1 | ⟨c,hc,_,h1⟩
 ·rw [h1];exact hh
 ·rw [h1];exact hl c hc
theorem ziQ (up:List Int) (cs:List z0F):0≤zjr up cs:=zat up cs 0
theorem z5a (cs:List z0F):∀ n,∀ x ∈ z0b cs n,0≤x
 | 0,_,h=>by cases h
 | n+1,x,h=>by
  rcases List.mem_append.mp (by rw [z0b] at h;exact h) with h1 | h1
  ·exact z5a cs n x h1
  ·rw [List.mem_singleton.mp h1];exact ziQ ..
theorem zcx:∀ {l:List Int},(∀ x ∈ l,0≤x)→0≤l.sum
 | [],_=>Int.le_refl 0
 | y :: l,h=>by
  rw [List.sum_cons];have h1:=h y (List.mem_cons_self ..);have h2:=zcx (l:=l) (fun x hx=>h x (List.mem_cons_of_mem _ hx));omega
theorem zau {l:List Int} (h:∀ x ∈ l,0≤x) (k:Nat):0≤l.sum - zF l k:=by
 have h1:l.sum=(l.take k).sum+(l.drop k).sum:=(by rw [← List.sum_append,List.take_append_drop]);have h2:=zcx (l:=l.drop k) (fun x hx=>h x (List.mem_of_mem_drop hx));rw [zF];omega
theorem z7b {M:Int} (hM:0≤M) (cs:List z0F) (hc:∀ c ∈ cs,c.2.2≤M):∀ n,∀ x ∈ z0b cs n,x≤M
 | 0,_,h=>by cases h
 | n+1,x,h=>by
  rcases List.mem_append.mp (by rw [z0b] at h;exact h) with h1 | h1
  ·exact z7b hM cs hc n x h1
  ·rw [List.mem_singleton.mp h1];refine zcw _ cs 0 (fun c h2=>?_) hM;have h3:=zau (z5a cs n) c.1;have h4:=hc c h2;omega
theorem zhH (h n s:Int):h+max 0 (n - (s+h))=max h (n - s):=by omega
def z1d (n:Nat):Array Value:=madeCells (Value.int .i64 0).cells (n * 1)
theorem z6p (n:Nat):(z1d n).size=n:=by rw [z1d,size_madeCells];omega
theorem zk4:(Tryz.prog.info? 3).map (fun i=>(i.zero,i.size,i.bytes))=some (some (Value.int .i64 0),1,8):=by kernel_rfl
theorem z5t (n:Nat) (hn:n≤1048576) (u:World):(Instr.makeSlice 36 (.int .i64 (n:Int)) (.int .i64 (n:Int))).run Tryz.prog u=.ok (.slice (some ⟨u.heap.size,0,none⟩) n n) (u.alloc (.cells (z1d n) 3)):=by
 obtain ⟨i0,hi,hz0,hz1,hz2⟩:=info_parts zk4;have h:=run_make (P:=Tryz.prog) u 36 3 i0 _ Tryz.underlying36 hi hz0 .i64 .i64 (n:Int) (n:Int) (by omega) (Int.le_refl _) (by rw [hz2];omega) (by omega);rw [hz1,Int.toNat_natCast] at h;exact h
end
section
open Go.RowKit Go.Shelf Go.Lib
shelf_lay Lays.n212 Nm 212 at Tryz as bitsMul
def z9J (L:List Value) (k:Nat):Prop:=∀ i,i < k→L[i]?=some (.int .i64 1)
theorem zbd {L:List Value} {k c:Nat} (h:z9J L k) (hc:k+c≤L.length):z9J (splice L k (List.replicate c (.int .i64 1))) (k+c):=by
 intro i hi;unfold splice;by_cases e:i < k
 ·rw [List.getElem?_append_left (by simp;omega),List.getElem?_take_of_lt e];exact h i e
 ·rw [List.getElem?_append_right (by simp;omega),List.getElem?_append_left (by simp;omega)];rw [List.getElem?_replicate,if_pos (by rw [List.length_take];omega)]
theorem uI:(Tryz.prog.info? 3).map (·.size)=some 1:=by kernel_rfl
theorem zeQ (b n:Nat) (h1:1≤n) (hn:n≤100) (w:World) (hb:b < w.heap.size) (hx:w.cell? ⟨b,0,none⟩=some (.int .i64 1)) :
  Calls Tryz.prog 131 #[.slice (some ⟨b,0,none⟩) 1 1,.int .i64 n] w fun e w'=>∃ a cap,e=.returned (.slice a n cap)∧zq w' w.heap.size w'.heap.size (.slice a n cap) (List.replicate n 1)∧Below w.heap.size w w':=by
 have hmul:=fun W=>Any.bits_Mul bitsMul 1 n (by omega) (by omega) W;change ∀ W,Calls Tryz.prog 148 _ _ _ at hmul;have em1:1 * n / 18446744073709551616=0:=(by omega);have em2:1 * n % 18446744073709551616=n:=(by omega);rw [em1,em2] at hmul;have HM:=Hd hmul;have hmk:=z5t n (by omega);have hn0:¬ (n:Int) < 0:=(by omega);clear hmul em1 em2;go_enter Tryz.func131,Tryz.ntmps131;go_wp2_with fail
 refine (HM.out _).mono ?_;rintro e w1 ⟨rfl,e1⟩
 cases e1
 have hcp:=run_copy_row (P:=Tryz.prog) (w.alloc (.cells (z1d n) 3)) 36 36 3 3 w.heap.size 0 n n ⟨b,0,none⟩ 1 1 (z1d n) 3 [.int .i64 1] Tryz.underlying36 uI (zj _ _) (by simp [Nat.min_def];omega)
  (fun j v hv=>by
   match j,hv with
   | 0,hv=>simp at hv;subst hv;rw [show (⟨b,0,none⟩:Addr).add 0=⟨b,0,none⟩ from rfl];exact ((ze (Below.refl w.heap.size w) _).cell (p:=⟨b,0,none⟩) hb).trans hx)
  (by rw [z6p];simp;omega) (fun v hv=>by simp at hv;subst hv;rfl)
 obtain ⟨w2,hw2⟩:∃ w2,w2=(w.alloc (.cells (z1d n) 3)).setRow w.heap.size ((z1d n).toList.take 0 ++ [Value.int .i64 1] ++ (z1d n).toList.drop (0+[Value.int .i64 1].length)).toArray:=⟨_,rfl⟩;rw [← hw2] at hcp
 have HG:Hid (w2.heap[w.heap.size]?=some (.cells (splice (z1d n).toList 0 [.int .i64 1]).toArray 3 (0,0))):=by
  rw [hw2];show _=_;rw [setRow_heap _ _ _ _ _ _ (zj _ _)];simp [splice]
 have hB:Below w.heap.size w w2:=(by rw [hw2];exact below_setRow (ze (Below.refl _ _) _) (Nat.le_refl _) _);clear hw2;go_wp2_with fail
 clear hcp;have HB:=Hd hB
 have HO:Hid (z9J (splice (z1d n).toList 0 [.int .i64 1]) 1):=by
  have:=zbd (L:=(z1d n).toList) (k:=0) (c:=1) (fun i hi=>absurd hi (Nat.not_lt_zero _)) (by rw [Array.length_toList,z6p];omega);exact this
 have hL0:(z1d n).toList.length=n:=(by rw [Array.length_toList,z6p]);have hL:(splice (z1d n).toList 0 [.int .i64 1]).length=n:=(by rw [length_splice _ _ _ (by rw [hL0];exact h1),hL0]);have hz2:w.heap.size < w2.heap.size:=(bL HG.out);generalize splice (z1d n).toList 0 [.int .i64 1]=L0 at HG HO hL;clear hB hmk;go_loopw [8] (fun s8 W=>∃ (k:Nat) (L:List Value),s8=.int .i64 k∧1≤k∧k≤n∧L.length=n∧Hid (W.heap[w.heap.size]?=some (.cells L.toArray 3 (0,0)))∧Hid (z9J L k)∧Hid (Below w.heap.size w W)∧w.heap.size < W.heap.size) (fun s8 _=>n - (intOf s8).toNat)
 case atStart=>exact ⟨1,L0,rfl,Nat.le_refl _,h1,hL,HG,HO,HB,hz2⟩
 case round =>
  clear HG HO HB hz2 hL;obtain ⟨k,L,rfl,hk1,hk2,hL,HG,HO,HB,hz⟩:=hrel;have HL:=Hd hL;clear hL;by_cases hlt:k < n
  ·have hltz:(k:Int) < (n:Int):=(by omega);obtain ⟨c,hc⟩:∃ c,c=min k (n - k):=⟨_,rfl⟩;have hc1:1≤c:=(by rw [hc,Nat.min_def];split <;> omega);have hc2:k+c≤n:=(by rw [hc,Nat.min_def];split <;> omega);have HC:=Hd hc;have HN:=Hd (zbd (c:=c) HO.out (by rw [HL.out];exact hc2));have HL2:Hid ((splice L k (List.replicate c (.int .i64 1))).length=n):=(by show _=_;rw [length_splice _ _ _ (by rw [HL.out];simp;omega)];exact HL.out);obtain ⟨cs,hcs⟩:∃ cs:List Value,cs=List.replicate c (.int .i64 1):=⟨_,rfl⟩;rw [← hcs] at HN HL2;have hcl:cs.length=c:=(by rw [hcs];simp);have HCS:=Hd hcs;have HCL:=Hd hcl;clear hc hcs hcl
   have hcp:=run_copy_row (P:=Tryz.prog) wr.drew 36 36 3 3 w.heap.size k (n - k) (n - k) ⟨w.heap.size,0,none⟩ k n L.toArray 3 cs Tryz.underlying36 uI HG.out (by rw [HCL.out,HC.out])
    (fun j v hv=>by
     have hj:j < cs.length:=(List.getElem?_eq_some_iff.1 hv).1;rw [HCL.out] at hj;rw [HCS.out,List.getElem?_replicate,if_pos hj] at hv;rw [Go.WideShapes.add_plain,Nat.zero_add];have e:c≤k:=(by rw [HC.out];exact Nat.min_le_left _ _);show wr.cell? _=_;rw [zf HG.out,List.getElem?_toArray,HO.out j (by omega)];exact hv)
    (by rw [HCL.out];simp;rw [HL.out];exact hc2) (fun v hv=>by rw [HCS.out] at hv;rw [(List.mem_replicate.1 hv).2];rfl)
   rw [HCL.out] at hcp;obtain ⟨w3,hw3⟩:∃ w3,w3=wr.drew.setRow w.heap.size (L.toArray.toList.take k ++ cs ++ L.toArray.toList.drop (k+c)).toArray:=⟨_,rfl⟩;rw [← hw3] at hcp
   have HG3:Hid (w3.heap[w.heap.size]?=some (.cells (splice L k cs).toArray 3 (0,0))):=by
    rw [hw3];show _=_;rw [setRow_heap wr.drew _ _ _ _ _ HG.out];simp [splice,HCL.out]
   have HB3:Hid (Below w.heap.size w w3):=(by rw [hw3];exact below_setRow (z1a HB.out) (Nat.le_refl _) _);have hz3:w.heap.size < w3.heap.size:=(bL HG3.out);clear hw3;generalize splice L k cs=L3 at HG3 HN HL2;have hk0:(0:Int)≤(k:Int):=(by omega);have enk:((n:Int) - (k:Int)).toNat=n - k:=(by omega);go_wp2_with fail
   go_region
   all_goals
    go_wp2;go_roundw
    case rel=>exact ⟨k+c,L3,by go_num,by omega,hc2,HL2.out,HG3,HN,HB3,hz3⟩
    case measure=>simp [intOf];omega
  ·obtain rfl:k=n:=by omega
   go_wp2;go_ret
   exact ⟨_,_,rfl,.inr ⟨w.heap.size,k,L.toArray,by simp,Nat.le_refl _,hz,HG.out,by simp,by unfold maxLen;omega,by simpa using HL.out,fun i hi=>by
    rw [List.length_replicate] at hi;rw [List.getElem?_toArray,HO.out i hi];simp [List.getD,hi]⟩,HB.out⟩
end
section
open Go.RowKit
theorem z7A (v:Value) (l:List Int) (hl:l.length≤1000) (hw:l.all wtB=true) (w:World) (h:zu w v l) :
  Calls Tryz.prog 55 #[v] w fun e w'=>e=.returned (.int .i64 l.sum)∧w'=w:=by
 obtain ⟨a,cap,rfl,_⟩:=h.form;have H:=Hd h;have HW:=Hd (z4d hw);have HG:=Hd (fun i hi=>z2W (i:=i) hw hi);clear h hw;go_enter Tryz.func55,Tryz.ntmps55;go_wp2_with fail
 go_loop [3,8] (fun s i=>∃ k:Nat,k≤l.length∧i=.int .i64 k∧s=.int .i64 (zF l k)) (fun _ i=>l.length - (intOf i).toNat)
 case atStart=>exact ⟨0,Nat.zero_le _,rfl,by simp [zF]⟩
 case round =>
  obtain ⟨k,hk,rfl,rfl⟩:=hrel;by_cases hlt:k < l.length
  ·obtain ⟨b,off,cap',e',hc1,hc2,hbl,hx⟩:=H.out.get hlt;simp only [Value.slice.injEq,true_and] at e';obtain ⟨rfl,rfl⟩:=e';have hb1:=HW.out k hk;have hb2:=HG.out k hlt;have HS:=Hd (z1A hlt);generalize l.getD k 0=x at hx HS hb2;generalize zF l k=s at HS hb1;unfold maxLen at hc2;go_wp2
   go_round
   case rel=>exact ⟨k+1,by omega,by go_num,by rw [HS.out]⟩
   case measure=>simp [intOf];omega
  ·obtain rfl:k=l.length:=by omega
   have HE:=Hd (z1v l);go_wp2;go_ret;exact ⟨by rw [← HE.out];rfl,rfl⟩
theorem zge (t:Int) (v:Value) (l:List Int) (w:World) (h:zu w v l) :
  Calls Tryz.prog 147 #[.int .i64 t,v] w fun e w'=>e=.returned (.bool (zB t l))∧w'=w:=by
 obtain ⟨a,cap,rfl,hlen⟩:=h.form;have H:=Hd h;clear h;have HC:=Hd (fun n=>zO n 0 100000);by_cases ht:wtB t=true
 ·by_cases hl:(100:Int) < (l.length:Int)
  ·have HF:Hid (zB t l=false):=(by show _=_;simp [zB];omega);go_enter Tryz.func147,Tryz.ntmps147;go_wp2_with fail
   refine (HC.out _ _).mono ?_;rintro e w1 ⟨rfl,rfl⟩;rw [z7F,ht];go_wp2;go_ret;exact ⟨zN HF.out.symm,rfl⟩
  ·go_enter Tryz.func147,Tryz.ntmps147;go_wp2_with fail
   refine (HC.out _ _).mono ?_;rintro e w1 ⟨rfl,rfl⟩;rw [z7F,ht];go_wp2_with fail
   go_loop [17] (fun i=>∃ k:Nat,k≤l.length∧i=.int .i64 k∧Hid ((l.take k).all wtB=true)) (fun i=>l.length - (intOf i).toNat)
   case atStart=>exact ⟨0,Nat.zero_le _,rfl,by simp [Hid]⟩
   case round =>
    obtain ⟨k,hk,rfl,HA⟩:=hrel;by_cases hlt:k < l.length
    ·obtain ⟨b,off,cap',e',hc1,hc2,hbl,hx⟩:=H.out.get hlt;simp only [Value.slice.injEq,true_and] at e';obtain ⟨rfl,rfl⟩:=e';unfold maxLen at hc2;by_cases hy:wtB (l.getD k 0)=true
     ·have HN:=Hd (zh6 hlt HA.out hy);generalize l.getD k 0=x at hx hy;go_wp2_with fail
      refine (HC.out _ _).mono ?_;rintro e w1 ⟨rfl,rfl⟩;rw [z7F,hy];go_wp2
      go_round
      case rel=>exact ⟨k+1,by omega,by go_num,HN⟩
      case measure=>simp [intOf];omega
     ·have hy':=eq_false_of_ne_true hy;have HF:Hid (zB t l=false):=(by show _=_;simp only [zB,zir hlt hy',Bool.and_false]);generalize l.getD k 0=x at hx hy';go_wp2_with fail
      refine (HC.out _ _).mono ?_;rintro e w1 ⟨rfl,rfl⟩;rw [z7F,hy'];go_wp2;go_ret;exact ⟨zN HF.out.symm,rfl⟩
    ·obtain rfl:k=l.length:=by omega
     have HF:Hid (zB t l=true):=(by have h1:=HA.out;rw [List.take_length] at h1;show _=_;simp only [zB,ht,h1,Bool.and_true,Bool.true_and,decide_eq_true_eq];omega);go_wp2;go_ret;exact ⟨zN HF.out.symm,rfl⟩
 ·have ht':=eq_false_of_ne_true ht;have HF:Hid (zB t l=false):=(by show _=_;simp only [zB,ht',Bool.false_and]);go_enter Tryz.func147,Tryz.ntmps147;go_wp2_with fail
  refine (HC.out _ _).mono ?_;rintro e w1 ⟨rfl,rfl⟩;rw [z7F,ht'];go_wp2;go_ret;exact ⟨zN HF.out.symm,rfl⟩
def z7c (t:Int) (l:List Int) (k:Int):Int:=if zB t l && inB k 0 (l.length - 1) && l.sum != 0 then t * l.getD k.toNat 0 / l.sum else 0
theorem z60 {t:Int} {l:List Int} {k:Int} (h1:zB t l=true) (h2:inB k 0 (l.length - 1)=true) (h3:l.sum ≠ 0):z7c t l k=t * l.getD k.toNat 0 / l.sum:=by
 rw [z7c,if_pos];simp [h1,h2,h3]
theorem z5z {t x:Int} (h1:0≤t∧t≤100000) (h2:0≤x∧x≤100000):0≤t * x∧t * x≤10000000000 :=
 ⟨Int.mul_nonneg h1.1 h2.1,Int.le_trans (Int.mul_le_mul h1.2 h2.2 h2.1 (by omega)) (by omega)⟩
end
section
open Go.RowKit Go.Shelf Go.Lib Go.Sort
structure Cl where
 p:Int
 w:Int
 o:Int
deriving Inhabited
def z1J (x:Cl):List Value:=[.int .i64 x.p,.int .i64 x.w,.int .i64 x.o]
def cfC (x y:Cl):Int:=if y.o < x.o then -1 else if x.o < y.o then 1 else 0
theorem z98 (x:Cl):(z1J x).length=3:=rfl
theorem z99 (x:Cl):∀ v ∈ z1J x,v.oneCell'=true:=fun v hv=>by simp [z1J] at hv;rcases hv with rfl | rfl | rfl <;> rfl
def wts (l:List Int):List Int:=if l.sum=0 then List.replicate l.length 1 else l
theorem z3w (l:List Int):(wts l).length=l.length:=by unfold wts;split <;> simp
theorem z69:∀ n:Nat,(List.replicate n (1:Int)).sum=n
 | 0=>rfl
 | n+1=>by rw [List.replicate_succ,List.sum_cons,z69 n];omega
theorem z80 {l:List Int} (h:l.all wtB=true):(wts l).all wtB=true:=by
 unfold wts
 split
 ·rw [List.all_eq_true];intro x hx;rw [(List.mem_replicate.1 hx).2];rfl
 ·exact h
theorem z5b {l:List Int} (h:l.all wtB=true) (h0:0 < l.length):0 < (wts l).sum:=by
 unfold wts
 split
 ·rw [z69];omega
 ·have:=(z2z h).1;omega
def cl (t:Int) (u:List Int) (i:Nat):Cl:=⟨i,t * u.getD i 0 / u.sum,t * u.getD i 0 % u.sum⟩
def clL (t:Int) (u:List Int):List Cl:=(List.range u.length).map (cl t u)
theorem z4D (t:Int) (u:List Int):(clL t u).length=u.length:=by simp [clL]
theorem zav {t:Int} {u:List Int} {i:Nat} (h:i < u.length):(clL t u)[i]?=some (cl t u i):=by simp [clL,h]
theorem z8t {t:Int} {u:List Int} {i:Nat} (h:i < u.length):(clL t u).toArray[i]! = cl t u i:=by
 rw [getElem!_def,List.getElem?_toArray,zav h]
def z9K (n:Nat):Array Value:=madeCells (Value.agg #[.int .i64 0,.int .i64 0,.int .i64 0]).cells (n * 3)
theorem z9L (n:Nat):(z9K n).size=n * 3:=by rw [z9K,size_madeCells]
theorem zjs:(Tryz.prog.info? 143).map (fun i=>(i.zero,i.size,i.bytes))=some (some (Value.agg #[.int .i64 0,.int .i64 0,.int .i64 0]),3,24):=by kernel_rfl
theorem zjt (n:Nat) (hn:n≤1048576) (u:World):(Instr.makeSlice 140 (.int .i64 (n:Int)) (.int .i64 (n:Int))).run Tryz.prog u=.ok (.slice (some ⟨u.heap.size,0,none⟩) n n) (u.alloc (.cells (z9K n) 143)):=by
 obtain ⟨i0,hi,hz0,hz1,hz2⟩:=info_parts zjs;have h:=run_make (P:=Tryz.prog) u 140 143 i0 _ Tryz.underlying140 hi hz0 .i64 .i64 (n:Int) (n:Int) (by omega) (Int.le_refl _) (by rw [hz2];omega) (by omega);rw [hz1,Int.toNat_natCast] at h;exact h
def z7d (arr:Array Value) (L:Nat→Cl) (k:Nat):Prop:=∀ i,i < k→arr[i * 3]?=some (.int .i64 (L i).p)∧arr[i * 3+1]?=some (.int .i64 (L i).w)∧arr[i * 3+2]?=some (.int .i64 (L i).o)
theorem z7d.next {arr:Array Value} {L:Nat→Cl} {k n:Nat} (h:z7d arr L k) (hs:arr.size=n * 3) (hk:k < n) :
  z7d (((arr.setIfInBounds (k * 3) (.int .i64 (L k).p)).setIfInBounds (k * 3+1) (.int .i64 (L k).w)).setIfInBounds (k * 3+2) (.int .i64 (L k).o)) L (k+1):=by
 have eq:∀ (A:Array Value) (i:Nat) (v:Value),i < A.size→(A.setIfInBounds i v)[i]?=some v:=fun A i v hi=>by simp [hi]
 intro i hi
 rcases Nat.lt_or_eq_of_le (Nat.lt_succ_iff.1 hi) with hlt | rfl
 ·obtain ⟨h1,h2,h3⟩:=h i hlt;refine ⟨?_,?_,?_⟩
  ·rw [Array.getElem?_setIfInBounds_ne (by omega),Array.getElem?_setIfInBounds_ne (by omega),Array.getElem?_setIfInBounds_ne (by omega)];exact h1
  ·rw [Array.getElem?_setIfInBounds_ne (by omega),Array.getElem?_setIfInBounds_ne (by omega),Array.getElem?_setIfInBounds_ne (by omega)];exact h2
  ·rw [Array.getElem?_setIfInBounds_ne (by omega),Array.getElem?_setIfInBounds_ne (by omega),Array.getElem?_setIfInBounds_ne (by omega)];exact h3
 ·refine ⟨?_,?_,?_⟩
  ·rw [Array.getElem?_setIfInBounds_ne (by omega),Array.getElem?_setIfInBounds_ne (by omega)];exact eq _ _ _ (by omega)
  ·rw [Array.getElem?_setIfInBounds_ne (by omega)];exact eq _ _ _ (by rw [Array.size_setIfInBounds];omega)
  ·exact eq _ _ _ (by rw [Array.size_setIfInBounds,Array.size_setIfInBounds];omega)
theorem zcy {w:World} {g n:Nat} {arr:Array Value} {T:TypeId} {L:Nat→Cl} {d:Array Cl} (hg:w.heap[g]?=some (.cells arr T)) (ha:z7d arr L n) (hd:d.size=n) (hL:∀ i,i < n→d[i]! = L i):HoldsK z1J 3 w g 0 d:=by
 intro j hj;rw [size_flatK,hd] at hj;have hq:j / 3 < n:=(by omega);obtain ⟨h1,h2,h3⟩:=ha (j / 3) hq;refine ⟨?_,zM hg⟩;rw [Nat.zero_add,zf hg,get_flatK _ _ _ _ (by rw [hd];exact hj),hL _ hq];show arr[j]?=some ((z1J (L (j / 3)))[j % 3]!)
 rcases (by omega:j % 3=0∨j % 3=1∨j % 3=2) with e | e | e
 ·rw [e];rw [show j=j / 3 * 3 by omega];rw [Nat.mul_div_cancel _ (by omega)];exact h1
 ·rw [e,show arr[j]?=arr[j / 3 * 3+1]? from by congr 1;omega];exact h2
 ·rw [e,show arr[j]?=arr[j / 3 * 3+2]? from by congr 1;omega];exact h3
theorem z9M {w:World} {g:Nat} {arr:Array Value} {t:Int} {u:List Int} (hg:w.heap[g]?=some (.cells arr 143)) (ha:z7d arr (cl t u) u.length):RowK z1J 3 w g 0 (clL t u).toArray :=
 ⟨z98,z99,zcy hg ha (by simp [z4D]) (fun _ hi=>z8t hi),(bL hg)⟩
theorem z81 {a s:Int} (hs:0 < s):0≤a % s∧a % s < s:=⟨Int.emod_nonneg _ (by omega),Int.emod_lt_of_pos _ hs⟩
theorem zcz (t:Int) (v:Value) (l:List Int) (ht:0≤t∧t≤100000) (h0:0 < l.length) (hl:l.length≤100) (hw:l.all wtB=true) (w:World) (h:zu w v l) :
  Calls Tryz.prog 105 #[.int .i64 t,v] w fun e w'=>∃ g,e=.returned (.slice (some ⟨g,0,none⟩) l.length l.length)∧w.heap.size≤g∧RowK z1J 3 w' g 0 (clL t (wts l)).toArray∧Below w.heap.size w w':=by
 obtain ⟨a,cap,rfl,_⟩:=h.form;have H:=Hd h;clear h;have HS:=Hd (fun W=>z7A (.slice a l.length cap) l (by omega) hw W);have hmk:=zjt l.length (by omega);have hpos:=z5b hw h0;have hsb:=z2z (z80 hw);rw [z3w] at hsb;have HWT:=Hd (z80 hw);have HLN:=Hd (z3w l);by_cases hz:l.sum=0
 ·have hwt:wts l=List.replicate l.length 1:=(by rw [wts,if_pos hz]);have hsum:(wts l).sum=l.length:=(by rw [hwt,z69]);have HZ:=Hd hz;have HSM:=Hd hsum;have HU:=Hd hwt;rw [hz] at HS;rw [hsum] at hpos hsb;generalize wts l=u at HWT HLN HSM HU ⊢;clear hz hsum hwt hw;go_enter Tryz.func105,Tryz.ntmps105;go_wp2_with fail
  refine (HS.out _ H.out).mono ?_;rintro e w1 ⟨rfl,e1⟩
  cases e1
  go_wp2_with fail
  refine (zeQ w.heap.size l.length h0 hl _ (by simp) (by simp)).mono ?_;rintro e w2 ⟨a2,cap2,rfl,hr2,hb2⟩
  have R2:Hid (zu w2 (.slice a2 l.length cap2) u):=by
   have:=hr2.at;rw [← HU.out] at this;exact this
  have K2:=Hd (zh (ze (Below.refl w.heap.size w) (.cells #[.int .i64 1] 3)) hb2);clear hr2 hb2;go_wp2_with fail
  clear hmk;have hw2:=K2.out.size;go_loopw [24] (fun i W=>∃ (k:Nat) (arr:Array Value),k≤l.length∧i=.int .i64 k∧Hid (W.heap[w2.heap.size]?=some (.cells arr 143))∧arr.size=l.length * 3∧Hid (z7d arr (cl t u) k)∧Hid (Below w2.heap.size w2 W)) (fun i _=>l.length - (intOf i).toNat)
  case atStart=>exact ⟨0,z9K l.length,Nat.zero_le _,rfl,zj _ _,z9L _,fun i hi=>absurd hi (Nat.not_lt_zero _),ze (Below.refl _ _) _⟩
  case round =>
   obtain ⟨k,arr,hk,rfl,HBk,hsz,HA,HB⟩:=hrel;by_cases hlt:k < l.length
   ·have hku:k < u.length:=(by rw [HLN.out];exact hlt);obtain ⟨b,off,cap',e',hc1,hc2,hbl,hx⟩:=(R2.out.kept HB.out).get hku;rw [HLN.out] at e' hc1;simp only [Value.slice.injEq,true_and] at e';obtain ⟨rfl,rfl⟩:=e';have hx0:=z2W HWT.out hku;have hm:=z5z ht hx0;have HN:=Hd (HA.out.next (n:=l.length) hsz hlt);have ecl:cl t u k=⟨k,t * u.getD k 0 / l.length,t * u.getD k 0 % l.length⟩:=(by rw [cl,HSM.out]);rw [ecl] at HN;generalize u.getD k 0=x at hx hx0 hm HN;clear ecl hku;unfold maxLen at hc2;obtain ⟨y0,q0⟩:=z8q (p:=k * 3) HBk.out (by omega);obtain ⟨y1,q1⟩:=z8q (p:=k * 3+1) HBk.out (by omega);obtain ⟨y2,q2⟩:=z8q (p:=k * 3+2) HBk.out (by omega);have fz:∀ p,wr.frozen? ⟨w2.heap.size,p,none⟩=false:=fun p=>zM HBk.out;have hdv:=Int.ediv_nonneg hm.1 (show (0:Int)≤(l.length:Int) by omega);have hdw:=Int.le_trans (Int.ediv_le_self (l.length:Int) hm.1) hm.2;have hrm:=z81 (a:=t * x) (s:=(l.length:Int)) (by omega);go_wp2_with fail
    go_region
    all_goals
     go_wp2;go_roundw
     case rel=>exact ⟨k+1,_,by omega,by go_num,z0l (z0l (z0l HBk.out _) _) _,by rw [Array.size_setIfInBounds,Array.size_setIfInBounds,Array.size_setIfInBounds];exact hsz,HN,z2j (z2j (z2j (z1a HB.out) (Nat.le_refl _) _) (Nat.le_refl _) _) (Nat.le_refl _) _⟩
     case measure=>simp [intOf];omega
   ·obtain rfl:k=l.length:=by omega
    go_wp2;go_ret;exact ⟨_,rfl,hw2,z9M HBk.out (by rw [HLN.out];exact HA.out),zh K2.out HB.out⟩
 ·have hwt:wts l=l:=(by rw [wts,if_neg hz]);rw [hwt] at hpos hsb ⊢;have hzb:(l.sum == 0)=false:=(by simpa using hz);have HG:=Hd (fun i hi=>z2W (i:=i) hw hi);have HSM:Hid (∀ k,cl t l k=⟨k,t * l.getD k 0 / l.sum,t * l.getD k 0 % l.sum⟩):=fun _=>rfl;generalize l.sum=s at HS HSM hpos hsb hzb hz;clear HWT HLN hwt hw;go_enter Tryz.func105,Tryz.ntmps105;go_wp2_with fail
  refine (HS.out _ H.out).mono ?_;rintro e w1 ⟨rfl,e1⟩
  cases e1
  go_wp2_with fail
  clear hmk;go_loopw [24] (fun i W=>∃ (k:Nat) (arr:Array Value),k≤l.length∧i=.int .i64 k∧Hid (W.heap[w.heap.size]?=some (.cells arr 143))∧arr.size=l.length * 3∧Hid (z7d arr (cl t l) k)∧Hid (Below w.heap.size w W)) (fun i _=>l.length - (intOf i).toNat)
  case atStart=>exact ⟨0,z9K l.length,Nat.zero_le _,rfl,zj _ _,z9L _,fun i hi=>absurd hi (Nat.not_lt_zero _),ze (Below.refl _ _) _⟩
  case round =>
   obtain ⟨k,arr,hk,rfl,HBk,hsz,HA,HB⟩:=hrel;by_cases hlt:k < l.length
   ·obtain ⟨b,off,cap',e',hc1,hc2,hbl,hx⟩:=(H.out.kept HB.out).get hlt;simp only [Value.slice.injEq,true_and] at e';obtain ⟨rfl,rfl⟩:=e';have hx0:=HG.out k hlt;have hm:=z5z ht hx0;have HN:=Hd (HA.out.next (n:=l.length) hsz hlt);rw [HSM.out k] at HN;generalize l.getD k 0=x at hx hx0 hm HN;unfold maxLen at hc2;obtain ⟨y0,q0⟩:=z8q (p:=k * 3) HBk.out (by omega);obtain ⟨y1,q1⟩:=z8q (p:=k * 3+1) HBk.out (by omega);obtain ⟨y2,q2⟩:=z8q (p:=k * 3+2) HBk.out (by omega);have fz:∀ p,wr.frozen? ⟨w.heap.size,p,none⟩=false:=fun p=>zM HBk.out;have hdv:=Int.ediv_nonneg hm.1 (show (0:Int)≤s by omega);have hdw:=Int.le_trans (Int.ediv_le_self s hm.1) hm.2;have hrm:=z81 (a:=t * x) (s:=s) (by omega);go_wp2_with fail
    go_region
    all_goals
     go_wp2;go_roundw
     case rel=>exact ⟨k+1,_,by omega,by go_num,z0l (z0l (z0l HBk.out _) _) _,by rw [Array.size_setIfInBounds,Array.size_setIfInBounds,Array.size_setIfInBounds];exact hsz,HN,z2j (z2j (z2j (z1a HB.out) (Nat.le_refl _) _) (Nat.le_refl _) _) (Nat.le_refl _) _⟩
     case measure=>simp [intOf];omega
   ·obtain rfl:k=l.length:=by omega
    go_wp2;go_ret;exact ⟨_,rfl,Nat.le_refl _,z9M HBk.out HA.out,HB.out⟩
end
section
open Go.RowKit
def z0W (t:Int) (l:List Int):Nat→Int
 | 0=>0
 | k+1=>z0W t l k+z7c t l k
theorem z61 {l:List Int} {k:Nat} (h:k < l.length):inB (k:Int) 0 ((l.length:Int) - 1)=true:=z4n (by omega) (by omega)
theorem zhI {a s:Int} (hs:0 < s):s * (a / s)≤a∧a≤s * (a / s)+(s - 1):=by
 have h1:=Int.mul_ediv_add_emod a s;have h2:=Int.emod_nonneg a (show s ≠ 0 by omega);have h3:=Int.emod_lt_of_pos a hs
 constructor <;> omega
theorem z9N {t:Int} {l:List Int} (h:zB t l=true) (hs:0 < l.sum):∀ k,k≤l.length→l.sum * z0W t l k≤t * zF l k∧t * zF l k≤l.sum * z0W t l k+k * (l.sum - 1)
 | 0,_=>by simp [z0W,zF]
 | k+1,hk=>by
  obtain ⟨h1,h2⟩:=z9N h hs k (by omega);have hlt:k < l.length:=(by omega);obtain ⟨h3,h4⟩:=zhI (a:=t * l.getD k 0) hs;rw [z0W,z60 h (z61 hlt) (by omega),z1A hlt,Int.toNat_natCast,Int.mul_add,Int.mul_add];have e:((k+1:Nat):Int) * (l.sum - 1)=(k:Int) * (l.sum - 1)+(l.sum - 1):=(by rw [Int.natCast_add,Int.add_mul];simp);rw [e]
  constructor <;> omega
theorem z4Q {t:Int} {l:List Int} (h:zB t l=true) (hs:0 < l.sum):z0W t l l.length≤t∧t - l.length < z0W t l l.length:=by
 obtain ⟨h1,h2⟩:=z9N h hs l.length (Nat.le_refl _);rw [z1v] at h1 h2
 have hl:0 < l.length:=by
  rcases Nat.eq_zero_or_pos l.length with h0 | h0
  ·rw [List.eq_nil_of_length_eq_zero h0] at hs;simp at hs
  ·exact h0
 generalize l.sum=s at *;generalize z0W t l l.length=d at *;generalize l.length=n at *;rw [Int.mul_comm t s] at h1 h2;constructor
 ·exact Int.le_of_mul_le_mul_left h1 hs
 ·apply Int.lt_of_mul_lt_mul_left (a:=s) _ (by omega);rw [Int.mul_sub];have e:(n:Int) * (s - 1)=s * n - n:=(by rw [Int.mul_sub,Int.mul_one,Int.mul_comm]);omega
theorem z8P {t:Int} {l:List Int} (k:Int):0≤z7c t l k∧z7c t l k≤10000000000:=by
 by_cases h:(zB t l && inB k 0 (l.length - 1) && l.sum != 0)=true
 ·rw [z7c,if_pos h];simp only [Bool.and_eq_true,bne_iff_ne] at h;obtain ⟨⟨h1,h2⟩,h3⟩:=h;obtain ⟨ht,hl,hw⟩:=z03 h1;have hk:0≤k∧k≤(l.length:Int) - 1:=(by simpa [inB] using h2);have hm:=z5z ht (z2W hw (i:=k.toNat) (by omega));have hs:=(z2z hw).1;exact ⟨Int.ediv_nonneg hm.1 hs,Int.le_trans (Int.ediv_le_self _ hm.1) hm.2⟩
 ·rw [z7c,if_neg h];omega
theorem z5L {t:Int} {l:List Int}:∀ k:Nat,0≤z0W t l k∧z0W t l k≤k * 10000000000
 | 0=>by simp [z0W]
 | k+1=>by
  have h1:=z5L (t:=t) (l:=l) k;have h2:=z8P (t:=t) (l:=l) k;rw [z0W];omega
end
section
open Go.Sort
theorem ziR (x y:Cl):ltOf cfC x y=decide (y.o < x.o):=by
 unfold ltOf cfC
 split
 ·simp;omega
 ·split <;> (simp;omega)
def tB (x y:Cl):Bool:=decide (y.o < x.o∨(x.o=y.o∧(x.p < y.p∨(x.p=y.p∧x.w < y.w))))
theorem z6a (x y:Cl):tB x y=true ↔ (y.o < x.o∨(x.o=y.o∧(x.p < y.p∨(x.p=y.p∧x.w < y.w)))):=by simp [tB]
theorem z82 (x y:Cl):tB x y=false ↔ ¬ (y.o < x.o∨(x.o=y.o∧(x.p < y.p∨(x.p=y.p∧x.w < y.w)))):=by rw [← z6a];simp
theorem z4c:SWO tB where
 irrefl:=fun x=>by rw [z82];omega
 trans:=fun x y z h1 h2=>by rw [z6a] at *;omega
 ntrans:=fun x y z h1 h2=>by rw [z82] at *;omega
theorem zhJ (x y:Cl) (h1:tB x y=false) (h2:tB y x=false):x=y:=by
 rw [z82] at h1 h2;obtain ⟨a,b,c⟩:=x;obtain ⟨a',b',c'⟩:=y;simp only at h1 h2;obtain rfl:a=a':=by omega
 obtain rfl:b=b':=by omega
 obtain rfl:c=c':=by omega
 rfl
theorem zbY {x y:Cl} (h:y.p < x.p):ltOf cfC x y=tB x y:=by
 rw [ziR,Bool.eq_iff_iff,z6a,decide_eq_true_eq];omega
theorem z6b {x y:Cl} (h:tB x y=true):tB y x=false:=z4c.asymmA h
theorem z9O (lt:Cl→Cl→Bool) (a b:Nat):∀ (j:Nat) (d:Array Cl),a≤j→j < b→b≤d.size→PermIn a b d (insInner lt a j d)
 | 0,d,_,_,_=>by unfold insInner;exact permIn_refl d a b
 | j+1,d,haj,hjb,hb=>by
  unfold insInner
  split
  ·rename_i hc
   simp only [Bool.and_eq_true,decide_eq_true_eq] at hc;exact permIn_trans _ _ _ a b (swp_permIn d a b (j+1) j haj hjb (by omega) (by omega) hb) (z9O lt a b j _ (by omega) (by omega) (by rw [size_swp];exact hb))
  ·exact permIn_refl d a b
theorem zcA (a:Nat):∀ (j:Nat) (d:Array Cl),j < d.size→(∀ q,a≤q→q < j→d[q]!.p < d[j]!.p)→insInner (ltOf cfC) a j d=insInner tB a j d
 | 0,d,_,_=>by unfold insInner;rfl
 | j+1,d,hj,h=>by
  unfold insInner;by_cases ha:j+1 > a
  ·have e:ltOf cfC d[j+1]! d[j]! = tB d[j+1]! d[j]! := zbY (h j (by omega) (by omega));rw [e]
   cases hc:tB d[j+1]! d[j]!
   ·simp
   ·simp only [ha,decide_true,Bool.and_self,if_true];refine zcA a j _ (by rw [size_swp];omega) (fun q h1 h2=>?_);rw [swp_right _ _ _ (by omega),swp_other _ _ _ _ (by omega) (by omega)];exact h q h1 (by omega)
  ·simp [ha]
theorem zcB (a b:Nat):∀ (n i:Nat) (d:Array Cl),b - i=n→a < i→b≤d.size→(∀ x y,a≤x→x < y→i≤y→y < b→d[x]!.p < d[y]!.p)→insOuter (ltOf cfC) a b i d=insOuter tB a b i d
 | 0,i,d,hn,_,_,_=>by rw [insOuter_stop _ _ _ _ _ (by omega),insOuter_stop _ _ _ _ _ (by omega)]
 | n+1,i,d,hn,hai,hb,h=>by
  have hlt:i < b:=(by omega);rw [insOuter_go _ _ _ _ _ hlt,insOuter_go _ _ _ _ _ hlt,zcA a i d (by omega) (fun q h1 h2=>h q i h1 h2 (Nat.le_refl _) hlt)];have hP:=z9O tB a (i+1) i d (by omega) (by omega) (by omega);refine zcB a b n (i+1) _ (by omega) (by omega) (by rw [hP.1];exact hb) (fun x y h1 h2 h3 h4=>?_);rw [hP.2.1 y (Or.inr h3)];by_cases hx:x < i+1
  ·exact permIn_all d _ a (i+1) (fun z=>z.p < d[y]!.p) (by omega) hP (fun q h5 h6=>h q y h5 (by omega) (by omega) h4) x h1 hx
  ·rw [hP.2.1 x (Or.inr (by omega))];exact h x y h1 h2 (by omega) h4
def Asc (a b:Nat) (d:Array Cl):Prop:=∀ x y,a≤x→x < y→y < b→d[x]!.p < d[y]!.p
theorem zbe (d:Array Cl) (a b:Nat) (hab:a≤b) (hb:b≤d.size) (h:Asc a b d):PermIn a b d (Sort.insertionSort (ltOf cfC) d a b)∧SortedIn tB a b (Sort.insertionSort (ltOf cfC) d a b):=by
 have e:Sort.insertionSort (ltOf cfC) d a b=Sort.insertionSort tB d a b:=by
  unfold Sort.insertionSort;exact zcB a b (b - (a+1)) (a+1) d rfl (by omega) hb (fun x y h1 h2 _ h4=>h x y h1 h2 h4)
 rw [e];exact insertionSort_holds z4c d a b hab hb
def z0u (t:Int) (u:List Int):List Int:=(clL t u).map (·.w)
theorem z0s (t:Int) (u:List Int):(z0u t u).length=u.length:=by simp [z0u,z4D]
theorem z4E {t:Int} {u:List Int} {i:Nat} (h:i < u.length):(z0u t u).getD i 0=t * u.getD i 0 / u.sum:=by
 rw [List.getD,z0u,List.getElem?_map,zav h];rfl
theorem z4F {t:Int} {l:List Int} (h:zB t l=true):zB t (wts l)=true:=by
 simp only [zB,Bool.and_eq_true] at h ⊢;obtain ⟨⟨h1,h2⟩,h3⟩:=h;exact ⟨⟨h1,by rw [z3w];exact h2⟩,z80 h3⟩
theorem z5c {t:Int} {u:List Int} (h:zB t u=true) (hs:0 < u.sum):∀ k,k≤u.length→zF (z0u t u) k=z0W t u k
 | 0,_=>by simp [zF,z0W]
 | k+1,hk=>by
  have hlt:k < u.length:=(by omega);rw [z1A (by rw [z0s];exact hlt),z5c h hs k (by omega),z4E hlt,z0W,z60 h (z61 hlt) (by omega),Int.toNat_natCast]
theorem z5M {t:Int} {u:List Int}:∀ {i j:Nat},i≤j→z0W t u i≤z0W t u j
 | i,0,h=>by
  obtain rfl:i=0:=by omega
  exact Int.le_refl _
 | i,j+1,h=>by
  rcases Nat.lt_or_eq_of_le h with h1 | rfl
  ·have:=z5M (t:=t) (u:=u) (i:=i) (j:=j) (by omega);have:=(z8P (t:=t) (l:=u) j).1;rw [z0W];omega
  ·exact Int.le_refl _
def z2v (t:Int) (u:List Int):Nat:=(t - z0W t u u.length).toNat
theorem z62 {t:Int} {u:List Int} (h:zB t u=true) (hs:0 < u.sum):(z2v t u:Int)=t - z0W t u u.length∧z2v t u < u.length:=by
 have:=z4Q h hs;unfold z2v;omega
theorem zju (t:Int) (u:List Int):Asc 0 (clL t u).toArray.size (clL t u).toArray:=by
 intro x y _ h1 h2;have h3:y < u.length:=(by simpa [z4D] using h2);rw [z8t (by omega),z8t h3];show (x:Int) < (y:Int);omega
def zW (t:Int) (u:List Int):List Cl:=(clL t u).mergeSort (fun x y=>!tB y x)
theorem z5d (t:Int) (u:List Int):(zW t u).length=u.length:=by rw [zW,List.length_mergeSort,z4D]
theorem z6c {t:Int} {u:List Int} {c:Cl} (h:c ∈ zW t u):∃ i,i < u.length∧c=cl t u i:=by
 rw [zW,List.mem_mergeSort,clL,List.mem_map] at h;obtain ⟨i,h1,h2⟩:=h;exact ⟨i,List.mem_range.1 h1,h2.symm⟩
theorem zjv {t:Int} {u:List Int} {d:Array Cl} (hp:PermIn 0 (clL t u).toArray.size (clL t u).toArray d) (hs:SortedIn tB 0 (clL t u).toArray.size d):d=(zW t u).toArray:=by
 have h:=sorted_unique_holds z4c zhJ (clL t u).toArray d hp hs;apply Array.toList_inj.1;rw [h];simp [zW]
def z83 (g:List Int) (c:Cl):List Int:=g.set c.p.toNat (g.getD c.p.toNat 0+1)
theorem zhK (g:List Int) (c:Cl):(z83 g c).length=g.length:=by simp [z83]
def z1i (g:List Int) (s:List Cl) (k:Nat):List Int:=(s.take k).foldl z83 g
theorem z5N (g:List Int) (s:List Cl):z1i g s 0=g:=rfl
theorem z4R {g:List Int} {s:List Cl} {k:Nat} (h:k < s.length):z1i g s (k+1)=z83 (z1i g s k) s[k]:=by
 unfold z1i;rw [List.take_add_one,List.foldl_append,List.getElem?_eq_getElem h];rfl
theorem z4G (g:List Int) (s:List Cl):∀ k,(z1i g s k).length=g.length:=by
 intro k;unfold z1i
 induction s.take k generalizing g with
 | nil=>rfl
 | cons c r ih=>rw [List.foldl_cons,ih,zhK]
theorem zcC (g:List Int) (c:Cl) (i:Nat) (hi:i < g.length):(z83 g c).getD i 0=if c.p.toNat=i then g.getD i 0+1 else g.getD i 0:=by
 unfold z83;by_cases e:c.p.toNat=i
 ·subst e;simp [List.getD,hi]
 ·simp [List.getD,List.getElem?_set_ne e,e]
theorem z5u {g:List Int} {s:List Cl} {B:Int} (hg:∀ i,i < g.length→0≤g.getD i 0∧g.getD i 0≤B):∀ k,k≤s.length→∀ i,i < g.length→0≤(z1i g s k).getD i 0∧(z1i g s k).getD i 0≤B+k
 | 0,_,i,hi=>by have:=hg i hi;rw [z5N];omega
 | k+1,hk,i,hi=>by
  have ih:=z5u (s:=s) hg k (by omega) i hi;rw [z4R (show k < s.length by omega),zcC _ _ _ (by rw [z4G];exact hi)]
  split <;> omega
def zt (t:Int) (l:List Int):List Int:=if zB t l=true∧l ≠ [] then z1i (z0u t (wts l)) (zW t (wts l)) (z2v t (wts l)) else []
theorem z4g {t:Int} {l:List Int} (h:¬ (zB t l=true∧l ≠ [])):zt t l=[]:=by rw [zt,if_neg h]
theorem z2B {t:Int} {l:List Int} (h1:zB t l=true) (h2:l ≠ []):zt t l=z1i (z0u t (wts l)) (zW t (wts l)) (z2v t (wts l)):=by rw [zt,if_pos ⟨h1,h2⟩]
theorem z1r {t:Int} {l:List Int} (h1:zB t l=true):(zt t l).length=l.length:=by
 by_cases h2:l=[]
 ·subst h2;rw [z4g (by simp)]
 ·rw [z2B h1 h2,z4G,z0s,z3w]
theorem z7e {t:Int} {u:List Int} (h:zB t u=true) (hs:0 < u.sum) {i:Nat} (hi:i < u.length):0≤(z0u t u).getD i 0∧(z0u t u).getD i 0≤100000:=by
 have h1:=z5c h hs i (by omega);have h2:=z5c h hs (i+1) (by omega);rw [z1A (by rw [z0s];exact hi)] at h2;have h3:=z5M (t:=t) (u:=u) (i:=i+1) (j:=u.length) (by omega);have h4:=(z4Q h hs).1;have h5:=(z03 h).1;have h6:=z5L (t:=t) (l:=u) i
 have h7:0≤(z0u t u).getD i 0:=by
  rw [z4E hi];have hw:=(z03 h).2.2;exact Int.ediv_nonneg (z5z h5 (z2W hw hi)).1 (by omega)
 exact ⟨h7,by omega⟩
theorem z1w {t:Int} {l:List Int} (i:Nat) (hi:i < (zt t l).length):0≤(zt t l).getD i 0∧(zt t l).getD i 0≤100200:=by
 by_cases hc:zB t l=true∧l ≠ []
 ·obtain ⟨h1,h2⟩:=hc;have hw:=(z03 h1).2;have h0:0 < l.length:=List.length_pos_iff.2 h2;have hp:=z5b hw.2 h0;have hl:=z62 (z4F h1) hp;rw [z1r h1] at hi;rw [z2B h1 h2];have:=z5u (B:=100000) (s:=zW t (wts l)) (fun j hj=>z7e (z4F h1) hp (by rw [z0s] at hj;exact hj)) (z2v t (wts l)) (by rw [z5d];omega) i (by rw [z0s,z3w];exact hi);rw [z3w] at hl;omega
 ·rw [z4g hc] at hi
  cases hi
def z3z (t:Int) (u:List Int):List Int:=(clL t u).map (·.o)
theorem z3N (t:Int) (u:List Int):(z3z t u).length=u.length:=by simp [z3z,z4D]
theorem z7f {t:Int} {u:List Int} {i:Nat} (h:i < u.length):(z3z t u).getD i 0=t * u.getD i 0 % u.sum:=by
 rw [List.getD,z3z,List.getElem?_map,zav h];rfl
theorem zbf {l:List Int} {k:Nat} (h:k < l.length):l.take (k+1)=l.take k ++ [l.getD k 0]:=by
 rw [List.take_add_one];simp [List.getD,h]
def z2P (lr:List Int) (bl:List Bool) (m:Nat) (k:Int):Prop :=
 (k=-1∧∀ i,i < m→bl.getD i false=true)∨∃ j:Nat,k=j∧j < m∧bl.getD j false=false∧∀ i,i < m→bl.getD i false=false→lr.getD i 0 < lr.getD j 0∨(lr.getD i 0=lr.getD j 0∧j≤i)
theorem z2P.zero (lr:List Int) (bl:List Bool):z2P lr bl 0 (-1):=.inl ⟨rfl,fun _ h=>absurd h (Nat.not_lt_zero _)⟩
theorem z2P.got {lr:List Int} {bl:List Bool} {m:Nat} {k:Int} (h:z2P lr bl m k) (hb:bl.getD m false=true):z2P lr bl (m+1) k:=by
 rcases h with ⟨h1,h2⟩ | ⟨j,h1,h2,h3,h4⟩
 ·refine .inl ⟨h1,fun i hi=>?_⟩
  rcases Nat.lt_or_eq_of_le (Nat.lt_succ_iff.1 hi) with h | rfl
  ·exact h2 i h
  ·exact hb
 ·refine .inr ⟨j,h1,by omega,h3,fun i hi hn=>?_⟩
  rcases Nat.lt_or_eq_of_le (Nat.lt_succ_iff.1 hi) with h | rfl
  ·exact h4 i h hn
  ·rw [hb] at hn;cases hn
theorem z2P.first {lr:List Int} {bl:List Bool} {m:Nat} (h:∀ i,i < m→bl.getD i false=true) (hb:bl.getD m false=false):z2P lr bl (m+1) m:=by
 refine .inr ⟨m,rfl,Nat.lt_succ_self _,hb,fun i hi hn=>?_⟩
 rcases Nat.lt_or_eq_of_le (Nat.lt_succ_iff.1 hi) with h1 | rfl
 ·rw [h i h1] at hn;cases hn
 ·exact .inr ⟨rfl,Nat.le_refl _⟩
theorem z2P.more {lr:List Int} {bl:List Bool} {m j:Nat} (h4:∀ i,i < m→bl.getD i false=false→lr.getD i 0 < lr.getD j 0∨(lr.getD i 0=lr.getD j 0∧j≤i)) (hb:bl.getD m false=false) (hm:lr.getD j 0 < lr.getD m 0):z2P lr bl (m+1) m:=by
 refine .inr ⟨m,rfl,Nat.lt_succ_self _,hb,fun i hi hn=>?_⟩
 rcases Nat.lt_or_eq_of_le (Nat.lt_succ_iff.1 hi) with h1 | rfl
 ·have:=h4 i h1 hn;left;omega
 ·exact .inr ⟨rfl,Nat.le_refl _⟩
theorem z2P.less {lr:List Int} {bl:List Bool} {m j:Nat} (hj:j < m) (h3:bl.getD j false=false) (h4:∀ i,i < m→bl.getD i false=false→lr.getD i 0 < lr.getD j 0∨(lr.getD i 0=lr.getD j 0∧j≤i)) (hm:¬ lr.getD j 0 < lr.getD m 0):z2P lr bl (m+1) j:=by
 refine .inr ⟨j,rfl,by omega,h3,fun i hi hn=>?_⟩
 rcases Nat.lt_or_eq_of_le (Nat.lt_succ_iff.1 hi) with h1 | rfl
 ·exact h4 i h1 hn
 ·omega
theorem z7g (t:Int) (u:List Int):(zW t u).Pairwise (fun x y=>tB y x=false):=by
 have:=List.pairwise_mergeSort (le:=fun x y:Cl=>!tB y x) (fun a b c h1 h2=>by
   simp only [Bool.not_eq_true'] at h1 h2 ⊢;exact z4c.ntrans c b a h2 h1) (fun a b=>by
   cases h:tB b a with
   | false=>simp
   | true=>simp [z6b h]) (clL t u)
 exact this.imp (fun h=>by simpa using h)
theorem z3O (t:Int) (u:List Int) (i:Nat):(cl t u i).p=i:=rfl
theorem zbg (t:Int) (u:List Int):(zW t u).Nodup:=by
 rw [zW,(List.mergeSort_perm _ _).nodup_iff,clL];refine List.Pairwise.map _ (fun a b (h:a ≠ b) e=>h ?_) List.nodup_range;have:=congrArg Cl.p e;rw [z3O,z3O] at this;omega
theorem zee {t:Int} {u:List Int} {i:Nat} (h:i < u.length):cl t u i ∈ zW t u:=by
 rw [zW,List.mem_mergeSort,clL];exact List.mem_map.2 ⟨i,List.mem_range.2 h,rfl⟩
def zcD (t:Int) (u:List Int) (bl:List Bool) (j:Nat):Prop:=∀ i,i < u.length→(bl.getD i false=true ↔ cl t u i ∈ (zW t u).take j)
theorem zhL (t:Int) (u:List Int) (n:Nat):zcD t u (List.replicate n false) 0:=fun i _=>by
 simp only [List.take_zero,List.not_mem_nil,iff_false];by_cases h:i < n <;> simp [List.getD,h]
theorem ziS {t:Int} {u:List Int} {bl:List Bool} {j:Nat} {k:Int} (hj:j < (zW t u).length) (hg:zcD t u bl j) (hn:z2P (z3z t u) bl u.length k):∃ i,i < u.length∧(zW t u)[j]=cl t u i∧k=i∧bl.getD i false=false:=by
 obtain ⟨i,hi,he⟩:=z6c (List.getElem_mem hj)
 have hno:bl.getD i false=false:=by
  cases hb:bl.getD i false with
  | false=>rfl
  | true =>
   exfalso
   have hm:=(hg i hi).1 hb;rw [← he] at hm;obtain ⟨q,hq,hqe⟩:=List.getElem_of_mem hm;rw [List.length_take] at hq;rw [List.getElem_take] at hqe;exact List.pairwise_iff_getElem.1 (zbg t u) q j (by omega) hj (by omega) hqe
 refine ⟨i,hi,he,?_,hno⟩
 rcases hn with ⟨_,h2⟩ | ⟨j',h1,h2,h3,h4⟩
 ·rw [h2 i hi] at hno;cases hno
 ·have hx:=h4 i hi hno
  have hm':cl t u j' ∈ (zW t u).drop j:=by
   have:=zee (t:=t) h2;rw [← List.take_append_drop j (zW t u),List.mem_append] at this
   rcases this with h | h
   ·exfalso
    rw [(hg j' h2).2 h] at h3
    cases h3
   ·exact h
  have hle:tB (cl t u j') (cl t u i)=false:=by
   rw [List.drop_eq_getElem_cons hj,List.mem_cons] at hm'
   rcases hm' with h | h
   ·rw [h,he];exact z4c.irrefl _
   ·have hp:=List.pairwise_iff_getElem.1 (z7g t u);obtain ⟨q,hq,hqe⟩:=List.getElem_of_mem h;rw [List.length_drop] at hq;rw [List.getElem_drop] at hqe;have:=hp j (j+1+q) hj (by omega) (by omega);rw [hqe,he] at this;exact this
  rw [z82] at hle;rw [z7f hi,z7f h2] at hx;simp only [cl] at hle;rw [h1];omega
theorem zhM {t:Int} {u:List Int} {bl:List Bool} {j i:Nat} (hl:bl.length=u.length) (hj:j < (zW t u).length) (hg:zcD t u bl j) (he:(zW t u)[j]=cl t u i):zcD t u (bl.set i true) (j+1):=by
 intro q hq;rw [List.take_add_one,List.mem_append,List.getElem?_eq_getElem hj,he];by_cases e:i=q
 ·subst e;simp [List.getD,hl,hq]
 ·have h1:(bl.set i true).getD q false=bl.getD q false:=(by simp [List.getD,List.getElem?_set_ne e]);rw [h1,hg q hq];simp only [Option.toList_some,List.mem_singleton];constructor
  ·exact Or.inl
  ·rintro (h | h)
   ·exact h
   ·exfalso
    have:=congrArg Cl.p h;rw [z3O,z3O] at this;omega
instance:DecidableEq Cl:=fun a b=>decidable_of_iff (a.p=b.p∧a.w=b.w∧a.o=b.o) (by cases a;cases b;simp)
theorem zhN {a b:List Int} (h:a.Perm b):a.sum=b.sum:=by
 induction h with
 | nil=>rfl
 | cons x _ ih=>rw [List.sum_cons,List.sum_cons,ih]
 | swap x y l=>simp only [List.sum_cons];omega
 | trans _ _ h1 h2=>exact h1.trans h2
theorem ziT {l:List Int}:∀ {i:Nat},i < l.length→∀ x,(l.set i x).sum=l.sum - l.getD i 0+x:=by
 induction l with
 | nil=>intro i hi;cases hi
 | cons y r ih =>
  intro i hi x
  cases i with
  | zero=>simp [List.getD];omega
  | succ k =>
   have:=ih (i:=k) (by simpa using hi) x;simp only [List.set_cons_succ,List.sum_cons,this];simp [List.getD];omega
theorem zhO {g:List Int} {c:Cl} (h:c.p.toNat < g.length):(z83 g c).sum=g.sum+1:=by
 rw [z83,ziT h];omega
theorem zbh {t:Int} {u:List Int} {g:List Int} (hg:g.length=u.length):∀ k,k≤(zW t u).length→(z1i g (zW t u) k).sum=g.sum+k
 | 0,_=>by rw [z5N];omega
 | k+1,hk=>by
  have hlt:k < (zW t u).length:=(by omega);obtain ⟨i,hi,he⟩:=z6c (List.getElem_mem hlt);rw [z4R hlt,zhO (by rw [he,z3O,z4G,hg];simpa using hi),zbh hg k (by omega)];omega
theorem zbi {t:Int} {u:List Int} {g:List Int} (hg:g.length=u.length) {i:Nat} (hi:i < u.length):∀ k,k≤(zW t u).length→(z1i g (zW t u) k).getD i 0=g.getD i 0+if cl t u i ∈ (zW t u).take k then 1 else 0
 | 0,_=>by rw [z5N];simp
 | k+1,hk=>by
  have hlt:k < (zW t u).length:=(by omega);obtain ⟨j,hj,he⟩:=z6c (List.getElem_mem hlt);rw [z4R hlt,zcC _ _ _ (by rw [z4G,hg];exact hi),zbi hg hi k (by omega),he,z3O,List.take_add_one,List.getElem?_eq_getElem hlt,he]
  have hno:cl t u j ∉ (zW t u).take k:=fun hm=>by
   obtain ⟨q,hq,hqe⟩:=List.getElem_of_mem hm;rw [List.length_take] at hq;rw [List.getElem_take] at hqe;exact List.pairwise_iff_getElem.1 (zbg t u) q k (by omega) hlt (by omega) (by rw [hqe,he])
  by_cases e:j=i
  ·subst e;simp [hno]
  ·have e2:cl t u i ≠ cl t u j:=fun h=>e (by have:=congrArg Cl.p h;rw [z3O,z3O] at this;omega);simp [e,e2]
theorem z6q {t:Int} {l:List Int} (h1:zB t l=true) {i:Nat} (hi:i < l.length) :
  (zt t l).getD i 0=t * (wts l).getD i 0 / (wts l).sum+if cl t (wts l) i ∈ (zW t (wts l)).take (z2v t (wts l)) then 1 else 0:=by
 have h0:0 < l.length:=(by omega);have hw:=(z03 h1).2;have hp:=z5b hw.2 h0;have hl:=z62 (z4F h1) hp;have hu:i < (wts l).length:=(by rw [z3w];exact hi);rw [z2B h1 (List.length_pos_iff.1 h0),zbi (z0s _ _) hu _ (by rw [z5d];omega),z4E hu]
theorem z3g {t:Int} {l:List Int} (h1:zB t l=true) (h0:0 < l.length):(zt t l).sum=t:=by
 have hw:=(z03 h1).2;have hp:=z5b hw.2 h0;have hk:=z4F h1;have hl:=z62 hk hp;rw [z2B h1 (List.length_pos_iff.1 h0),zbh (z0s _ _) _ (by rw [z5d];omega)];have:=z5c hk hp (wts l).length (Nat.le_refl _);rw [← z0s t (wts l),z1v,z0s] at this;omega
theorem zbj {t:Int} {u:List Int} {i k j:Nat} (hi:i < u.length) (h:tB (cl t u i) (cl t u k)=true) (hk:cl t u k ∈ (zW t u).take j):cl t u i ∈ (zW t u).take j:=by
 have hm:=zee (t:=t) hi;rw [← List.take_append_drop j (zW t u),List.mem_append] at hm
 rcases hm with hm | hm
 ·exact hm
 ·exfalso
  obtain ⟨q,hq,hqe⟩:=List.getElem_of_mem hk;obtain ⟨p,hp,hpe⟩:=List.getElem_of_mem hm;rw [List.length_take] at hq;rw [List.getElem_take] at hqe;rw [List.length_drop] at hp;rw [List.getElem_drop] at hpe;have:=List.pairwise_iff_getElem.1 (z7g t u) q (j+p) (by omega) (by omega) (by omega);rw [hqe,hpe,h] at this
  cases this
theorem zgf {t:Int} {u:List Int}:((zW t u).map (·.o)).sum=(z3z t u).sum:=by
 rw [zW,z3z];exact zhN ((List.mergeSort_perm (clL t u) _).map _)
theorem zef {t:Int} {u:List Int} (h:zB t u=true) (hs:0 < u.sum):∀ k,k≤u.length→zF (z3z t u) k=t * zF u k - u.sum * z0W t u k
 | 0,_=>by simp [zF,z0W]
 | k+1,hk=>by
  have hlt:k < u.length:=(by omega);have m1:=Int.mul_ediv_add_emod (t * u.getD k 0) u.sum;rw [z1A (by rw [z3N];exact hlt),zef h hs k (by omega),z7f hlt,z1A hlt,z0W,z60 h (z61 hlt) (by omega),Int.toNat_natCast,Int.mul_add,Int.mul_add];omega
theorem zbk {L:List Int} {B:Int} (h:∀ x ∈ L,x≤B):L.sum≤L.length * B:=by
 induction L with
 | nil=>simp
 | cons y r ih =>
  have h1:=ih (fun x hx=>h x (List.mem_cons_of_mem _ hx));have h2:=h y List.mem_cons_self;rw [List.sum_cons,List.length_cons,Int.natCast_add,Int.add_mul];simp only [Int.natCast_one,Int.one_mul];omega
theorem zgg {t:Int} {u:List Int} (hs:0 < u.sum) (i:Nat):0≤(cl t u i).o∧(cl t u i).o < u.sum:=⟨Int.emod_nonneg _ (by omega),Int.emod_lt_of_pos _ hs⟩
theorem zcE {t:Int} {u:List Int} (h:zB t u=true) (hs:0 < u.sum) {i:Nat} (ho:(cl t u i).o=0):cl t u i ∉ (zW t u).take (z2v t u):=by
 intro hm;obtain ⟨q,hq,hqe⟩:=List.getElem_of_mem hm;rw [List.length_take] at hq;rw [List.getElem_take] at hqe;have hlf:=z62 h hs;have hall:(zW t u).map (·.o)=((zW t u).take q).map (·.o) ++ ((zW t u).drop q).map (·.o):=(by rw [← List.map_append,List.take_append_drop])
 have hsum:((zW t u).map (·.o)).sum=u.sum * z2v t u:=by
  rw [zgf];have:=zef h hs u.length (Nat.le_refl _);rw [← z3N t u,z1v,z3N,z1v] at this;rw [this,hlf.1,Int.mul_sub,Int.mul_comm t]
 have h1:(((zW t u).take q).map (·.o)).sum≤(((zW t u).take q).map (·.o)).length * (u.sum - 1):=zbk (fun x hx=>by
  obtain ⟨c,hc,rfl⟩:=List.mem_map.1 hx;obtain ⟨j,_,rfl⟩:=z6c (List.mem_of_mem_take hc);have:=(zgg (t:=t) hs j).2
  omega)
 have h2:(((zW t u).drop q).map (·.o)).sum≤(((zW t u).drop q).map (·.o)).length * 0:=zbk (fun x hx=>by
  obtain ⟨c,hc,rfl⟩:=List.mem_map.1 hx;obtain ⟨p,hp,hpe⟩:=List.getElem_of_mem hc;rw [List.length_drop] at hp;rw [List.getElem_drop] at hpe
  have hle:tB (zW t u)[q+p] (zW t u)[q]=false:=by
   rcases Nat.eq_zero_or_pos p with rfl | hpp
   ·exact z4c.irrefl _
   ·exact List.pairwise_iff_getElem.1 (z7g t u) q (q+p) (by omega) (by omega) (by omega)
  rw [hqe,hpe,z82] at hle
  omega)
 rw [hall,List.sum_append] at hsum;simp only [List.length_map,List.length_take] at h1;rw [Nat.min_eq_left (by omega)] at h1
 have h3:(q:Int) * (u.sum - 1) < u.sum * z2v t u:=by
  have e1:(q:Int) * (u.sum - 1)≤(q:Int) * u.sum:=Int.mul_le_mul_of_nonneg_left (by omega) (by omega);have e2:(q:Int) * u.sum < (z2v t u:Int) * u.sum:=Int.mul_lt_mul_of_pos_right (by omega) hs;rw [Int.mul_comm u.sum];omega
 omega
theorem z5O {t:Int} {l:List Int} (h1:zB t l=true) (hs:l.sum ≠ 0) {i:Nat} (hi:i < l.length) (hz:l.getD i 0=0):(zt t l).getD i 0=0:=by
 have hu:wts l=l:=(by rw [wts,if_neg hs]);have hp:=z5b (z03 h1).2.2 (show 0 < l.length by omega);rw [hu] at hp;have:=zcE (t:=t) h1 hp (i:=i) (by show t * l.getD i 0 % l.sum=0;rw [hz];simp);rw [z6q h1 hi,hu,if_neg this,hz];simp
theorem zgh {t:Int} {l:List Int} (h1:zB t l=true) (hs:l.sum ≠ 0) {i:Nat} (hi:i < l.length):(zt t l).getD i 0=z7c t l i∨(zt t l).getD i 0=z7c t l i+1:=by
 have hu:wts l=l:=(by rw [wts,if_neg hs]);rw [z6q h1 hi,hu,z60 h1 (z61 hi) hs,Int.toNat_natCast]
 split <;> omega
theorem zeR {t:Int} {l:List Int} (h1:zB t l=true) (hs:t < l.sum) {i:Nat} (hi:i < l.length):0≤(zt t l).getD i 0∧(zt t l).getD i 0≤l.getD i 0:=by
 obtain ⟨ht,_,hw⟩:=z03 h1;have hwi:=z2W hw hi;have hsm:=z1w (t:=t) (l:=l) i (by rw [z1r h1];exact hi);refine ⟨hsm.1,?_⟩;by_cases hz:l.getD i 0=0
 ·rw [z5O h1 (by omega) hi hz];omega
 ·have hlt:t * l.getD i 0 / l.sum < l.getD i 0:=by
   apply Int.ediv_lt_of_lt_mul (by omega);rw [Int.mul_comm (l.getD i 0)];exact Int.mul_lt_mul_of_pos_right hs (by omega)
  rcases zgh h1 (show l.sum ≠ 0 by omega) hi with h | h
  ·rw [h,z60 h1 (z61 hi) (by omega),Int.toNat_natCast];omega
  ·rw [h,z60 h1 (z61 hi) (by omega),Int.toNat_natCast];omega
end
section
open Go.RowKit
def z00 (l:List Int) (c m:Nat):List Int:=(l.drop c).take m
theorem z1K {l:List Int} {c m:Nat} (h:c+m≤l.length):(z00 l c m).length=m:=by unfold z00;rw [List.length_take,List.length_drop];omega
theorem z7h {l:List Int} {c m k:Nat} (_:c+m≤l.length) (hk:k < m):(z00 l c m).getD k 0=l.getD (c+k) 0:=by
 unfold z00;simp [List.getD,List.getElem?_take_of_lt hk,List.getElem?_drop]
theorem z6d {l:List Int} {c m:Nat} {x:Int} (h:x ∈ z00 l c m):x ∈ l:=List.mem_of_mem_drop (List.mem_of_mem_take h)
def z2w (l:List Int) (c:Nat) (z0e:List Int):Nat→List Int
 | 0=>l
 | k+1=>(z2w l c z0e k).set (c+k) (l.getD (c+k) 0+z0e.getD k 0)
theorem z3h (l:List Int) (c:Nat) (z0e:List Int):∀ k,(z2w l c z0e k).length=l.length
 | 0=>rfl
 | k+1=>by rw [z2w,List.length_set,z3h l c z0e k]
theorem z6r (l:List Int) (c:Nat) (z0e:List Int) {i:Nat}:∀ k,(∀ j,j < k→c+j ≠ i)→(z2w l c z0e k).getD i 0=l.getD i 0
 | 0,_=>rfl
 | k+1,h=>by
  rw [z2w];simp only [List.getD,List.getElem?_set_ne (h k (by omega))];exact z6r l c z0e k (fun j hj=>h j (by omega))
theorem zcF (l:List Int) (c:Nat) (z0e:List Int) {j:Nat}:∀ k,j < k→c+k≤l.length→(z2w l c z0e k).getD (c+j) 0=l.getD (c+j) 0+z0e.getD j 0
 | k+1,h,hl=>by
  rw [z2w];by_cases e:j=k
  ·subst e;have:c+j < (z2w l c z0e j).length:=(by rw [z3h];omega);simp [List.getD,this]
  ·have:=zcF l c z0e (j:=j) k (by omega) (by omega);simp only [List.getD,List.getElem?_set_ne (show c+k ≠ c+j by omega)];exact this
def z19 (l:List Int) (c m:Nat) (gap need:Int):Int:=need - ((z00 l c m).sum+gap * ((m:Int) - 1))
def z34 (l:List Int) (c m:Nat) (gap need:Int):List Int:=if z19 l c m gap need≤0 then l else z2w l c (zt (z19 l c m gap need) (z00 l c m)) m
theorem zbl (l:List Int) (c m:Nat) (gap need:Int):(z34 l c m gap need).length=l.length:=by unfold z34;split;rfl;exact z3h _ _ _ _
def UpB (l:List Int) (B:Int):Prop:=∀ i,i < l.length→0≤l.getD i 0∧l.getD i 0≤B
theorem UpB.mem {l:List Int} {B:Int} (h:UpB l B) {x:Int} (hx:x ∈ l):0≤x∧x≤B:=by
 obtain ⟨i,hi,rfl⟩:=List.mem_iff_getElem.1 hx;have:=h i hi
 simpa [List.getD,hi] using this
theorem z5e:∀ {l:List Int} {B:Int},(∀ x ∈ l,0≤x∧x≤B)→0≤l.sum∧l.sum≤l.length * B
 | [],_,_=>by simp
 | a :: l,B,h=>by
  have h1:=h a (by simp);have h2:=z5e (l:=l) (B:=B) (fun x hx=>h x (by simp [hx]));rw [List.sum_cons,List.length_cons,show ((l.length+1:Nat):Int) * B=l.length * B+B by rw [show ((l.length+1:Nat):Int)=(l.length:Int)+1 by omega,Int.add_mul,Int.one_mul]];omega
theorem z9P:∀ {l:List Int} {x:Int},(∀ y ∈ l,0≤y)→x ∈ l→x≤l.sum
 | a :: l,x,h,hx=>by
  have h1:=h a (by simp);rw [List.sum_cons]
  rcases List.mem_cons.1 hx with rfl | hx
  ·have:0≤l.sum:=by
    clear hx h1
    induction l with
    | nil=>simp
    | cons b l ih =>
     have hb:=h b (by simp);have:=ih (fun y hy=>h y (by rcases List.mem_cons.1 hy with rfl | hy;exact List.mem_cons_self;exact List.mem_cons_of_mem _ (List.mem_cons_of_mem _ hy)));rw [List.sum_cons];omega
   omega
  ·have:=z9P (fun y hy=>h y (List.mem_cons_of_mem _ hy)) hx;omega
theorem zaw {l:List Int} {c m:Nat} {gap need:Int} (hb:UpB l 50000) (hc:c+m≤l.length) (hm:1≤m∧m≤4) (hg:0≤gap∧gap≤3) (hn:need≤30) (hl:0 < z19 l c m gap need) :
  zB (z19 l c m gap need) (z00 l c m)=true∧z19 l c m gap need≤30:=by
 have hs:=(z5e (fun x (hx:x ∈ z00 l c m)=>hb.mem (z6d hx))).1;have hgm:0≤gap * ((m:Int) - 1):=Int.mul_nonneg hg.1 (by omega);have h30:z19 l c m gap need≤30:=(by unfold z19;omega);refine ⟨?_,h30⟩;simp only [zB,wtB,Bool.and_eq_true,decide_eq_true_eq,List.all_eq_true];refine ⟨⟨by omega,by rw [z1K hc];omega⟩,fun x hx=>?_⟩;have:=hb.mem (z6d hx);omega
theorem zgi {l:List Int} {B:Int} {c m:Nat} {gap need:Int} (hb:UpB l B) (hB:B+30≤50000) (hc:c+m≤l.length) (hm:1≤m∧m≤4) (hg:0≤gap∧gap≤3) (hn:need≤30):UpB (z34 l c m gap need) (B+30):=by
 intro i hi;rw [zbl] at hi;have hbi:=hb i hi;unfold z34
 split
 ·omega
 ·rename_i hl
  obtain ⟨hok,h30⟩:=zaw (fun j hj=>⟨(hb j hj).1,by have:=(hb j hj).2;omega⟩) hc hm hg hn (by omega:0 < z19 l c m gap need);have hsl:=z1r hok;rw [z1K hc] at hsl;by_cases hin:c≤i∧i < c+m
  ·obtain ⟨j,rfl⟩:∃ j,i=c+j:=⟨i - c,by omega⟩;rw [zcF l c _ m (by omega) (by omega)];have h1:=z1w (t:=z19 l c m gap need) (l:=z00 l c m) j (by omega)
   have h2:(zt (z19 l c m gap need) (z00 l c m)).getD j 0≤30:=by
    have hsum:=z3g hok (by rw [z1K hc];omega)
    have hall:∀ x ∈ zt (z19 l c m gap need) (z00 l c m),0≤x:=fun x hx=>by
     obtain ⟨k,hk,rfl⟩:=List.mem_iff_getElem.1 hx;have:=(z1w (t:=z19 l c m gap need) (l:=z00 l c m) k hk).1
     simpa [List.getD,hk] using this
    have hle:(zt (z19 l c m gap need) (z00 l c m)).getD j 0≤(zt (z19 l c m gap need) (z00 l c m)).sum:=by
     have hmem:(zt (z19 l c m gap need) (z00 l c m)).getD j 0 ∈ zt (z19 l c m gap need) (z00 l c m):=by
      have e:(zt (z19 l c m gap need) (z00 l c m)).getD j 0=(zt (z19 l c m gap need) (z00 l c m))[j]'(by omega):=(by simp [List.getD,show j < (zt (z19 l c m gap need) (z00 l c m)).length by omega]);rw [e];exact List.getElem_mem _
     exact z9P hall hmem
    omega
   omega
  ·rw [z6r l c _ m (fun j hj e=>hin ⟨by omega,by omega⟩)];omega
end
end Go.Proofs.YtggmjiddadjilamGreat
