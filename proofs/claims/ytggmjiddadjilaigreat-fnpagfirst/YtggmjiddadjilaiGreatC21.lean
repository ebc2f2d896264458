/-
  PROVED HERE: how high rows are, as lists: each as high as the cells need whose last row it is, beside what their rows above have. A cell is a row, a number of rows, a number of lines. Also: 14 more texts of the same proof.
-/
import Derived.Test.YtggmjiddadjilaiGreatC19
import Derived.Laws.CopyOwn
import Derived.Shelf.Bits.Mul64
import Derived.Shelf.SlSortCmp.KitK
set_option maxRecDepth 1000000
set_option maxHeartbeats 40000000
namespace Go.Proofs.YtggmjiddadjilaiGreat
section
open Go.RowKit
abbrev z0o:=Nat × Nat × Int
def z14 (up:List Int) (h:Int) (c:z0o):Int:=if c.1+c.2.1=up.length+1 then max h (c.2.2 - (up.sum - zv up c.1)) else h
def zhz (up:List Int) (cs:List z0o):Int:=cs.foldl (z14 up) 0
def z0a (cs:List z0o):Nat→List Int
 | 0=>[]
 | k+1=>z0a cs k ++ [zhz (z0a cs k) cs]
theorem z0R (cs:List z0o):∀ k,(z0a cs k).length=k
 | 0=>rfl
 | k+1=>by rw [z0a,List.length_append,z0R cs k];rfl
theorem zgW (up:List Int) (h:Int) (c:z0o):h≤z14 up h c:=by
 unfold z14
 split <;> omega
theorem z92 (up:List Int):∀ (cs:List z0o) (h:Int),h≤cs.foldl (z14 up) h
 | [],h=>Int.le_refl h
 | c :: cs,h=>Int.le_trans (zgW up h c) (z92 up cs _)
theorem z9G (up:List Int):∀ (cs:List z0o) (h:Int),cs.foldl (z14 up) h=h∨∃ c ∈ cs,c.1+c.2.1=up.length+1∧cs.foldl (z14 up) h=c.2.2 - (up.sum - zv up c.1)
 | [],_=>.inl rfl
 | d :: cs,h=>by
  rw [List.foldl_cons]
  rcases z9G up cs (z14 up h d) with h1 | ⟨c,hc,he,h1⟩
  ·rw [h1];by_cases he:d.1+d.2.1=up.length+1
   ·rcases Int.le_total h (d.2.2 - (up.sum - zv up d.1)) with h2 | h2
    ·refine .inr ⟨d,List.mem_cons_self ..,he,?_⟩;unfold z14;rw [if_pos he];omega
    ·refine .inl ?_;unfold z14;rw [if_pos he];omega
   ·refine .inl ?_;unfold z14;rw [if_neg he]
  ·exact .inr ⟨c,List.mem_cons_of_mem _ hc,he,h1⟩
theorem z9H (up:List Int):∀ (cs:List z0o) (h:Int),(∀ c ∈ cs,up.length < c.1∧1≤c.2.1)→cs.foldl (z14 up) h=h
 | [],_,_=>rfl
 | d :: cs,h,hl=>by
  have h1:=hl d (List.mem_cons_self ..)
  have h2:z14 up h d=h:=by
   unfold z14;rw [if_neg (by omega)]
  rw [List.foldl_cons,h2];exact z9H up cs h (fun c hc=>hl c (List.mem_cons_of_mem _ hc))
theorem zb6 (up:List Int) {M:Int}:∀ (cs:List z0o) (h:Int),(∀ c ∈ cs,c.2.2 - (up.sum - zv up c.1)≤M)→h≤M→cs.foldl (z14 up) h≤M:=fun cs h hl hh=>by
 rcases z9G up cs h with h1 | ⟨c,hc,_,h1⟩
 ·rw [h1];exact hh
 ·rw [h1];exact hl c hc
theorem zgX (up:List Int) (cs:List z0o):0≤zhz up cs:=z92 up cs 0
theorem z4U (cs:List z0o):∀ n,∀ x ∈ z0a cs n,0≤x
 | 0,_,h=>by cases h
 | n+1,x,h=>by
  rcases List.mem_append.mp (by rw [z0a] at h;exact h) with h1 | h1
  ·exact z4U cs n x h1
  ·rw [List.mem_singleton.mp h1];exact zgX ..
theorem zel:∀ {l:List Int},(∀ x ∈ l,0≤x)→0≤l.sum
 | [],_=>Int.le_refl 0
 | y :: l,h=>by
  rw [List.sum_cons];have h1:=h y (List.mem_cons_self ..);have h2:=zel (l:=l) (fun x hx=>h x (List.mem_cons_of_mem _ hx));omega
theorem z93 {l:List Int} (h:∀ x ∈ l,0≤x) (k:Nat):0≤l.sum - zv l k:=by
 have h1:l.sum=(l.take k).sum+(l.drop k).sum:=(by rw [← List.sum_append,List.take_append_drop]);have h2:=zel (l:=l.drop k) (fun x hx=>h x (List.mem_of_mem_drop hx));rw [zv];omega
theorem z7F {M:Int} (hM:0≤M) (cs:List z0o) (hc:∀ c ∈ cs,c.2.2≤M):∀ n,∀ x ∈ z0a cs n,x≤M
 | 0,_,h=>by cases h
 | n+1,x,h=>by
  rcases List.mem_append.mp (by rw [z0a] at h;exact h) with h1 | h1
  ·exact z7F hM cs hc n x h1
  ·rw [List.mem_singleton.mp h1];refine zb6 _ cs 0 (fun c h2=>?_) hM;have h3:=z93 (z4U cs n) c.1;have h4:=hc c h2;omega
theorem zfN (h n s:Int):h+max 0 (n - (s+h))=max h (n - s):=by omega
def z0G (n:Nat):Array Value:=madeCells (Value.int .i64 0).cells (n * 1)
theorem z5w (n:Nat):(z0G n).size=n:=by rw [z0G,size_madeCells];omega
theorem zi8:(Tryz.prog.info? 3).map (fun i=>(i.zero,i.size,i.bytes))=some (some (Value.int .i64 0),1,8):=by kernel_rfl
theorem z5x (n:Nat) (hn:n≤1048576) (u:World):(Instr.makeSlice 34 (.int .i64 (n:Int)) (.int .i64 (n:Int))).run Tryz.prog u=.ok (.slice (some ⟨u.heap.size,0,none⟩) n n) (u.alloc (.cells (z0G n) 3)):=by
 obtain ⟨i0,hi,hz0,hz1,hz2⟩:=info_parts zi8;have h:=run_make (P:=Tryz.prog) u 34 3 i0 _ Tryz.underlying34 hi hz0 .i64 .i64 (n:Int) (n:Int) (by omega) (Int.le_refl _) (by rw [hz2];omega) (by omega);rw [hz1,Int.toNat_natCast] at h;exact h
end
section
open Go.RowKit Go.Shelf Go.Lib
shelf_lay Lays.n212 Nm 212 at Tryz as bitsMul
def z8j (L:List Value) (k:Nat):Prop:=∀ i,i < k→L[i]?=some (.int .i64 1)
theorem z9I {L:List Value} {k c:Nat} (h:z8j L k) (hc:k+c≤L.length):z8j (splice L k (List.replicate c (.int .i64 1))) (k+c):=by
 intro i hi;unfold splice;by_cases e:i < k
 ·rw [List.getElem?_append_left (by simp;omega),List.getElem?_take_of_lt e];exact h i e
 ·rw [List.getElem?_append_right (by simp;omega),List.getElem?_append_left (by simp;omega)];rw [List.getElem?_replicate,if_pos (by rw [List.length_take];omega)]
theorem uI:(Tryz.prog.info? 3).map (·.size)=some 1:=by kernel_rfl
theorem zd9 (b n:Nat) (h1:1≤n) (hn:n≤100) (w:World) (hb:b < w.heap.size) (hx:w.cell? ⟨b,0,none⟩=some (.int .i64 1)) :
  Calls Tryz.prog 155 #[.slice (some ⟨b,0,none⟩) 1 1,.int .i64 n] w fun e w'=>∃ a cap,e=.returned (.slice a n cap)∧zz w' w.heap.size w'.heap.size (.slice a n cap) (List.replicate n 1)∧Below w.heap.size w w':=by
 have hmul:=fun W=>Any.bits_Mul bitsMul 1 n (by omega) (by omega) W;change ∀ W,Calls Tryz.prog 161 _ _ _ at hmul;have em1:1 * n / 18446744073709551616=0:=(by omega);have em2:1 * n % 18446744073709551616=n:=(by omega);rw [em1,em2] at hmul;have HM:=Hd hmul;have hmk:=z5x n (by omega);have hn0:¬ (n:Int) < 0:=(by omega);clear hmul em1 em2;go_enter Tryz.func155,Tryz.ntmps155;go_wp2_with fail
 refine (HM.out _).mono ?_;rintro e w1 ⟨rfl,e1⟩
 cases e1
 have hcp:=run_copy_row (P:=Tryz.prog) (w.alloc (.cells (z0G n) 3)) 34 34 3 3 w.heap.size 0 n n ⟨b,0,none⟩ 1 1 (z0G n) 3 [.int .i64 1] Tryz.underlying34 uI (zl _ _) (by simp [Nat.min_def];omega)
  (fun j v hv=>by
   match j,hv with
   | 0,hv=>simp at hv;subst hv;rw [show (⟨b,0,none⟩:Addr).add 0=⟨b,0,none⟩ from rfl];exact ((ze (Below.refl w.heap.size w) _).cell (p:=⟨b,0,none⟩) hb).trans hx)
  (by rw [z5w];simp;omega) (fun v hv=>by simp at hv;subst hv;rfl)
 obtain ⟨w2,hw2⟩:∃ w2,w2=(w.alloc (.cells (z0G n) 3)).setRow w.heap.size ((z0G n).toList.take 0 ++ [Value.int .i64 1] ++ (z0G n).toList.drop (0+[Value.int .i64 1].length)).toArray:=⟨_,rfl⟩;rw [← hw2] at hcp
 have HG:Hid (w2.heap[w.heap.size]?=some (.cells (splice (z0G n).toList 0 [.int .i64 1]).toArray 3 (0,0))):=by
  rw [hw2];show _=_;rw [setRow_heap _ _ _ _ _ _ (zl _ _)];simp [splice]
 have hB:Below w.heap.size w w2:=(by rw [hw2];exact below_setRow (ze (Below.refl _ _) _) (Nat.le_refl _) _);clear hw2;go_wp2_with fail
 clear hcp;have HB:=Hd hB
 have HO:Hid (z8j (splice (z0G n).toList 0 [.int .i64 1]) 1):=by
  have:=z9I (L:=(z0G n).toList) (k:=0) (c:=1) (fun i hi=>absurd hi (Nat.not_lt_zero _)) (by rw [Array.length_toList,z5w];omega);exact this
 have hL0:(z0G n).toList.length=n:=(by rw [Array.length_toList,z5w]);have hL:(splice (z0G n).toList 0 [.int .i64 1]).length=n:=(by rw [length_splice _ _ _ (by rw [hL0];exact h1),hL0]);have hz2:w.heap.size < w2.heap.size:=(bL HG.out);generalize splice (z0G n).toList 0 [.int .i64 1]=L0 at HG HO hL;clear hB hmk;go_loopw [8] (fun s8 W=>∃ (k:Nat) (L:List Value),s8=.int .i64 k∧1≤k∧k≤n∧L.length=n∧Hid (W.heap[w.heap.size]?=some (.cells L.toArray 3 (0,0)))∧Hid (z8j L k)∧Hid (Below w.heap.size w W)∧w.heap.size < W.heap.size) (fun s8 _=>n - (intOf s8).toNat)
 case atStart=>exact ⟨1,L0,rfl,Nat.le_refl _,h1,hL,HG,HO,HB,hz2⟩
 case round =>
  clear HG HO HB hz2 hL;obtain ⟨k,L,rfl,hk1,hk2,hL,HG,HO,HB,hz⟩:=hrel;have HL:=Hd hL;clear hL;by_cases hlt:k < n
  ·have hltz:(k:Int) < (n:Int):=(by omega);obtain ⟨c,hc⟩:∃ c,c=min k (n - k):=⟨_,rfl⟩;have hc1:1≤c:=(by rw [hc,Nat.min_def];split <;> omega);have hc2:k+c≤n:=(by rw [hc,Nat.min_def];split <;> omega);have HC:=Hd hc;have HN:=Hd (z9I (c:=c) HO.out (by rw [HL.out];exact hc2));have HL2:Hid ((splice L k (List.replicate c (.int .i64 1))).length=n):=(by show _=_;rw [length_splice _ _ _ (by rw [HL.out];simp;omega)];exact HL.out);obtain ⟨cs,hcs⟩:∃ cs:List Value,cs=List.replicate c (.int .i64 1):=⟨_,rfl⟩;rw [← hcs] at HN HL2;have hcl:cs.length=c:=(by rw [hcs];simp);have HCS:=Hd hcs;have HCL:=Hd hcl;clear hc hcs hcl
   have hcp:=run_copy_row (P:=Tryz.prog) wr.drew 34 34 3 3 w.heap.size k (n - k) (n - k) ⟨w.heap.size,0,none⟩ k n L.toArray 3 cs Tryz.underlying34 uI HG.out (by rw [HCL.out,HC.out])
    (fun j v hv=>by
     have hj:j < cs.length:=(List.getElem?_eq_some_iff.1 hv).1;rw [HCL.out] at hj;rw [HCS.out,List.getElem?_replicate,if_pos hj] at hv;rw [Go.WideShapes.add_plain,Nat.zero_add];have e:c≤k:=(by rw [HC.out];exact Nat.min_le_left _ _);show wr.cell? _=_;rw [zf HG.out,List.getElem?_toArray,HO.out j (by omega)];exact hv)
    (by rw [HCL.out];simp;rw [HL.out];exact hc2) (fun v hv=>by rw [HCS.out] at hv;rw [(List.mem_replicate.1 hv).2];rfl)
   rw [HCL.out] at hcp;obtain ⟨w3,hw3⟩:∃ w3,w3=wr.drew.setRow w.heap.size (L.toArray.toList.take k ++ cs ++ L.toArray.toList.drop (k+c)).toArray:=⟨_,rfl⟩;rw [← hw3] at hcp
   have HG3:Hid (w3.heap[w.heap.size]?=some (.cells (splice L k cs).toArray 3 (0,0))):=by
    rw [hw3];show _=_;rw [setRow_heap wr.drew _ _ _ _ _ HG.out];simp [splice,HCL.out]
   have HB3:Hid (Below w.heap.size w w3):=(by rw [hw3];exact below_setRow (z1U HB.out) (Nat.le_refl _) _);have hz3:w.heap.size < w3.heap.size:=(bL HG3.out);clear hw3;generalize splice L k cs=L3 at HG3 HN HL2;have hk0:(0:Int)≤(k:Int):=(by omega);have enk:((n:Int) - (k:Int)).toNat=n - k:=(by omega);go_wp2_with fail
   go_region
   all_goals
    go_wp2;go_roundw
    case rel=>exact ⟨k+c,L3,by go_num,by omega,hc2,HL2.out,HG3,HN,HB3,hz3⟩
    case measure=>simp [intOf];omega
  ·obtain rfl:k=n:=by omega
   go_wp2;go_ret
   exact ⟨_,_,rfl,.inr ⟨w.heap.size,k,L.toArray,by simp,Nat.le_refl _,hz,HG.out,by simp,by unfold maxLen;omega,by simpa using HL.out,fun i hi=>by
    rw [List.length_replicate] at hi;rw [List.getElem?_toArray,HO.out i hi];simp [List.getD,hi]⟩,HB.out⟩
end
section
open Go.RowKit
theorem z6r (v:Value) (l:List Int) (hl:l.length≤1000) (hw:l.all wtB=true) (w:World) (h:zH w v l) :
  Calls Tryz.prog 63 #[v] w fun e w'=>e=.returned (.int .i64 l.sum)∧w'=w:=by
 obtain ⟨a,cap,rfl,_⟩:=h.form;have H:=Hd h;have HW:=Hd (z4e hw);have HG:=Hd (fun i hi=>z3i (i:=i) hw hi);clear h hw;go_enter Tryz.func63,Tryz.ntmps63;go_wp2_with fail
 go_loop [3,8] (fun s i=>∃ k:Nat,k≤l.length∧i=.int .i64 k∧s=.int .i64 (zv l k)) (fun _ i=>l.length - (intOf i).toNat)
 case atStart=>exact ⟨0,Nat.zero_le _,rfl,by simp [zv]⟩
 case round =>
  obtain ⟨k,hk,rfl,rfl⟩:=hrel;by_cases hlt:k < l.length
  ·obtain ⟨b,off,cap',e',hc1,hc2,hbl,hx⟩:=H.out.get hlt;simp only [Value.slice.injEq,true_and] at e';obtain ⟨rfl,rfl⟩:=e';have hb1:=HW.out k hk;have hb2:=HG.out k hlt;have HS:=Hd (z18 hlt);generalize l.getD k 0=x at hx HS hb2;generalize zv l k=s at HS hb1;unfold maxLen at hc2;go_wp2
   go_round
   case rel=>exact ⟨k+1,by omega,by go_num,by rw [HS.out]⟩
   case measure=>simp [intOf];omega
  ·obtain rfl:k=l.length:=by omega
   have HE:=Hd (z1b l);go_wp2;go_ret;exact ⟨by rw [← HE.out];rfl,rfl⟩
theorem zem (t:Int) (v:Value) (l:List Int) (w:World) (h:zH w v l) :
  Calls Tryz.prog 160 #[.int .i64 t,v] w fun e w'=>e=.returned (.bool (zq t l))∧w'=w:=by
 obtain ⟨a,cap,rfl,hlen⟩:=h.form;have H:=Hd h;clear h;have HC:=Hd (fun n=>zw n 0 100000);by_cases ht:wtB t=true
 ·by_cases hl:(100:Int) < (l.length:Int)
  ·have HF:Hid (zq t l=false):=(by show _=_;simp [zq];omega);go_enter Tryz.func160,Tryz.ntmps160;go_wp2_with fail
   refine (HC.out _ _).mono ?_;rintro e w1 ⟨rfl,rfl⟩;rw [z6y,ht];go_wp2;go_ret;exact ⟨zI HF.out.symm,rfl⟩
  ·go_enter Tryz.func160,Tryz.ntmps160;go_wp2_with fail
   refine (HC.out _ _).mono ?_;rintro e w1 ⟨rfl,rfl⟩;rw [z6y,ht];go_wp2_with fail
   go_loop [17] (fun i=>∃ k:Nat,k≤l.length∧i=.int .i64 k∧Hid ((l.take k).all wtB=true)) (fun i=>l.length - (intOf i).toNat)
   case atStart=>exact ⟨0,Nat.zero_le _,rfl,by simp [Hid]⟩
   case round =>
    obtain ⟨k,hk,rfl,HA⟩:=hrel;by_cases hlt:k < l.length
    ·obtain ⟨b,off,cap',e',hc1,hc2,hbl,hx⟩:=H.out.get hlt;simp only [Value.slice.injEq,true_and] at e';obtain ⟨rfl,rfl⟩:=e';unfold maxLen at hc2;by_cases hy:wtB (l.getD k 0)=true
     ·have HN:=Hd (zf9 hlt HA.out hy);generalize l.getD k 0=x at hx hy;go_wp2_with fail
      refine (HC.out _ _).mono ?_;rintro e w1 ⟨rfl,rfl⟩;rw [z6y,hy];go_wp2
      go_round
      case rel=>exact ⟨k+1,by omega,by go_num,HN⟩
      case measure=>simp [intOf];omega
     ·have hy':=eq_false_of_ne_true hy;have HF:Hid (zq t l=false):=(by show _=_;simp only [zq,zgw hlt hy',Bool.and_false]);generalize l.getD k 0=x at hx hy';go_wp2_with fail
      refine (HC.out _ _).mono ?_;rintro e w1 ⟨rfl,rfl⟩;rw [z6y,hy'];go_wp2;go_ret;exact ⟨zI HF.out.symm,rfl⟩
    ·obtain rfl:k=l.length:=by omega
     have HF:Hid (zq t l=true):=(by have h1:=HA.out;rw [List.take_length] at h1;show _=_;simp only [zq,ht,h1,Bool.and_true,Bool.true_and,decide_eq_true_eq];omega);go_wp2;go_ret;exact ⟨zI HF.out.symm,rfl⟩
 ·have ht':=eq_false_of_ne_true ht;have HF:Hid (zq t l=false):=(by show _=_;simp only [zq,ht',Bool.false_and]);go_enter Tryz.func160,Tryz.ntmps160;go_wp2_with fail
  refine (HC.out _ _).mono ?_;rintro e w1 ⟨rfl,rfl⟩;rw [z6y,ht'];go_wp2;go_ret;exact ⟨zI HF.out.symm,rfl⟩
def z69 (t:Int) (l:List Int) (k:Int):Int:=if zq t l && inB k 0 (l.length - 1) && l.sum != 0 then t * l.getD k.toNat 0 / l.sum else 0
theorem z4V {t:Int} {l:List Int} {k:Int} (h1:zq t l=true) (h2:inB k 0 (l.length - 1)=true) (h3:l.sum ≠ 0):z69 t l k=t * l.getD k.toNat 0 / l.sum:=by
 rw [z69,if_pos];simp [h1,h2,h3]
theorem z5y {t x:Int} (h1:0≤t∧t≤100000) (h2:0≤x∧x≤100000):0≤t * x∧t * x≤10000000000 :=
 ⟨Int.mul_nonneg h1.1 h2.1,Int.le_trans (Int.mul_le_mul h1.2 h2.2 h2.1 (by omega)) (by omega)⟩
end
section
open Go.RowKit Go.Shelf Go.Lib Go.Sort
structure Cl where
 p:Int
 w:Int
 o:Int
deriving Inhabited
def z11 (x:Cl):List Value:=[.int .i64 x.p,.int .i64 x.w,.int .i64 x.o]
def cfC (x y:Cl):Int:=if y.o < x.o then -1 else if x.o < y.o then 1 else 0
theorem z7G (x:Cl):(z11 x).length=3:=rfl
theorem z7H (x:Cl):∀ v ∈ z11 x,v.oneCell'=true:=fun v hv=>by simp [z11] at hv;rcases hv with rfl | rfl | rfl <;> rfl
def wts (l:List Int):List Int:=if l.sum=0 then List.replicate l.length 1 else l
theorem z3A (l:List Int):(wts l).length=l.length:=by unfold wts;split <;> simp
theorem z5b:∀ n:Nat,(List.replicate n (1:Int)).sum=n
 | 0=>rfl
 | n+1=>by rw [List.replicate_succ,List.sum_cons,z5b n];omega
theorem zb7 {l:List Int} (h:l.all wtB=true):(wts l).all wtB=true:=by
 unfold wts
 split
 ·rw [List.all_eq_true];intro x hx;rw [(List.mem_replicate.1 hx).2];rfl
 ·exact h
theorem z4W {l:List Int} (h:l.all wtB=true) (h0:0 < l.length):0 < (wts l).sum:=by
 unfold wts
 split
 ·rw [z5b];omega
 ·have:=(z2Q h).1;omega
def cl (t:Int) (u:List Int) (i:Nat):Cl:=⟨i,t * u.getD i 0 / u.sum,t * u.getD i 0 % u.sum⟩
def clL (t:Int) (u:List Int):List Cl:=(List.range u.length).map (cl t u)
theorem z3B (t:Int) (u:List Int):(clL t u).length=u.length:=by simp [clL]
theorem z94 {t:Int} {u:List Int} {i:Nat} (h:i < u.length):(clL t u)[i]?=some (cl t u i):=by simp [clL,h]
theorem z79 {t:Int} {u:List Int} {i:Nat} (h:i < u.length):(clL t u).toArray[i]! = cl t u i:=by
 rw [getElem!_def,List.getElem?_toArray,z94 h]
def z8k (n:Nat):Array Value:=madeCells (Value.agg #[.int .i64 0,.int .i64 0,.int .i64 0]).cells (n * 3)
theorem z8l (n:Nat):(z8k n).size=n * 3:=by rw [z8k,size_madeCells]
theorem zhA:(Tryz.prog.info? 183).map (fun i=>(i.zero,i.size,i.bytes))=some (some (Value.agg #[.int .i64 0,.int .i64 0,.int .i64 0]),3,24):=by kernel_rfl
theorem zhB (n:Nat) (hn:n≤1048576) (u:World):(Instr.makeSlice 180 (.int .i64 (n:Int)) (.int .i64 (n:Int))).run Tryz.prog u=.ok (.slice (some ⟨u.heap.size,0,none⟩) n n) (u.alloc (.cells (z8k n) 183)):=by
 obtain ⟨i0,hi,hz0,hz1,hz2⟩:=info_parts zhA;have h:=run_make (P:=Tryz.prog) u 180 183 i0 _ Tryz.underlying180 hi hz0 .i64 .i64 (n:Int) (n:Int) (by omega) (Int.le_refl _) (by rw [hz2];omega) (by omega);rw [hz1,Int.toNat_natCast] at h;exact h
def z6a (arr:Array Value) (L:Nat→Cl) (k:Nat):Prop:=∀ i,i < k→arr[i * 3]?=some (.int .i64 (L i).p)∧arr[i * 3+1]?=some (.int .i64 (L i).w)∧arr[i * 3+2]?=some (.int .i64 (L i).o)
theorem z6a.next {arr:Array Value} {L:Nat→Cl} {k n:Nat} (h:z6a arr L k) (hs:arr.size=n * 3) (hk:k < n) :
  z6a (((arr.setIfInBounds (k * 3) (.int .i64 (L k).p)).setIfInBounds (k * 3+1) (.int .i64 (L k).w)).setIfInBounds (k * 3+2) (.int .i64 (L k).o)) L (k+1):=by
 have eq:∀ (A:Array Value) (i:Nat) (v:Value),i < A.size→(A.setIfInBounds i v)[i]?=some v:=fun A i v hi=>by simp [hi]
 intro i hi
 rcases Nat.lt_or_eq_of_le (Nat.lt_succ_iff.1 hi) with hlt | rfl
 ·obtain ⟨h1,h2,h3⟩:=h i hlt;refine ⟨?_,?_,?_⟩
  ·rw [Array.getElem?_setIfInBounds_ne (by omega),Array.getElem?_setIfInBounds_ne (by omega),Array.getElem?_setIfInBounds_ne (by omega)];exact h1
  ·rw [Array.getElem?_setIfInBounds_ne (by omega),Array.getElem?_setIfInBounds_ne (by omega),Array.getElem?_setIfInBounds_ne (by omega)];exact h2
  ·rw [Array.getElem?_setIfInBounds_ne (by omega),Array.getElem?_setIfInBounds_ne (by omega),Array.getElem?_setIfInBounds_ne (by omega)];exact h3
 ·refine ⟨?_,?_,?_⟩
  ·rw [Array.getElem?_setIfInBounds_ne (by omega),Array.getElem?_setIfInBounds_ne (by omega)];exact eq _ _ _ (by omega)
  ·rw [Array.getElem?_setIfInBounds_ne (by omega)];exact eq _ _ _ (by rw [Array.size_setIfInBounds];omega)
  ·exact eq _ _ _ (by rw [Array.size_setIfInBounds,Array.size_setIfInBounds];omega)
theorem zb8 {w:World} {g n:Nat} {arr:Array Value} {T:TypeId} {L:Nat→Cl} {d:Array Cl} (hg:w.heap[g]?=some (.cells arr T)) (ha:z6a arr L n) (hd:d.size=n) (hL:∀ i,i < n→d[i]! = L i):HoldsK z11 3 w g 0 d:=by
 intro j hj;rw [size_flatK,hd] at hj;have hq:j / 3 < n:=(by omega);obtain ⟨h1,h2,h3⟩:=ha (j / 3) hq;refine ⟨?_,zx hg⟩;rw [Nat.zero_add,zf hg,get_flatK _ _ _ _ (by rw [hd];exact hj),hL _ hq];show arr[j]?=some ((z11 (L (j / 3)))[j % 3]!)
 rcases (by omega:j % 3=0∨j % 3=1∨j % 3=2) with e | e | e
 ·rw [e];rw [show j=j / 3 * 3 by omega];rw [Nat.mul_div_cancel _ (by omega)];exact h1
 ·rw [e,show arr[j]?=arr[j / 3 * 3+1]? from by congr 1;omega];exact h2
 ·rw [e,show arr[j]?=arr[j / 3 * 3+2]? from by congr 1;omega];exact h3
theorem z8m {w:World} {g:Nat} {arr:Array Value} {t:Int} {u:List Int} (hg:w.heap[g]?=some (.cells arr 183)) (ha:z6a arr (cl t u) u.length):RowK z11 3 w g 0 (clL t u).toArray :=
 ⟨z7G,z7H,zb8 hg ha (by simp [z3B]) (fun _ hi=>z79 hi),(bL hg)⟩
theorem z9J {a s:Int} (hs:0 < s):0≤a % s∧a % s < s:=⟨Int.emod_nonneg _ (by omega),Int.emod_lt_of_pos _ hs⟩
theorem zb9 (t:Int) (v:Value) (l:List Int) (ht:0≤t∧t≤100000) (h0:0 < l.length) (hl:l.length≤100) (hw:l.all wtB=true) (w:World) (h:zH w v l) :
  Calls Tryz.prog 139 #[.int .i64 t,v] w fun e w'=>∃ g,e=.returned (.slice (some ⟨g,0,none⟩) l.length l.length)∧w.heap.size≤g∧RowK z11 3 w' g 0 (clL t (wts l)).toArray∧Below w.heap.size w w':=by
 obtain ⟨a,cap,rfl,_⟩:=h.form;have H:=Hd h;clear h;have HS:=Hd (fun W=>z6r (.slice a l.length cap) l (by omega) hw W);have hmk:=zhB l.length (by omega);have hpos:=z4W hw h0;have hsb:=z2Q (zb7 hw);rw [z3A] at hsb;have HWT:=Hd (zb7 hw);have HLN:=Hd (z3A l);by_cases hz:l.sum=0
 ·have hwt:wts l=List.replicate l.length 1:=(by rw [wts,if_pos hz]);have hsum:(wts l).sum=l.length:=(by rw [hwt,z5b]);have HZ:=Hd hz;have HSM:=Hd hsum;have HU:=Hd hwt;rw [hz] at HS;rw [hsum] at hpos hsb;generalize wts l=u at HWT HLN HSM HU ⊢;clear hz hsum hwt hw;go_enter Tryz.func139,Tryz.ntmps139;go_wp2_with fail
  refine (HS.out _ H.out).mono ?_;rintro e w1 ⟨rfl,e1⟩
  cases e1
  go_wp2_with fail
  refine (zd9 w.heap.size l.length h0 hl _ (by simp) (by simp)).mono ?_;rintro e w2 ⟨a2,cap2,rfl,hr2,hb2⟩
  have R2:Hid (zH w2 (.slice a2 l.length cap2) u):=by
   have:=hr2.at;rw [← HU.out] at this;exact this
  have K2:=Hd (zh (ze (Below.refl w.heap.size w) (.cells #[.int .i64 1] 3)) hb2);clear hr2 hb2;go_wp2_with fail
  clear hmk;have hw2:=K2.out.size;go_loopw [24] (fun i W=>∃ (k:Nat) (arr:Array Value),k≤l.length∧i=.int .i64 k∧Hid (W.heap[w2.heap.size]?=some (.cells arr 183))∧arr.size=l.length * 3∧Hid (z6a arr (cl t u) k)∧Hid (Below w2.heap.size w2 W)) (fun i _=>l.length - (intOf i).toNat)
  case atStart=>exact ⟨0,z8k l.length,Nat.zero_le _,rfl,zl _ _,z8l _,fun i hi=>absurd hi (Nat.not_lt_zero _),ze (Below.refl _ _) _⟩
  case round =>
   obtain ⟨k,arr,hk,rfl,HBk,hsz,HA,HB⟩:=hrel;by_cases hlt:k < l.length
   ·have hku:k < u.length:=(by rw [HLN.out];exact hlt);obtain ⟨b,off,cap',e',hc1,hc2,hbl,hx⟩:=(R2.out.kept HB.out).get hku;rw [HLN.out] at e' hc1;simp only [Value.slice.injEq,true_and] at e';obtain ⟨rfl,rfl⟩:=e';have hx0:=z3i HWT.out hku;have hm:=z5y ht hx0;have HN:=Hd (HA.out.next (n:=l.length) hsz hlt);have ecl:cl t u k=⟨k,t * u.getD k 0 / l.length,t * u.getD k 0 % l.length⟩:=(by rw [cl,HSM.out]);rw [ecl] at HN;generalize u.getD k 0=x at hx hx0 hm HN;clear ecl hku;unfold maxLen at hc2;obtain ⟨y0,q0⟩:=z75 (p:=k * 3) HBk.out (by omega);obtain ⟨y1,q1⟩:=z75 (p:=k * 3+1) HBk.out (by omega);obtain ⟨y2,q2⟩:=z75 (p:=k * 3+2) HBk.out (by omega);have fz:∀ p,wr.frozen? ⟨w2.heap.size,p,none⟩=false:=fun p=>zx HBk.out;have hdv:=Int.ediv_nonneg hm.1 (show (0:Int)≤(l.length:Int) by omega);have hdw:=Int.le_trans (Int.ediv_le_self (l.length:Int) hm.1) hm.2;have hrm:=z9J (a:=t * x) (s:=(l.length:Int)) (by omega);go_wp2_with fail
    go_region
    all_goals
     go_wp2;go_roundw
     case rel=>exact ⟨k+1,_,by omega,by go_num,z06 (z06 (z06 HBk.out _) _) _,by rw [Array.size_setIfInBounds,Array.size_setIfInBounds,Array.size_setIfInBounds];exact hsz,HN,z3k (z3k (z3k (z1U HB.out) (Nat.le_refl _) _) (Nat.le_refl _) _) (Nat.le_refl _) _⟩
     case measure=>simp [intOf];omega
   ·obtain rfl:k=l.length:=by omega
    go_wp2;go_ret;exact ⟨_,rfl,hw2,z8m HBk.out (by rw [HLN.out];exact HA.out),zh K2.out HB.out⟩
 ·have hwt:wts l=l:=(by rw [wts,if_neg hz]);rw [hwt] at hpos hsb ⊢;have hzb:(l.sum == 0)=false:=(by simpa using hz);have HG:=Hd (fun i hi=>z3i (i:=i) hw hi);have HSM:Hid (∀ k,cl t l k=⟨k,t * l.getD k 0 / l.sum,t * l.getD k 0 % l.sum⟩):=fun _=>rfl;generalize l.sum=s at HS HSM hpos hsb hzb hz;clear HWT HLN hwt hw;go_enter Tryz.func139,Tryz.ntmps139;go_wp2_with fail
  refine (HS.out _ H.out).mono ?_;rintro e w1 ⟨rfl,e1⟩
  cases e1
  go_wp2_with fail
  clear hmk;go_loopw [24] (fun i W=>∃ (k:Nat) (arr:Array Value),k≤l.length∧i=.int .i64 k∧Hid (W.heap[w.heap.size]?=some (.cells arr 183))∧arr.size=l.length * 3∧Hid (z6a arr (cl t l) k)∧Hid (Below w.heap.size w W)) (fun i _=>l.length - (intOf i).toNat)
  case atStart=>exact ⟨0,z8k l.length,Nat.zero_le _,rfl,zl _ _,z8l _,fun i hi=>absurd hi (Nat.not_lt_zero _),ze (Below.refl _ _) _⟩
  case round =>
   obtain ⟨k,arr,hk,rfl,HBk,hsz,HA,HB⟩:=hrel;by_cases hlt:k < l.length
   ·obtain ⟨b,off,cap',e',hc1,hc2,hbl,hx⟩:=(H.out.kept HB.out).get hlt;simp only [Value.slice.injEq,true_and] at e';obtain ⟨rfl,rfl⟩:=e';have hx0:=HG.out k hlt;have hm:=z5y ht hx0;have HN:=Hd (HA.out.next (n:=l.length) hsz hlt);rw [HSM.out k] at HN;generalize l.getD k 0=x at hx hx0 hm HN;unfold maxLen at hc2;obtain ⟨y0,q0⟩:=z75 (p:=k * 3) HBk.out (by omega);obtain ⟨y1,q1⟩:=z75 (p:=k * 3+1) HBk.out (by omega);obtain ⟨y2,q2⟩:=z75 (p:=k * 3+2) HBk.out (by omega);have fz:∀ p,wr.frozen? ⟨w.heap.size,p,none⟩=false:=fun p=>zx HBk.out;have hdv:=Int.ediv_nonneg hm.1 (show (0:Int)≤s by omega);have hdw:=Int.le_trans (Int.ediv_le_self s hm.1) hm.2;have hrm:=z9J (a:=t * x) (s:=s) (by omega);go_wp2_with fail
    go_region
    all_goals
     go_wp2;go_roundw
     case rel=>exact ⟨k+1,_,by omega,by go_num,z06 (z06 (z06 HBk.out _) _) _,by rw [Array.size_setIfInBounds,Array.size_setIfInBounds,Array.size_setIfInBounds];exact hsz,HN,z3k (z3k (z3k (z1U HB.out) (Nat.le_refl _) _) (Nat.le_refl _) _) (Nat.le_refl _) _⟩
     case measure=>simp [intOf];omega
   ·obtain rfl:k=l.length:=by omega
    go_wp2;go_ret;exact ⟨_,rfl,Nat.le_refl _,z8m HBk.out HA.out,HB.out⟩
end
section
open Go.RowKit
def z0I (t:Int) (l:List Int):Nat→Int
 | 0=>0
 | k+1=>z0I t l k+z69 t l k
theorem z4X {l:List Int} {k:Nat} (h:k < l.length):inB (k:Int) 0 ((l.length:Int) - 1)=true:=z3o (by omega) (by omega)
theorem zfO {a s:Int} (hs:0 < s):s * (a / s)≤a∧a≤s * (a / s)+(s - 1):=by
 have h1:=Int.mul_ediv_add_emod a s;have h2:=Int.emod_nonneg a (show s ≠ 0 by omega);have h3:=Int.emod_lt_of_pos a hs
 constructor <;> omega
theorem z8n {t:Int} {l:List Int} (h:zq t l=true) (hs:0 < l.sum):∀ k,k≤l.length→l.sum * z0I t l k≤t * zv l k∧t * zv l k≤l.sum * z0I t l k+k * (l.sum - 1)
 | 0,_=>by simp [z0I,zv]
 | k+1,hk=>by
  obtain ⟨h1,h2⟩:=z8n h hs k (by omega);have hlt:k < l.length:=(by omega);obtain ⟨h3,h4⟩:=zfO (a:=t * l.getD k 0) hs;rw [z0I,z4V h (z4X hlt) (by omega),z18 hlt,Int.toNat_natCast,Int.mul_add,Int.mul_add];have e:((k+1:Nat):Int) * (l.sum - 1)=(k:Int) * (l.sum - 1)+(l.sum - 1):=(by rw [Int.natCast_add,Int.add_mul];simp);rw [e]
  constructor <;> omega
theorem z5c {t:Int} {l:List Int} (h:zq t l=true) (hs:0 < l.sum):z0I t l l.length≤t∧t - l.length < z0I t l l.length:=by
 obtain ⟨h1,h2⟩:=z8n h hs l.length (Nat.le_refl _);rw [z1b] at h1 h2
 have hl:0 < l.length:=by
  rcases Nat.eq_zero_or_pos l.length with h0 | h0
  ·rw [List.eq_nil_of_length_eq_zero h0] at hs;simp at hs
  ·exact h0
 generalize l.sum=s at *;generalize z0I t l l.length=d at *;generalize l.length=n at *;rw [Int.mul_comm t s] at h1 h2;constructor
 ·exact Int.le_of_mul_le_mul_left h1 hs
 ·apply Int.lt_of_mul_lt_mul_left (a:=s) _ (by omega);rw [Int.mul_sub];have e:(n:Int) * (s - 1)=s * n - n:=(by rw [Int.mul_sub,Int.mul_one,Int.mul_comm]);omega
theorem z7v {t:Int} {l:List Int} (k:Int):0≤z69 t l k∧z69 t l k≤10000000000:=by
 by_cases h:(zq t l && inB k 0 (l.length - 1) && l.sum != 0)=true
 ·rw [z69,if_pos h];simp only [Bool.and_eq_true,bne_iff_ne] at h;obtain ⟨⟨h1,h2⟩,h3⟩:=h;obtain ⟨ht,hl,hw⟩:=z01 h1;have hk:0≤k∧k≤(l.length:Int) - 1:=(by simpa [inB] using h2);have hm:=z5y ht (z3i hw (i:=k.toNat) (by omega));have hs:=(z2Q hw).1;exact ⟨Int.ediv_nonneg hm.1 hs,Int.le_trans (Int.ediv_le_self _ hm.1) hm.2⟩
 ·rw [z69,if_neg h];omega
theorem z6b {t:Int} {l:List Int}:∀ k:Nat,0≤z0I t l k∧z0I t l k≤k * 10000000000
 | 0=>by simp [z0I]
 | k+1=>by
  have h1:=z6b (t:=t) (l:=l) k;have h2:=z7v (t:=t) (l:=l) k;rw [z0I];omega
end
section
open Go.Sort
theorem zgY (x y:Cl):ltOf cfC x y=decide (y.o < x.o):=by
 unfold ltOf cfC
 split
 ·simp;omega
 ·split <;> (simp;omega)
def tB (x y:Cl):Bool:=decide (y.o < x.o∨(x.o=y.o∧(x.p < y.p∨(x.p=y.p∧x.w < y.w))))
theorem z5d (x y:Cl):tB x y=true ↔ (y.o < x.o∨(x.o=y.o∧(x.p < y.p∨(x.p=y.p∧x.w < y.w)))):=by simp [tB]
theorem z8o (x y:Cl):tB x y=false ↔ ¬ (y.o < x.o∨(x.o=y.o∧(x.p < y.p∨(x.p=y.p∧x.w < y.w)))):=by rw [← z5d];simp
theorem z3q:SWO tB where
 irrefl:=fun x=>by rw [z8o];omega
 trans:=fun x y z h1 h2=>by rw [z5d] at *;omega
 ntrans:=fun x y z h1 h2=>by rw [z8o] at *;omega
theorem zfP (x y:Cl) (h1:tB x y=false) (h2:tB y x=false):x=y:=by
 rw [z8o] at h1 h2;obtain ⟨a,b,c⟩:=x;obtain ⟨a',b',c'⟩:=y;simp only at h1 h2;obtain rfl:a=a':=by omega
 obtain rfl:b=b':=by omega
 obtain rfl:c=c':=by omega
 rfl
theorem zas {x y:Cl} (h:y.p < x.p):ltOf cfC x y=tB x y:=by
 rw [zgY,Bool.eq_iff_iff,z5d,decide_eq_true_eq];omega
theorem z5e {x y:Cl} (h:tB x y=true):tB y x=false:=z3q.asymmA h
theorem z8p (lt:Cl→Cl→Bool) (a b:Nat):∀ (j:Nat) (d:Array Cl),a≤j→j < b→b≤d.size→PermIn a b d (insInner lt a j d)
 | 0,d,_,_,_=>by unfold insInner;exact permIn_refl d a b
 | j+1,d,haj,hjb,hb=>by
  unfold insInner
  split
  ·rename_i hc
   simp only [Bool.and_eq_true,decide_eq_true_eq] at hc;exact permIn_trans _ _ _ a b (swp_permIn d a b (j+1) j haj hjb (by omega) (by omega) hb) (z8p lt a b j _ (by omega) (by omega) (by rw [size_swp];exact hb))
  ·exact permIn_refl d a b
theorem zba (a:Nat):∀ (j:Nat) (d:Array Cl),j < d.size→(∀ q,a≤q→q < j→d[q]!.p < d[j]!.p)→insInner (ltOf cfC) a j d=insInner tB a j d
 | 0,d,_,_=>by unfold insInner;rfl
 | j+1,d,hj,h=>by
  unfold insInner;by_cases ha:j+1 > a
  ·have e:ltOf cfC d[j+1]! d[j]! = tB d[j+1]! d[j]! := zas (h j (by omega) (by omega));rw [e]
   cases hc:tB d[j+1]! d[j]!
   ·simp
   ·simp only [ha,decide_true,Bool.and_self,if_true];refine zba a j _ (by rw [size_swp];omega) (fun q h1 h2=>?_);rw [swp_right _ _ _ (by omega),swp_other _ _ _ _ (by omega) (by omega)];exact h q h1 (by omega)
  ·simp [ha]
theorem zbb (a b:Nat):∀ (n i:Nat) (d:Array Cl),b - i=n→a < i→b≤d.size→(∀ x y,a≤x→x < y→i≤y→y < b→d[x]!.p < d[y]!.p)→insOuter (ltOf cfC) a b i d=insOuter tB a b i d
 | 0,i,d,hn,_,_,_=>by rw [insOuter_stop _ _ _ _ _ (by omega),insOuter_stop _ _ _ _ _ (by omega)]
 | n+1,i,d,hn,hai,hb,h=>by
  have hlt:i < b:=(by omega);rw [insOuter_go _ _ _ _ _ hlt,insOuter_go _ _ _ _ _ hlt,zba a i d (by omega) (fun q h1 h2=>h q i h1 h2 (Nat.le_refl _) hlt)];have hP:=z8p tB a (i+1) i d (by omega) (by omega) (by omega);refine zbb a b n (i+1) _ (by omega) (by omega) (by rw [hP.1];exact hb) (fun x y h1 h2 h3 h4=>?_);rw [hP.2.1 y (Or.inr h3)];by_cases hx:x < i+1
  ·exact permIn_all d _ a (i+1) (fun z=>z.p < d[y]!.p) (by omega) hP (fun q h5 h6=>h q y h5 (by omega) (by omega) h4) x h1 hx
  ·rw [hP.2.1 x (Or.inr (by omega))];exact h x y h1 h2 (by omega) h4
def Asc (a b:Nat) (d:Array Cl):Prop:=∀ x y,a≤x→x < y→y < b→d[x]!.p < d[y]!.p
theorem z9K (d:Array Cl) (a b:Nat) (hab:a≤b) (hb:b≤d.size) (h:Asc a b d):PermIn a b d (Sort.insertionSort (ltOf cfC) d a b)∧SortedIn tB a b (Sort.insertionSort (ltOf cfC) d a b):=by
 have e:Sort.insertionSort (ltOf cfC) d a b=Sort.insertionSort tB d a b:=by
  unfold Sort.insertionSort;exact zbb a b (b - (a+1)) (a+1) d rfl (by omega) hb (fun x y h1 h2 _ h4=>h x y h1 h2 h4)
 rw [e];exact insertionSort_holds z3q d a b hab hb
def z1l (t:Int) (u:List Int):List Int:=(clL t u).map (·.w)
theorem z13 (t:Int) (u:List Int):(z1l t u).length=u.length:=by simp [z1l,z3B]
theorem z4r {t:Int} {u:List Int} {i:Nat} (h:i < u.length):(z1l t u).getD i 0=t * u.getD i 0 / u.sum:=by
 rw [List.getD,z1l,List.getElem?_map,z94 h];rfl
theorem z4s {t:Int} {l:List Int} (h:zq t l=true):zq t (wts l)=true:=by
 simp only [zq,Bool.and_eq_true] at h ⊢;obtain ⟨⟨h1,h2⟩,h3⟩:=h;exact ⟨⟨h1,by rw [z3A];exact h2⟩,zb7 h3⟩
theorem z5f {t:Int} {u:List Int} (h:zq t u=true) (hs:0 < u.sum):∀ k,k≤u.length→zv (z1l t u) k=z0I t u k
 | 0,_=>by simp [zv,z0I]
 | k+1,hk=>by
  have hlt:k < u.length:=(by omega);rw [z18 (by rw [z13];exact hlt),z5f h hs k (by omega),z4r hlt,z0I,z4V h (z4X hlt) (by omega),Int.toNat_natCast]
theorem z6c {t:Int} {u:List Int}:∀ {i j:Nat},i≤j→z0I t u i≤z0I t u j
 | i,0,h=>by
  obtain rfl:i=0:=by omega
  exact Int.le_refl _
 | i,j+1,h=>by
  rcases Nat.lt_or_eq_of_le h with h1 | rfl
  ·have:=z6c (t:=t) (u:=u) (i:=i) (j:=j) (by omega);have:=(z7v (t:=t) (l:=u) j).1;rw [z0I];omega
  ·exact Int.le_refl _
def z2d (t:Int) (u:List Int):Nat:=(t - z0I t u u.length).toNat
theorem z5T {t:Int} {u:List Int} (h:zq t u=true) (hs:0 < u.sum):(z2d t u:Int)=t - z0I t u u.length∧z2d t u < u.length:=by
 have:=z5c h hs;unfold z2d;omega
theorem zhC (t:Int) (u:List Int):Asc 0 (clL t u).toArray.size (clL t u).toArray:=by
 intro x y _ h1 h2;have h3:y < u.length:=(by simpa [z3B] using h2);rw [z79 (by omega),z79 h3];show (x:Int) < (y:Int);omega
def zP (t:Int) (u:List Int):List Cl:=(clL t u).mergeSort (fun x y=>!tB y x)
theorem z5g (t:Int) (u:List Int):(zP t u).length=u.length:=by rw [zP,List.length_mergeSort,z3B]
theorem z6d {t:Int} {u:List Int} {c:Cl} (h:c ∈ zP t u):∃ i,i < u.length∧c=cl t u i:=by
 rw [zP,List.mem_mergeSort,clL,List.mem_map] at h;obtain ⟨i,h1,h2⟩:=h;exact ⟨i,List.mem_range.1 h1,h2.symm⟩
theorem zhD {t:Int} {u:List Int} {d:Array Cl} (hp:PermIn 0 (clL t u).toArray.size (clL t u).toArray d) (hs:SortedIn tB 0 (clL t u).toArray.size d):d=(zP t u).toArray:=by
 have h:=sorted_unique_holds z3q zfP (clL t u).toArray d hp hs;apply Array.toList_inj.1;rw [h];simp [zP]
def z6S (g:List Int) (c:Cl):List Int:=g.set c.p.toNat (g.getD c.p.toNat 0+1)
theorem zfQ (g:List Int) (c:Cl):(z6S g c).length=g.length:=by simp [z6S]
def z1E (g:List Int) (s:List Cl) (k:Nat):List Int:=(s.take k).foldl z6S g
theorem z4I (g:List Int) (s:List Cl):z1E g s 0=g:=rfl
theorem z4J {g:List Int} {s:List Cl} {k:Nat} (h:k < s.length):z1E g s (k+1)=z6S (z1E g s k) s[k]:=by
 unfold z1E;rw [List.take_add_one,List.foldl_append,List.getElem?_eq_getElem h];rfl
theorem z4t (g:List Int) (s:List Cl):∀ k,(z1E g s k).length=g.length:=by
 intro k;unfold z1E
 induction s.take k generalizing g with
 | nil=>rfl
 | cons c r ih=>rw [List.foldl_cons,ih,zfQ]
theorem zbc (g:List Int) (c:Cl) (i:Nat) (hi:i < g.length):(z6S g c).getD i 0=if c.p.toNat=i then g.getD i 0+1 else g.getD i 0:=by
 unfold z6S;by_cases e:c.p.toNat=i
 ·subst e;simp [List.getD,hi]
 ·simp [List.getD,List.getElem?_set_ne e,e]
theorem z5L {g:List Int} {s:List Cl} {B:Int} (hg:∀ i,i < g.length→0≤g.getD i 0∧g.getD i 0≤B):∀ k,k≤s.length→∀ i,i < g.length→0≤(z1E g s k).getD i 0∧(z1E g s k).getD i 0≤B+k
 | 0,_,i,hi=>by have:=hg i hi;rw [z4I];omega
 | k+1,hk,i,hi=>by
  have ih:=z5L (s:=s) hg k (by omega) i hi;rw [z4J (show k < s.length by omega),zbc _ _ _ (by rw [z4t];exact hi)]
  split <;> omega
def zo (t:Int) (l:List Int):List Int:=if zq t l=true∧l ≠ [] then z1E (z1l t (wts l)) (zP t (wts l)) (z2d t (wts l)) else []
theorem z4m {t:Int} {l:List Int} (h:¬ (zq t l=true∧l ≠ [])):zo t l=[]:=by rw [zo,if_neg h]
theorem z2m {t:Int} {l:List Int} (h1:zq t l=true) (h2:l ≠ []):zo t l=z1E (z1l t (wts l)) (zP t (wts l)) (z2d t (wts l)):=by rw [zo,if_pos ⟨h1,h2⟩]
theorem z1m {t:Int} {l:List Int} (h1:zq t l=true):(zo t l).length=l.length:=by
 by_cases h2:l=[]
 ·subst h2;rw [z4m (by simp)]
 ·rw [z2m h1 h2,z4t,z13,z3A]
theorem z8q {t:Int} {u:List Int} (h:zq t u=true) (hs:0 < u.sum) {i:Nat} (hi:i < u.length):0≤(z1l t u).getD i 0∧(z1l t u).getD i 0≤100000:=by
 have h1:=z5f h hs i (by omega);have h2:=z5f h hs (i+1) (by omega);rw [z18 (by rw [z13];exact hi)] at h2;have h3:=z6c (t:=t) (u:=u) (i:=i+1) (j:=u.length) (by omega);have h4:=(z5c h hs).1;have h5:=(z01 h).1;have h6:=z6b (t:=t) (l:=u) i
 have h7:0≤(z1l t u).getD i 0:=by
  rw [z4r hi];have hw:=(z01 h).2.2;exact Int.ediv_nonneg (z5y h5 (z3i hw hi)).1 (by omega)
 exact ⟨h7,by omega⟩
theorem z1K {t:Int} {l:List Int} (i:Nat) (hi:i < (zo t l).length):0≤(zo t l).getD i 0∧(zo t l).getD i 0≤100200:=by
 by_cases hc:zq t l=true∧l ≠ []
 ·obtain ⟨h1,h2⟩:=hc;have hw:=(z01 h1).2;have h0:0 < l.length:=List.length_pos_iff.2 h2;have hp:=z4W hw.2 h0;have hl:=z5T (z4s h1) hp;rw [z1m h1] at hi;rw [z2m h1 h2];have:=z5L (B:=100000) (s:=zP t (wts l)) (fun j hj=>z8q (z4s h1) hp (by rw [z13] at hj;exact hj)) (z2d t (wts l)) (by rw [z5g];omega) i (by rw [z13,z3A];exact hi);rw [z3A] at hl;omega
 ·rw [z4m hc] at hi
  cases hi
def z7I (t:Int) (u:List Int):List Int:=(clL t u).map (·.o)
theorem z7J (t:Int) (u:List Int):(z7I t u).length=u.length:=by simp [z7I,z3B]
theorem zfR {t:Int} {u:List Int} {i:Nat} (h:i < u.length):(z7I t u).getD i 0=t * u.getD i 0 % u.sum:=by
 rw [List.getD,z7I,List.getElem?_map,z94 h];rfl
def z3M (lr:List Int) (bl:List Bool) (m:Nat) (k:Int):Prop :=
 (k=-1∧∀ i,i < m→bl.getD i false=true)∨∃ j:Nat,k=j∧j < m∧bl.getD j false=false∧∀ i,i < m→bl.getD i false=false→lr.getD i 0 < lr.getD j 0∨(lr.getD i 0=lr.getD j 0∧j≤i)
theorem z3M.zero (lr:List Int) (bl:List Bool):z3M lr bl 0 (-1):=.inl ⟨rfl,fun _ h=>absurd h (Nat.not_lt_zero _)⟩
theorem z3M.got {lr:List Int} {bl:List Bool} {m:Nat} {k:Int} (h:z3M lr bl m k) (hb:bl.getD m false=true):z3M lr bl (m+1) k:=by
 rcases h with ⟨h1,h2⟩ | ⟨j,h1,h2,h3,h4⟩
 ·refine .inl ⟨h1,fun i hi=>?_⟩
  rcases Nat.lt_or_eq_of_le (Nat.lt_succ_iff.1 hi) with h | rfl
  ·exact h2 i h
  ·exact hb
 ·refine .inr ⟨j,h1,by omega,h3,fun i hi hn=>?_⟩
  rcases Nat.lt_or_eq_of_le (Nat.lt_succ_iff.1 hi) with h | rfl
  ·exact h4 i h hn
  ·rw [hb] at hn;cases hn
theorem z3M.first {lr:List Int} {bl:List Bool} {m:Nat} (h:∀ i,i < m→bl.getD i false=true) (hb:bl.getD m false=false):z3M lr bl (m+1) m:=by
 refine .inr ⟨m,rfl,Nat.lt_succ_self _,hb,fun i hi hn=>?_⟩
 rcases Nat.lt_or_eq_of_le (Nat.lt_succ_iff.1 hi) with h1 | rfl
 ·rw [h i h1] at hn;cases hn
 ·exact .inr ⟨rfl,Nat.le_refl _⟩
theorem z3M.more {lr:List Int} {bl:List Bool} {m j:Nat} (h4:∀ i,i < m→bl.getD i false=false→lr.getD i 0 < lr.getD j 0∨(lr.getD i 0=lr.getD j 0∧j≤i)) (hb:bl.getD m false=false) (hm:lr.getD j 0 < lr.getD m 0):z3M lr bl (m+1) m:=by
 refine .inr ⟨m,rfl,Nat.lt_succ_self _,hb,fun i hi hn=>?_⟩
 rcases Nat.lt_or_eq_of_le (Nat.lt_succ_iff.1 hi) with h1 | rfl
 ·have:=h4 i h1 hn;left;omega
 ·exact .inr ⟨rfl,Nat.le_refl _⟩
theorem z3M.less {lr:List Int} {bl:List Bool} {m j:Nat} (hj:j < m) (h3:bl.getD j false=false) (h4:∀ i,i < m→bl.getD i false=false→lr.getD i 0 < lr.getD j 0∨(lr.getD i 0=lr.getD j 0∧j≤i)) (hm:¬ lr.getD j 0 < lr.getD m 0):z3M lr bl (m+1) j:=by
 refine .inr ⟨j,rfl,by omega,h3,fun i hi hn=>?_⟩
 rcases Nat.lt_or_eq_of_le (Nat.lt_succ_iff.1 hi) with h1 | rfl
 ·exact h4 i h1 hn
 ·omega
theorem z8r (t:Int) (u:List Int):(zP t u).Pairwise (fun x y=>tB y x=false):=by
 have:=List.pairwise_mergeSort (le:=fun x y:Cl=>!tB y x) (fun a b c h1 h2=>by
   simp only [Bool.not_eq_true'] at h1 h2 ⊢;exact z3q.ntrans c b a h2 h1) (fun a b=>by
   cases h:tB b a with
   | false=>simp
   | true=>simp [z5e h]) (clL t u)
 exact this.imp (fun h=>by simpa using h)
theorem z49 (t:Int) (u:List Int) (i:Nat):(cl t u i).p=i:=rfl
theorem zen (t:Int) (u:List Int):(zP t u).Nodup:=by
 rw [zP,(List.mergeSort_perm _ _).nodup_iff,clL];refine List.Pairwise.map _ (fun a b (h:a ≠ b) e=>h ?_) List.nodup_range;have:=congrArg Cl.p e;rw [z49,z49] at this;omega
theorem zgZ {t:Int} {u:List Int} {i:Nat} (h:i < u.length):cl t u i ∈ zP t u:=by
 rw [zP,List.mem_mergeSort,clL];exact List.mem_map.2 ⟨i,List.mem_range.2 h,rfl⟩
def ziM (t:Int) (u:List Int) (bl:List Bool) (j:Nat):Prop:=∀ i,i < u.length→(bl.getD i false=true ↔ cl t u i ∈ (zP t u).take j)
instance:DecidableEq Cl:=fun a b=>decidable_of_iff (a.p=b.p∧a.w=b.w∧a.o=b.o) (by cases a;cases b;simp)
theorem zfS {a b:List Int} (h:a.Perm b):a.sum=b.sum:=by
 induction h with
 | nil=>rfl
 | cons x _ ih=>rw [List.sum_cons,List.sum_cons,ih]
 | swap x y l=>simp only [List.sum_cons];omega
 | trans _ _ h1 h2=>exact h1.trans h2
theorem zh0 {l:List Int}:∀ {i:Nat},i < l.length→∀ x,(l.set i x).sum=l.sum - l.getD i 0+x:=by
 induction l with
 | nil=>intro i hi;cases hi
 | cons y r ih =>
  intro i hi x
  cases i with
  | zero=>simp [List.getD];omega
  | succ k =>
   have:=ih (i:=k) (by simpa using hi) x;simp only [List.set_cons_succ,List.sum_cons,this];simp [List.getD];omega
theorem zfT {g:List Int} {c:Cl} (h:c.p.toNat < g.length):(z6S g c).sum=g.sum+1:=by
 rw [z6S,zh0 h];omega
theorem z9L {t:Int} {u:List Int} {g:List Int} (hg:g.length=u.length):∀ k,k≤(zP t u).length→(z1E g (zP t u) k).sum=g.sum+k
 | 0,_=>by rw [z4I];omega
 | k+1,hk=>by
  have hlt:k < (zP t u).length:=(by omega);obtain ⟨i,hi,he⟩:=z6d (List.getElem_mem hlt);rw [z4J hlt,zfT (by rw [he,z49,z4t,hg];simpa using hi),z9L hg k (by omega)];omega
theorem z9M {t:Int} {u:List Int} {g:List Int} (hg:g.length=u.length) {i:Nat} (hi:i < u.length):∀ k,k≤(zP t u).length→(z1E g (zP t u) k).getD i 0=g.getD i 0+if cl t u i ∈ (zP t u).take k then 1 else 0
 | 0,_=>by rw [z4I];simp
 | k+1,hk=>by
  have hlt:k < (zP t u).length:=(by omega);obtain ⟨j,hj,he⟩:=z6d (List.getElem_mem hlt);rw [z4J hlt,zbc _ _ _ (by rw [z4t,hg];exact hi),z9M hg hi k (by omega),he,z49,List.take_add_one,List.getElem?_eq_getElem hlt,he]
  have hno:cl t u j ∉ (zP t u).take k:=fun hm=>by
   obtain ⟨q,hq,hqe⟩:=List.getElem_of_mem hm;rw [List.length_take] at hq;rw [List.getElem_take] at hqe;exact List.pairwise_iff_getElem.1 (zen t u) q k (by omega) hlt (by omega) (by rw [hqe,he])
  by_cases e:j=i
  ·subst e;simp [hno]
  ·have e2:cl t u i ≠ cl t u j:=fun h=>e (by have:=congrArg Cl.p h;rw [z49,z49] at this;omega);simp [e,e2]
theorem z5z {t:Int} {l:List Int} (h1:zq t l=true) {i:Nat} (hi:i < l.length) :
  (zo t l).getD i 0=t * (wts l).getD i 0 / (wts l).sum+if cl t (wts l) i ∈ (zP t (wts l)).take (z2d t (wts l)) then 1 else 0:=by
 have h0:0 < l.length:=(by omega);have hw:=(z01 h1).2;have hp:=z4W hw.2 h0;have hl:=z5T (z4s h1) hp;have hu:i < (wts l).length:=(by rw [z3A];exact hi);rw [z2m h1 (List.length_pos_iff.1 h0),z9M (z13 _ _) hu _ (by rw [z5g];omega),z4r hu]
theorem z33 {t:Int} {l:List Int} (h1:zq t l=true) (h0:0 < l.length):(zo t l).sum=t:=by
 have hw:=(z01 h1).2;have hp:=z4W hw.2 h0;have hk:=z4s h1;have hl:=z5T hk hp;rw [z2m h1 (List.length_pos_iff.1 h0),z9L (z13 _ _) _ (by rw [z5g];omega)];have:=z5f hk hp (wts l).length (Nat.le_refl _);rw [← z13 t (wts l),z1b,z13] at this;omega
theorem z9N {t:Int} {u:List Int} {i k j:Nat} (hi:i < u.length) (h:tB (cl t u i) (cl t u k)=true) (hk:cl t u k ∈ (zP t u).take j):cl t u i ∈ (zP t u).take j:=by
 have hm:=zgZ (t:=t) hi;rw [← List.take_append_drop j (zP t u),List.mem_append] at hm
 rcases hm with hm | hm
 ·exact hm
 ·exfalso
  obtain ⟨q,hq,hqe⟩:=List.getElem_of_mem hk;obtain ⟨p,hp,hpe⟩:=List.getElem_of_mem hm;rw [List.length_take] at hq;rw [List.getElem_take] at hqe;rw [List.length_drop] at hp;rw [List.getElem_drop] at hpe;have:=List.pairwise_iff_getElem.1 (z8r t u) q (j+p) (by omega) (by omega) (by omega);rw [hqe,hpe,h] at this
  cases this
theorem zeo {t:Int} {u:List Int}:((zP t u).map (·.o)).sum=(z7I t u).sum:=by
 rw [zP,z7I];exact zfS ((List.mergeSort_perm (clL t u) _).map _)
theorem zcB {t:Int} {u:List Int} (h:zq t u=true) (hs:0 < u.sum):∀ k,k≤u.length→zv (z7I t u) k=t * zv u k - u.sum * z0I t u k
 | 0,_=>by simp [zv,z0I]
 | k+1,hk=>by
  have hlt:k < u.length:=(by omega);have m1:=Int.mul_ediv_add_emod (t * u.getD k 0) u.sum;rw [z18 (by rw [z7J];exact hlt),zcB h hs k (by omega),zfR hlt,z18 hlt,z0I,z4V h (z4X hlt) (by omega),Int.toNat_natCast,Int.mul_add,Int.mul_add];omega
theorem z9O {L:List Int} {B:Int} (h:∀ x ∈ L,x≤B):L.sum≤L.length * B:=by
 induction L with
 | nil=>simp
 | cons y r ih =>
  have h1:=ih (fun x hx=>h x (List.mem_cons_of_mem _ hx));have h2:=h y List.mem_cons_self;rw [List.sum_cons,List.length_cons,Int.natCast_add,Int.add_mul];simp only [Int.natCast_one,Int.one_mul];omega
theorem zep {t:Int} {u:List Int} (hs:0 < u.sum) (i:Nat):0≤(cl t u i).o∧(cl t u i).o < u.sum:=⟨Int.emod_nonneg _ (by omega),Int.emod_lt_of_pos _ hs⟩
theorem zbd {t:Int} {u:List Int} (h:zq t u=true) (hs:0 < u.sum) {i:Nat} (ho:(cl t u i).o=0):cl t u i ∉ (zP t u).take (z2d t u):=by
 intro hm;obtain ⟨q,hq,hqe⟩:=List.getElem_of_mem hm;rw [List.length_take] at hq;rw [List.getElem_take] at hqe;have hlf:=z5T h hs;have hall:(zP t u).map (·.o)=((zP t u).take q).map (·.o) ++ ((zP t u).drop q).map (·.o):=(by rw [← List.map_append,List.take_append_drop])
 have hsum:((zP t u).map (·.o)).sum=u.sum * z2d t u:=by
  rw [zeo];have:=zcB h hs u.length (Nat.le_refl _);rw [← z7J t u,z1b,z7J,z1b] at this;rw [this,hlf.1,Int.mul_sub,Int.mul_comm t]
 have h1:(((zP t u).take q).map (·.o)).sum≤(((zP t u).take q).map (·.o)).length * (u.sum - 1):=z9O (fun x hx=>by
  obtain ⟨c,hc,rfl⟩:=List.mem_map.1 hx;obtain ⟨j,_,rfl⟩:=z6d (List.mem_of_mem_take hc);have:=(zep (t:=t) hs j).2
  omega)
 have h2:(((zP t u).drop q).map (·.o)).sum≤(((zP t u).drop q).map (·.o)).length * 0:=z9O (fun x hx=>by
  obtain ⟨c,hc,rfl⟩:=List.mem_map.1 hx;obtain ⟨p,hp,hpe⟩:=List.getElem_of_mem hc;rw [List.length_drop] at hp;rw [List.getElem_drop] at hpe
  have hle:tB (zP t u)[q+p] (zP t u)[q]=false:=by
   rcases Nat.eq_zero_or_pos p with rfl | hpp
   ·exact z3q.irrefl _
   ·exact List.pairwise_iff_getElem.1 (z8r t u) q (q+p) (by omega) (by omega) (by omega)
  rw [hqe,hpe,z8o] at hle
  omega)
 rw [hall,List.sum_append] at hsum;simp only [List.length_map,List.length_take] at h1;rw [Nat.min_eq_left (by omega)] at h1
 have h3:(q:Int) * (u.sum - 1) < u.sum * z2d t u:=by
  have e1:(q:Int) * (u.sum - 1)≤(q:Int) * u.sum:=Int.mul_le_mul_of_nonneg_left (by omega) (by omega);have e2:(q:Int) * u.sum < (z2d t u:Int) * u.sum:=Int.mul_lt_mul_of_pos_right (by omega) hs;rw [Int.mul_comm u.sum];omega
 omega
theorem z4K {t:Int} {l:List Int} (h1:zq t l=true) (hs:l.sum ≠ 0) {i:Nat} (hi:i < l.length) (hz:l.getD i 0=0):(zo t l).getD i 0=0:=by
 have hu:wts l=l:=(by rw [wts,if_neg hs]);have hp:=z4W (z01 h1).2.2 (show 0 < l.length by omega);rw [hu] at hp;have:=zbd (t:=t) h1 hp (i:=i) (by show t * l.getD i 0 % l.sum=0;rw [hz];simp);rw [z5z h1 hi,hu,if_neg this,hz];simp
theorem zeq {t:Int} {l:List Int} (h1:zq t l=true) (hs:l.sum ≠ 0) {i:Nat} (hi:i < l.length):(zo t l).getD i 0=z69 t l i∨(zo t l).getD i 0=z69 t l i+1:=by
 have hu:wts l=l:=(by rw [wts,if_neg hs]);rw [z5z h1 hi,hu,z4V h1 (z4X hi) hs,Int.toNat_natCast]
 split <;> omega
theorem zda {t:Int} {l:List Int} (h1:zq t l=true) (hs:t < l.sum) {i:Nat} (hi:i < l.length):0≤(zo t l).getD i 0∧(zo t l).getD i 0≤l.getD i 0:=by
 obtain ⟨ht,_,hw⟩:=z01 h1;have hwi:=z3i hw hi;have hsm:=z1K (t:=t) (l:=l) i (by rw [z1m h1];exact hi);refine ⟨hsm.1,?_⟩;by_cases hz:l.getD i 0=0
 ·rw [z4K h1 (by omega) hi hz];omega
 ·have hlt:t * l.getD i 0 / l.sum < l.getD i 0:=by
   apply Int.ediv_lt_of_lt_mul (by omega);rw [Int.mul_comm (l.getD i 0)];exact Int.mul_lt_mul_of_pos_right hs (by omega)
  rcases zeq h1 (show l.sum ≠ 0 by omega) hi with h | h
  ·rw [h,z4V h1 (z4X hi) (by omega),Int.toNat_natCast];omega
  ·rw [h,z4V h1 (z4X hi) (by omega),Int.toNat_natCast];omega
end
section
open Go.RowKit
def z0J (l:List Int) (c m:Nat):List Int:=(l.drop c).take m
theorem z26 {l:List Int} {c m:Nat} (h:c+m≤l.length):(z0J l c m).length=m:=by unfold z0J;rw [List.length_take,List.length_drop];omega
theorem z7K {l:List Int} {c m k:Nat} (_:c+m≤l.length) (hk:k < m):(z0J l c m).getD k 0=l.getD (c+k) 0:=by
 unfold z0J;simp [List.getD,List.getElem?_take_of_lt hk,List.getElem?_drop]
theorem z7L {l:List Int} {c m:Nat} {x:Int} (h:x ∈ z0J l c m):x ∈ l:=List.mem_of_mem_drop (List.mem_of_mem_take h)
def z3c (l:List Int) (c:Nat) (zN:List Int):Nat→List Int
 | 0=>l
 | k+1=>(z3c l c zN k).set (c+k) (l.getD (c+k) 0+zN.getD k 0)
theorem z4u (l:List Int) (c:Nat) (zN:List Int):∀ k,(z3c l c zN k).length=l.length
 | 0=>rfl
 | k+1=>by rw [z3c,List.length_set,z4u l c zN k]
theorem z6T (l:List Int) (c:Nat) (zN:List Int) {i:Nat}:∀ k,(∀ j,j < k→c+j ≠ i)→(z3c l c zN k).getD i 0=l.getD i 0
 | 0,_=>rfl
 | k+1,h=>by
  rw [z3c];simp only [List.getD,List.getElem?_set_ne (h k (by omega))];exact z6T l c zN k (fun j hj=>h j (by omega))
theorem zbe (l:List Int) (c:Nat) (zN:List Int) {j:Nat}:∀ k,j < k→c+k≤l.length→(z3c l c zN k).getD (c+j) 0=l.getD (c+j) 0+zN.getD j 0
 | k+1,h,hl=>by
  rw [z3c];by_cases e:j=k
  ·subst e;have:c+j < (z3c l c zN j).length:=(by rw [z4u];omega);simp [List.getD,this]
  ·have:=zbe l c zN (j:=j) k (by omega) (by omega);simp only [List.getD,List.getElem?_set_ne (show c+k ≠ c+j by omega)];exact this
def z1h (l:List Int) (c m:Nat) (gap need:Int):Int:=need - ((z0J l c m).sum+gap * ((m:Int) - 1))
def z3N (l:List Int) (c m:Nat) (gap need:Int):List Int:=if z1h l c m gap need≤0 then l else z3c l c (zo (z1h l c m gap need) (z0J l c m)) m
theorem z9P (l:List Int) (c m:Nat) (gap need:Int):(z3N l c m gap need).length=l.length:=by unfold z3N;split;rfl;exact z4u _ _ _ _
def UpB (l:List Int) (B:Int):Prop:=∀ i,i < l.length→0≤l.getD i 0∧l.getD i 0≤B
theorem UpB.mem {l:List Int} {B:Int} (h:UpB l B) {x:Int} (hx:x ∈ l):0≤x∧x≤B:=by
 obtain ⟨i,hi,rfl⟩:=List.mem_iff_getElem.1 hx;have:=h i hi
 simpa [List.getD,hi] using this
theorem z4Y:∀ {l:List Int} {B:Int},(∀ x ∈ l,0≤x∧x≤B)→0≤l.sum∧l.sum≤l.length * B
 | [],_,_=>by simp
 | a :: l,B,h=>by
  have h1:=h a (by simp);have h2:=z4Y (l:=l) (B:=B) (fun x hx=>h x (by simp [hx]));rw [List.sum_cons,List.length_cons,show ((l.length+1:Nat):Int) * B=l.length * B+B by rw [show ((l.length+1:Nat):Int)=(l.length:Int)+1 by omega,Int.add_mul,Int.one_mul]];omega
theorem z8s:∀ {l:List Int} {x:Int},(∀ y ∈ l,0≤y)→x ∈ l→x≤l.sum
 | a :: l,x,h,hx=>by
  have h1:=h a (by simp);rw [List.sum_cons]
  rcases List.mem_cons.1 hx with rfl | hx
  ·have:0≤l.sum:=by
    clear hx h1
    induction l with
    | nil=>simp
    | cons b l ih =>
     have hb:=h b (by simp);have:=ih (fun y hy=>h y (by rcases List.mem_cons.1 hy with rfl | hy;exact List.mem_cons_self;exact List.mem_cons_of_mem _ (List.mem_cons_of_mem _ hy)));rw [List.sum_cons];omega
   omega
  ·have:=z8s (fun y hy=>h y (List.mem_cons_of_mem _ hy)) hx;omega
theorem zcC {l:List Int} {c m:Nat} {gap need:Int} (hb:UpB l 50000) (hc:c+m≤l.length) (hm:1≤m∧m≤4) (hg:0≤gap∧gap≤3) (hn:need≤30) (hl:0 < z1h l c m gap need) :
  zq (z1h l c m gap need) (z0J l c m)=true∧z1h l c m gap need≤30:=by
 have hs:=(z4Y (fun x (hx:x ∈ z0J l c m)=>hb.mem (z7L hx))).1;have hgm:0≤gap * ((m:Int) - 1):=Int.mul_nonneg hg.1 (by omega);have h30:z1h l c m gap need≤30:=(by unfold z1h;omega);refine ⟨?_,h30⟩;simp only [zq,wtB,Bool.and_eq_true,decide_eq_true_eq,List.all_eq_true];refine ⟨⟨by omega,by rw [z26 hc];omega⟩,fun x hx=>?_⟩;have:=hb.mem (z7L hx);omega
theorem zer {l:List Int} {B:Int} {c m:Nat} {gap need:Int} (hb:UpB l B) (hB:B+30≤50000) (hc:c+m≤l.length) (hm:1≤m∧m≤4) (hg:0≤gap∧gap≤3) (hn:need≤30):UpB (z3N l c m gap need) (B+30):=by
 intro i hi;rw [z9P] at hi;have hbi:=hb i hi;unfold z3N
 split
 ·omega
 ·rename_i hl
  obtain ⟨hok,h30⟩:=zcC (fun j hj=>⟨(hb j hj).1,by have:=(hb j hj).2;omega⟩) hc hm hg hn (by omega:0 < z1h l c m gap need);have hsl:=z1m hok;rw [z26 hc] at hsl;by_cases hin:c≤i∧i < c+m
  ·obtain ⟨j,rfl⟩:∃ j,i=c+j:=⟨i - c,by omega⟩;rw [zbe l c _ m (by omega) (by omega)];have h1:=z1K (t:=z1h l c m gap need) (l:=z0J l c m) j (by omega)
   have h2:(zo (z1h l c m gap need) (z0J l c m)).getD j 0≤30:=by
    have hsum:=z33 hok (by rw [z26 hc];omega)
    have hall:∀ x ∈ zo (z1h l c m gap need) (z0J l c m),0≤x:=fun x hx=>by
     obtain ⟨k,hk,rfl⟩:=List.mem_iff_getElem.1 hx;have:=(z1K (t:=z1h l c m gap need) (l:=z0J l c m) k hk).1
     simpa [List.getD,hk] using this
    have hle:(zo (z1h l c m gap need) (z0J l c m)).getD j 0≤(zo (z1h l c m gap need) (z0J l c m)).sum:=by
     have hmem:(zo (z1h l c m gap need) (z0J l c m)).getD j 0 ∈ zo (z1h l c m gap need) (z0J l c m):=by
      have e:(zo (z1h l c m gap need) (z0J l c m)).getD j 0=(zo (z1h l c m gap need) (z0J l c m))[j]'(by omega):=(by simp [List.getD,show j < (zo (z1h l c m gap need) (z0J l c m)).length by omega]);rw [e];exact List.getElem_mem _
     exact z8s hall hmem
    omega
   omega
  ·rw [z6T l c _ m (fun j hj e=>hin ⟨by omega,by omega⟩)];omega
def eS:ByteArray:=ByteArray.empty
def z28 (w:World) (B:Nat) (v:Value) (l:List ByteArray):Prop :=
 (v=.slice none 0 0∧l=[])∨∃ g cap cur,v=.slice (some ⟨g,0,none⟩) l.length cap∧B≤g∧w.heap[g]?=some (.cells cur 9 (0,0))∧l.length≤cap∧cap≤maxLen∧cur.size=cap∧∀ i,i < l.length→cur[i]?=some (.string (l.getD i eS))
theorem z28.of_owns {w:World} {B:Nat} {v:Value} {l:List ByteArray} (h:w.ownsRow B 9 1 v l.length (l.map Value.string)):z28 w B v l:=by
 rcases h.2 with ⟨hv,h0⟩ | ⟨g,cap,cur,hv,hb,hg,h1,h2,h3,h4⟩
 ·exact .inl ⟨hv,List.eq_nil_of_length_eq_zero h0⟩
 ·refine .inr ⟨g,cap,cur,hv,hb,hg,h1,h2,by omega,fun i hi=>?_⟩;have:cur.toList[i]?=(l.map Value.string)[i]?:=(by rw [← h4,List.getElem?_take_of_lt (by omega)]);rw [← Array.getElem?_toList,this];simp [List.getD,hi]
theorem z28.below {w w':World} {B C:Nat} {v:Value} {l:List ByteArray} (h:z28 w B v l) (k:Below C w w') (hC:w.heap.size≤C):z28 w' B v l:=by
 rcases h with h | ⟨g,cap,cur,hv,hb,hg,r⟩
 ·exact .inl h
 ·exact .inr ⟨g,cap,cur,hv,hb,(k.block g (Nat.lt_of_lt_of_le (bL hg) hC)).trans hg,r⟩
theorem z28.base {w:World} {B B':Nat} {v:Value} {l:List ByteArray} (h:z28 w B v l) (hB:B'≤B):z28 w B' v l:=by
 rcases h with h | ⟨g,cap,cur,hv,hb,r⟩
 ·exact .inl h
 ·exact .inr ⟨g,cap,cur,hv,Nat.le_trans hB hb,r⟩
theorem z6t {w w':World} {base size n:Nat} {e:TypeId} {v:Value} {xs:List Value} (h:w.ownsRow base e size v n xs) (hb:Below w.heap.size w w'):w'.ownsRow base e size v n xs :=
 ⟨h.1,h.2.elim Or.inl (fun ⟨g,cap,cur,hv,hg,hc,r⟩=>Or.inr ⟨g,cap,cur,hv,hg,(hb.block g (bL hc)).trans hc,r⟩)⟩
theorem z28.form {w:World} {B:Nat} {v:Value} {l:List ByteArray} (h:z28 w B v l):∃ a cap,v=.slice a l.length cap:=by
 rcases h with ⟨rfl,rfl⟩ | ⟨g,cap,cur,hv,_⟩
 ·exact ⟨none,0,rfl⟩
 ·exact ⟨_,_,hv⟩
theorem z28.get {w:World} {B:Nat} {v:Value} {l:List ByteArray} (h:z28 w B v l) {i:Nat} (hi:i < l.length) :
  ∃ g cap,v=.slice (some ⟨g,0,none⟩) l.length cap∧B≤g∧g < w.heap.size∧l.length≤cap∧cap≤maxLen∧w.cell? ⟨g,i,none⟩=some (.string (l.getD i eS))∧w.frozen? ⟨g,i,none⟩=false:=by
 rcases h with ⟨_,rfl⟩ | ⟨g,cap,cur,hv,hb,hg,h1,h2,h3,h4⟩
 ·cases hi
 ·exact ⟨g,cap,hv,hb,(bL hg),h1,h2,(zf hg).trans (h4 i hi),zx hg⟩
theorem z28.set {w:World} {B g cap n:Nat} {l:List ByteArray} (h:z28 w B (.slice (some ⟨g,0,none⟩) n cap) l) {i:Nat} (hi:i < l.length) (x:ByteArray):z28 (w.setCell ⟨g,i,none⟩ (.string x)) B (.slice (some ⟨g,0,none⟩) n cap) (l.set i x):=by
 rcases h with ⟨hv,_⟩ | ⟨g',cap',cur,hv,hb,hg,h1,h2,h3,h4⟩
 ·simp at hv
 ·simp only [Value.slice.injEq,Option.some.injEq,Addr.mk.injEq,and_true] at hv;obtain ⟨rfl,rfl,rfl⟩:=hv;refine .inr ⟨g,cap,cur.setIfInBounds i (.string x),by simp,hb,z06 hg _,by simpa using h1,h2,by simpa using h3,fun j hj=>?_⟩;rw [List.length_set] at hj;by_cases e:i=j
  ·subst e;simp [List.getD,hj,show i < cur.size by omega]
  ·rw [Array.getElem?_setIfInBounds_ne e,h4 j hj];simp [List.getD,e]
def dS:ByteArray:=ByteArray.empty
def z29 (w:World) (z:Nat) (v:Value) (ss:List ByteArray):Prop:=At w z v ss.length 1 (fun i b o=>w.cell? ⟨b,o,none⟩=some (.string (ss.getD i dS))∧(ss.getD i dS).size≤maxLen)
theorem z29.since {w w':World} {z:Nat} {v:Value} {ss:List ByteArray} (h:z29 w z v ss) (k:z08 z w w'):z29 w' z v ss :=
 At.mono h k.size (Nat.le_refl _) (fun _ _ _ _ hb hz he=>⟨(k.cell hz hb _).trans he.1,he.2⟩)
theorem z29.kept {w w':World} {z:Nat} {v:Value} {ss:List ByteArray} (h:z29 w z v ss) (k:Below w.heap.size w w'):z29 w' z v ss:=h.since (.of_below k)
def zis (ss:List ByteArray) (k:Nat):Nat:=((ss.take k).map (fun x=>x.size)).sum
def ziN (ss:List ByteArray):Nat:=ss.length+zis ss ss.length
def zhF (ss:List ByteArray):Nat→ByteArray
 | 0=>⟨#[]⟩
 | k+1=>if k=0 then ss.getD 0 dS else zhF ss k ++ ⟨#[32]⟩ ++ ss.getD k dS
end
end Go.Proofs.YtggmjiddadjilaiGreat
