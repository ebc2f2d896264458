/-
  PROVED HERE: what the library's symMergeCmpFunc does with a row of claims: two sorted parts, side by side, become one. Also: 12 more texts of the same proof.
-/
import Derived.Test.YtggmjiddadjilahGreatE21
set_option maxRecDepth 1000000
set_option maxHeartbeats 40000000
namespace Go.Proofs.YtggmjiddadjilahGreat
section
open Go.RowKit Go.Shelf Go.Lib Go.Sort
theorem zda (k:Nat) (zE:∀ w,(Go.sizeOf 195).run Tryz.prog w=.ok k w) (enc:Cl→List Value) (g:Nat) (cb:Array Value) (blk off cap a m b:Nat) (d0 d:Array Cl) (w0 w:World)
  (eg:∀ args w,(callFunc g args).run Tryz.prog w=.ok (.enter g args) w) (hcmp:CmpLays Tryz.prog g cb enc k cfC blk off d0.size w0) (R:RowK enc k w0 blk off d0) (hs:d0.size=d.size) (S:SWK enc k w0 blk off d w) (M:z3T a m b d) (ham:a < m) (hmb:m < b) (hb:b≤d.size) (hsz:d.size < 4611686018427387904) (h0:m ≠ a+1) (h1:b ≠ m+1)
  (IH:∀ (a' m' b':Nat) (d':Array Cl) (W:World),b' - a' < b - a→d0.size=d'.size→SWK enc k w0 blk off d' W→z3T a' m' b' d'→a' < m'→m' < b'→b'≤d'.size→d'.size < 4611686018427387904 →
   Calls Tryz.prog 169 #[.slice (some ⟨blk,off,none⟩) d'.size cap,.int .i64 a',.int .i64 m',.int .i64 b',.func (.func g) #[] cb] W fun e w'=>e=.returned (.tuple #[])∧∃ d'',PermIn a' b' d' d''∧SortedIn tB a' b' d''∧SWK enc k w0 blk off d'' w') (mid:Nat) (hmd1:2 * mid≤a+b) (hmd2:a+b≤2 * mid+1) (lo hi:Nat) (hc:(lo=mid+m - b∧hi=mid∧mid < m)∨(lo=a∧hi=m∧¬ mid < m)) :
  Calls Tryz.prog 169 #[.slice (some ⟨blk,off,none⟩) d.size cap,.int .i64 a,.int .i64 m,.int .i64 b,.func (.func g) #[] cb] w fun e w'=>e=.returned (.tuple #[])∧∃ d',PermIn a b d d'∧SortedIn tB a b d'∧SWK enc k w0 blk off d' w':=by
 rcases hc with ⟨e1,e2,hmm⟩ | ⟨e1,e2,hmm⟩
 case' inl =>
  have hmz:(mid:Int) < (m:Int):=(by omega);have en:(mid:Int)+(m:Int) - (b:Int)=((mid+m - b:Nat):Int):=by omega
 case' inr =>
  have hmz:¬ (mid:Int) < (m:Int):=by omega
 all_goals
  have l1:=Nat.le_of_eq e1;have l2:=Nat.le_of_eq e1.symm;have l3:=Nat.le_of_eq e2;have l4:=Nat.le_of_eq e2.symm;clear e1 e2;have mixed:Tryz.prog.follows Departure.mixedOrders=true:=(by kernel_rfl);have HC:Aside _:=hcmp;have S0:Aside (SWK enc k w0 blk off d w):=S;have HM:Hid (z3T a m b d):=M;clear S hcmp M;have HI:=Hd IH;have HRo:=Hd (fun s e dk W h1 h2 h3 h4 h5 h6=>zkn k zE enc g cb blk off cap s m e d0 dk w0 W R h1 h2 h3 h4 h5 h6);clear IH;have t0:(((m:Int) - (a:Int)) == 1)=false:=(by simp;omega);have t1:(((b:Int) - (m:Int)) == 1)=false:=(by simp;omega);have em:((a:Int)+(b:Int)) / 2=(mid:Int):=(by omega);go_enter Tryz.func169,Tryz.ntmps169;go_wp2_with fail
  go_loopg [20,21] (b - a) (fun kx s20 s21 wr=>∃ s r:Nat,s20=.int .i64 s∧s21=.int .i64 r∧lo≤s∧s≤r∧r≤hi∧r - s≤kx∧Aside (SWK enc k w0 blk off d wr) ∧
   Hid ((lo < s→tB d[mid+m - 1 - (s - 1)]! d[s - 1]! = false)∧(r < hi→tB d[mid+m - 1 - r]! d[r]! = true)))
  case atStart=>exact ⟨lo,hi,congrArg (Value.int .i64) (by omega),congrArg (Value.int .i64) (by omega),Nat.le_refl _,by omega,Nat.le_refl _,by omega,S0,fun h=>absurd h (Nat.lt_irrefl _),fun h=>absurd h (Nat.lt_irrefl _)⟩
  case round =>
   clear S0;obtain ⟨s,r,rfl,rfl,h2,h3,h4,h5,S1,I⟩:=hrel;by_cases hlt:s < r
   ·obtain ⟨mi,hmi⟩:∃ mi,mi=(s+r) / 2:=⟨_,rfl⟩;have em2:((s:Int)+(r:Int)) / 2=(mi:Int):=(by omega);have m1:s≤mi:=(by omega);have m2:mi < r:=(by omega);clear hmi;obtain ⟨pc,hpc⟩:∃ pc,pc=mid+m - 1 - mi:=⟨_,rfl⟩;have epc:(mid:Int)+(m:Int) - 1 - (mi:Int)=(pc:Int):=(by omega);have pc1:m≤pc:=(by omega);have pc2:pc < b:=(by omega);have hcv:ltOf cfC d[pc]! d[mi]! = tB d[pc]! d[mi]! := zc3 (HM.out.c mi pc (by omega) (by omega) pc1 pc2);by_cases hv:cfC d[pc]! d[mi]! < 0
    ·have I2:Hid ((lo < s→tB d[mid+m - 1 - (s - 1)]! d[s - 1]! = false)∧(mi < hi→tB d[mid+m - 1 - mi]! d[mi]! = true)):=⟨I.out.1,fun _=>by rw [← hpc,← hcv];exact decide_eq_true hv⟩;clear hcv hpc;have ea:((pc:Int)).toNat=pc:=(by omega);have pa:(0:Int)≤(pc:Int):=(by omega);have ba:(pc:Int) < (d.size:Int):=(by omega);have ra:IntKind.i64.wrap ((pc:Int))=(pc:Int):=(by rw [IntKind.wrap_i64];omega);have ec:((mi:Int)).toNat=mi:=(by omega);have pcz:(0:Int)≤(mi:Int):=(by omega);have bc:(mi:Int) < (d.size:Int):=(by omega);have rc:IntKind.i64.wrap ((mi:Int))=(mi:Int):=(by rw [IntKind.wrap_i64];omega);have la:=S1.out.ld R (by omega) Tryz.prog (pc) (by omega);have lb:=S1.out.ld R (by omega) Tryz.prog (mi) (by omega);have hc:=S1.out.cmp HC.out (by omega) d[pc]! d[mi]!;generalize d[pc]! = x at hc la hv;generalize d[mi]! = y at hc lb hv;have hd:decide (cfC x y < 0)=true:=(by simpa using hv);go_wp2_with fail
     go_quiet_grown (first | (go_at_fn g;refine Calls.grown_of (hc _ _)))
     have S2:Aside (SWK enc k w0 blk off d (grow (wr.drewN nq) osq)):=S1.out.grown nq osq;clear la lb hc S1 hd hv;generalize grow (wr.drewN nq) osq=w2 at S2 ⊢;clear nq osq;go_wp2;go_roundg (mi - s)
     case measure=>omega
     case rel=>exact ⟨s,mi,rfl,rfl,h2,m1,by omega,Nat.le_refl _,S2,I2⟩
    ·have I2:Hid ((lo < mi+1→tB d[mid+m - 1 - (mi+1 - 1)]! d[mi+1 - 1]! = false)∧(r < hi→tB d[mid+m - 1 - r]! d[r]! = true)):=⟨fun _=>by rw [Nat.add_sub_cancel,← hpc,← hcv];exact decide_eq_false hv,I.out.2⟩;clear hcv hpc;have ea:((pc:Int)).toNat=pc:=(by omega);have pa:(0:Int)≤(pc:Int):=(by omega);have ba:(pc:Int) < (d.size:Int):=(by omega);have ra:IntKind.i64.wrap ((pc:Int))=(pc:Int):=(by rw [IntKind.wrap_i64];omega);have ec:((mi:Int)).toNat=mi:=(by omega);have pcz:(0:Int)≤(mi:Int):=(by omega);have bc:(mi:Int) < (d.size:Int):=(by omega);have rc:IntKind.i64.wrap ((mi:Int))=(mi:Int):=(by rw [IntKind.wrap_i64];omega);have la:=S1.out.ld R (by omega) Tryz.prog (pc) (by omega);have lb:=S1.out.ld R (by omega) Tryz.prog (mi) (by omega);have hc:=S1.out.cmp HC.out (by omega) d[pc]! d[mi]!;generalize d[pc]! = x at hc la hv;generalize d[mi]! = y at hc lb hv;have hd:decide (cfC x y < 0)=false:=(by simpa using hv);go_wp2_with fail
     go_quiet_grown (first | (go_at_fn g;refine Calls.grown_of (hc _ _)))
     have S2:Aside (SWK enc k w0 blk off d (grow (wr.drewN nq) osq)):=S1.out.grown nq osq;clear la lb hc S1 hd hv;generalize grow (wr.drewN nq) osq=w2 at S2 ⊢;clear nq osq;go_wp2;go_roundg (r - (mi+1))
     case measure=>omega
     case rel=>exact ⟨mi+1,r,by go_num,rfl,by omega,by omega,h4,Nat.le_refl _,S2,I2⟩
   ·obtain rfl:r=s:=by omega
    clear hlt h5;obtain ⟨e,he⟩:∃ e,e=mid+m - r:=⟨_,rfl⟩;have ee:(mid:Int)+(m:Int) - (r:Int)=(e:Int):=(by omega);have he1:e+r≤mid+m:=(by omega);have he2:mid+m≤e+r:=(by omega);clear he
    have hLo:a < r→e < b→tB d[e]! d[r - 1]! = false:=fun q1 q2=>by
     have:=I.out.1 (by omega)
     rwa [show mid+m - 1 - (r - 1)=e by omega] at this
    have hHi:r < m→m < e→tB d[e - 1]! d[r]! = true:=fun q1 q2=>by
     have:=I.out.2 (by omega)
     rwa [show mid+m - 1 - r=e - 1 by omega] at this
    have HAR:=Hd (fun d1 (hr:z0V r m e d d1)=>zgM (mid:=mid) HM.out hr (by omega) (by omega) (by omega) (by omega) (by omega) hLo hHi);clear hLo hHi I;by_cases hq0:r < m∧m < e
    case' pos =>
     have x1:(r:Int) < (m:Int):=(by omega);have x2:(m:Int) < (e:Int):=(by omega);have HW:=HRo.out r e d wr hs S1.out hq0.1 hq0.2 (by omega) hsz;go_wp2_with fail
     refine HW.mono ?_;rintro e7 w7 ⟨rfl,d7,r7,S7'⟩;have S7:=Hd S7';have z7:d7.size=d.size:=r7.size;have HP:=Hd (permIn_mono _ _ r e a b (by omega) (by omega) (by omega) (r7.perm (by omega) (by omega) (by omega)));have HRD:=Hd r7;clear HW S7' r7 S1
    case' neg =>
     obtain ⟨d7,e7⟩:∃ x,x=d:=⟨_,rfl⟩
     have HRD:Hid (z0V r m e d d7):=by
      rw [e7];show z0V r m e d d;by_cases q:r < m
      ·obtain rfl:e=m:=by omega
       exact z0V.right_none _ _ _
      ·obtain rfl:r=m:=by omega
       exact z0V.left_none _ _ _
     have HP:Hid (PermIn a b d d7):=by
      rw [e7];exact permIn_refl d a b
     have z7:d7.size=d.size:=(by rw [e7]);have S7:=Hd S1.out;rw [← e7] at S7;obtain ⟨w7,ew⟩:∃ x,x=wr:=⟨_,rfl⟩;rw [← ew] at S7 ⊢;clear S1 e7 ew;by_cases x1:(r:Int) < (m:Int)
     case' pos=>have x2:¬ (m:Int) < (e:Int):=by omega
    all_goals
     obtain ⟨M1',M2',HA'⟩:=HAR.out d7 HRD.out;have M1:=Hd M1';have M2:=Hd M2';have HA:=Hd HA';clear M1' M2' HA' HAR;by_cases hq1:a < r∧r < mid
     case' pos =>
      have v1:(a:Int) < (r:Int):=(by omega);have v2:(r:Int) < (mid:Int):=(by omega);have HW:=HI.out a r mid d7 w7 (by omega) (by omega) S7.out M1.out hq1.1 hq1.2 (by omega) (by omega);rw [z7] at HW;go_wp2_with fail
      refine HW.mono ?_;rintro e8 w8 ⟨rfl,d8,p8,s8,S8'⟩;have S8:=Hd S8';have z8:d8.size=d.size:=p8.1.trans z7;clear HW S8'
     case' neg =>
      obtain ⟨d8,e8⟩:∃ x,x=d7:=⟨_,rfl⟩
      have p8:PermIn a mid d7 d8:=by
       rw [e8];exact permIn_refl d7 a mid
      have s8:SortedIn tB a mid d8:=by
       rw [e8];by_cases q:a < r
       ·obtain rfl:r=mid:=by omega
        exact M1.out.l
       ·obtain rfl:r=a:=by omega
        exact M1.out.r
      have z8:d8.size=d.size:=p8.1.trans z7;have S8:=S7;rw [← e8] at S8;obtain ⟨w8,ew⟩:∃ x,x=w7:=⟨_,rfl⟩;rw [← ew] at S8 ⊢;clear e8 ew;by_cases v1:(a:Int) < (r:Int)
      case' pos=>have v2:¬ (r:Int) < (mid:Int):=by omega
     all_goals
      by_cases hq2:mid < e∧e < b
      ·have u1:(mid:Int) < (e:Int):=(by omega);have u2:(e:Int) < (b:Int):=(by omega);have HW:=HI.out mid e b d8 w8 (by omega) (by omega) S8.out (M2.out.kept (by omega) p8) (by omega) (by omega) (by omega) (by omega);rw [z8] at HW;go_wp2_with fail
       all_goals
        refine HW.mono ?_;rintro e9 w9 ⟨rfl,d9,p9,s9,S9'⟩;have S9:=Hd S9';clear HW S9'
        have HD:Hid (PermIn a b d d9∧SortedIn tB a b d9):=by
         have:=zbH (by omega) (by omega) (by omega) HA.out p8 s8 p9 s9;exact ⟨permIn_trans _ _ _ a b HP.out this.1,this.2⟩
        go_wp2
        all_goals
         go_end0
         exact ⟨rfl,d9,HD.out.1,HD.out.2,S9.out⟩
      ·have u0:¬ ((mid:Int) < (e:Int)∧(e:Int) < (b:Int)):=(by omega)
       have s9:SortedIn tB mid b d8:=by
        have hk:=M2.out.kept (by omega) p8;by_cases q:mid < e
        ·obtain rfl:e=b:=by omega
         exact hk.l
        ·obtain rfl:e=mid:=by omega
         exact hk.r
       have HD:Hid (PermIn a b d d8∧SortedIn tB a b d8):=by
        have:=zbH (by omega) (by omega) (by omega) HA.out p8 s8 (permIn_refl d8 mid b) s9;exact ⟨permIn_trans _ _ _ a b HP.out this.1,this.2⟩
       by_cases u1:(mid:Int) < (e:Int)
       case' pos=>have u2:¬ (e:Int) < (b:Int):=by omega
       all_goals
        go_wp2
        all_goals
         go_end0
         exact ⟨rfl,d8,HD.out.1,HD.out.2,S8.out⟩
end
section
open Go.Sort
def Seg (n:Nat) (T:Nat→Nat→Prop) (d:Array Cl):Prop:=∀ x y,x < y→y < n→(T x y→tB d[y]! d[x]! = false)∧(¬ T x y→d[x]!.p < d[y]!.p)
theorem Seg.iff {n:Nat} {T U:Nat→Nat→Prop} {d:Array Cl} (h:Seg n T d) (hh:∀ x y,x < y→y < n→(T x y ↔ U x y)):Seg n U d:=fun x y g1 g2 =>
 ⟨fun q=>(h x y g1 g2).1 ((hh x y g1 g2).2 q),fun q=>(h x y g1 g2).2 (fun r=>q ((hh x y g1 g2).1 r))⟩
theorem Seg.join {n a b:Nat} {T:Nat→Nat→Prop} {d d':Array Cl} (h:Seg n T d) (hn:n≤d.size) (hb:b≤n) (hp:PermIn a b d d') (hs:SortedIn tB a b d')
  (h1:∀ x y,x < a→a≤y→y < b→¬ T x y) (h2:∀ x y,a≤x→x < b→b≤y→y < n→¬ T x y):Seg n (fun x y=>T x y∨(a≤x∧y < b)) d':=by
 intro x y g1 g2;have out:∀ t,t < a∨b≤t→d'[t]! = d[t]! := hp.2.1;by_cases c1:a≤x
 ·by_cases c2:y < b
  ·exact ⟨fun _=>hs x y c1 g1 c2,fun q=>absurd (Or.inr ⟨c1,c2⟩) q⟩
  ·by_cases c3:x < b
   ·refine ⟨fun q=>?_,fun _=>?_⟩
    ·rcases q with q | q
     ·exact absurd q (h2 x y c1 c3 (by omega) g2)
     ·exact absurd q.2 c2
    ·rw [out y (by omega)];exact permIn_all d d' a b (fun z=>z.p < d[y]!.p) (by omega) hp (fun r r1 r2=>(h r y (by omega) g2).2 (h2 r y r1 r2 (by omega) g2)) x c1 c3
   ·rw [out x (by omega),out y (by omega)];exact ⟨fun q=>(h x y g1 g2).1 (by rcases q with q | q;exact q;omega),fun q=>(h x y g1 g2).2 (fun r=>q (Or.inl r))⟩
 ·by_cases c2:a≤y∧y < b
  ·refine ⟨fun q=>?_,fun _=>?_⟩
   ·rcases q with q | q
    ·exact absurd q (h1 x y (by omega) c2.1 c2.2)
    ·omega
   ·rw [out x (by omega)];exact permIn_all d d' a b (fun z=>d[x]!.p < z.p) (by omega) hp (fun r r1 r2=>(h x r (by omega) (by omega)).2 (h1 x r (by omega) r1 r2)) y c2.1 c2.2
  ·rw [out x (by omega),out y (by omega)];exact ⟨fun q=>(h x y g1 g2).1 (by rcases q with q | q;exact q;omega),fun q=>(h x y g1 g2).2 (fun r=>q (Or.inl r))⟩
def T1 (a:Nat) (x y:Nat):Prop:=y < a∧x / 20=y / 20
def T2 (s a:Nat) (x y:Nat):Prop:=(y < a∧x / (2 * s)=y / (2 * s))∨(a≤x∧x / s=y / s)
theorem zgO {n:Nat} {d:Array Cl} (h:Asc 0 n d):Seg n (T1 0) d:=fun x y g1 g2=>⟨fun q=>absurd q.1 (Nat.not_lt_zero _),fun _=>h x y (Nat.zero_le _) g1 g2⟩
theorem za9 {n a b:Nat} {d:Array Cl} (h:Seg n (T1 a) d) (hb:b≤n):Asc a b d:=fun x y g1 g2 g3=>(h x y g2 (by omega)).2 (fun q=>by have:=q.1;omega)
theorem zjn {n a:Nat} {d d':Array Cl} (h:Seg n (T1 a) d) (hn:n≤d.size) (ha:a % 20=0) (hb:a+20≤n) (hp:PermIn a (a+20) d d') (hs:SortedIn tB a (a+20) d'):Seg n (T1 (a+20)) d' :=
 (h.join hn hb hp hs (fun x y _ g2 _ q=>by have:=q.1;omega) (fun x y g1 g2 g3 _ q=>by have:=q.1;omega)).iff (fun x y g1 g2=>by unfold T1;omega)
theorem zdN {n a:Nat} {d d':Array Cl} (h:Seg n (T1 a) d) (hn:n≤d.size) (ha:a % 20=0) (han:a≤n) (hb:n < a+20) (hp:PermIn a n d d') (hs:SortedIn tB a n d'):Seg n (T2 20 0) d' :=
 (h.join hn (Nat.le_refl _) hp hs (fun x y _ g2 _ q=>by have:=q.1;omega) (fun x y g1 g2 g3 _ q=>by have:=q.1;omega)).iff (fun x y g1 g2=>by unfold T1 T2;omega)
theorem zaa {n s a m b:Nat} {d:Array Cl} (hs:s=20∨s=40∨s=80) (h:Seg n (T2 s a) d) (ha:a % (2 * s)=0) (hm:m=a+s) (hmb:m≤b) (hb:b≤n) (hb2:b≤a+2 * s):z3T a m b d:=by
 subst hm
 rcases hs with rfl | rfl | rfl
 all_goals
  refine ⟨fun x y g1 g2 g3=>?_,fun x y g1 g2 g3=>?_,fun x y g1 g2 g3 g4=>?_⟩
  ·exact (h x y g2 (by omega)).1 (by unfold T2;omega)
  ·exact (h x y g2 (by omega)).1 (by unfold T2;omega)
  ·exact (h x y (by omega) (by omega)).2 (by unfold T2;omega)
theorem zgP {n s a b:Nat} {d d':Array Cl} (hs:s=20∨s=40∨s=80) (h:Seg n (T2 s a) d) (hn:n≤d.size) (ha:a % (2 * s)=0) (hb:b=a+2 * s) (hbn:b≤n) (hp:PermIn a b d d') (hq:SortedIn tB a b d'):Seg n (T2 s b) d':=by
 subst hb
 rcases hs with rfl | rfl | rfl
 all_goals exact (h.join hn hbn hp hq (fun x y g1 g2 g3 q=>by unfold T2 at q;omega) (fun x y g1 g2 g3 g4 q=>by unfold T2 at q;omega)).iff (fun x y g1 g2=>by unfold T2;omega)
theorem zbY {n s a:Nat} {d d':Array Cl} (hs:s=20∨s=40∨s=80) (h:Seg n (T2 s a) d) (hn:n≤d.size) (ha:a % (2 * s)=0) (h1:a≤n) (hbn:n < a+2 * s) (hp:PermIn a n d d') (hq:SortedIn tB a n d'):Seg n (T2 (2 * s) 0) d':=by
 rcases hs with rfl | rfl | rfl
 all_goals exact (h.join hn (Nat.le_refl _) hp hq (fun x y g1 g2 g3 q=>by unfold T2 at q;omega) (fun x y g1 g2 g3 g4 q=>by unfold T2 at q;omega)).iff (fun x y g1 g2=>by unfold T2;omega)
theorem zie {n s a:Nat} {d:Array Cl} (hs:s=20∨s=40∨s=80) (h:Seg n (T2 s a) d) (ha:a % (2 * s)=0) (h1:a≤n) (h2:n≤a+s):Seg n (T2 (2 * s) 0) d:=by
 rcases hs with rfl | rfl | rfl
 all_goals exact h.iff (fun x y g1 g2=>by unfold T2;omega)
theorem zfd {n s:Nat} {d:Array Cl} (hs:s=20∨s=40∨s=80∨s=160) (h:Seg n (T2 s 0) d) (hn:n≤s):SortedIn tB 0 n d:=by
 intro x y g1 g2 g3;refine (h x y g2 g3).1 ?_
 rcases hs with rfl | rfl | rfl | rfl
 all_goals (unfold T2;omega)
end
section
open Go.RowKit Go.Shelf Go.Lib Go.Sort
theorem zaN (blk off cap:Nat) (d0:Array Cl) (w0:World) (R:RowK z1K 3 w0 blk off d0):∀ (n a m b:Nat) (d:Array Cl) (w:World),b - a≤n→d0.size=d.size→SWK z1K 3 w0 blk off d w→z3T a m b d→a < m→m < b→b≤d.size→d.size < 4611686018427387904 →
  Calls Tryz.prog 169 #[.slice (some ⟨blk,off,none⟩) d.size cap,.int .i64 a,.int .i64 m,.int .i64 b,.func (.func 160) #[] #[]] w fun e w'=>e=.returned (.tuple #[])∧∃ d',PermIn a b d d'∧SortedIn tB a b d'∧SWK z1K 3 w0 blk off d' w'
 | 0,a,m,b,d,w,hn,_,_,_,h1,h2,_,_=>by omega
 | n+1,a,m,b,d,w,hn,hs,S,M,h1,h2,hb,hsz=>by
  by_cases c1:m=a+1
  ·exact zid 3 Tryz.sizeOf195 z1K 160 #[] blk off cap a m b d0 d w0 w egC (zd9 _ _ _ _) R hs S M h1 h2 hb hsz c1
  ·by_cases c2:b=m+1
   ·exact zgN 3 Tryz.sizeOf195 z1K 160 #[] blk off cap a m b d0 d w0 w egC (zd9 _ _ _ _) R hs S M h1 h2 hb hsz c1 c2
   ·by_cases c3:(a+b) / 2 < m
    ·exact zda 3 Tryz.sizeOf195 z1K 160 #[] blk off cap a m b d0 d w0 w egC (zd9 _ _ _ _) R hs S M h1 h2 hb hsz c1 c2
      (fun a' m' b' d' W q1 q2 q3 q4 q5 q6 q7 q8=>zaN blk off cap d0 w0 R n a' m' b' d' W (by omega) q2 q3 q4 q5 q6 q7 q8) ((a+b) / 2) (by omega) (by omega) ((a+b) / 2+m - b) ((a+b) / 2) (.inl ⟨rfl,rfl,c3⟩)
    ·exact zda 3 Tryz.sizeOf195 z1K 160 #[] blk off cap a m b d0 d w0 w egC (zd9 _ _ _ _) R hs S M h1 h2 hb hsz c1 c2
      (fun a' m' b' d' W q1 q2 q3 q4 q5 q6 q7 q8=>zaN blk off cap d0 w0 R n a' m' b' d' W (by omega) q2 q3 q4 q5 q6 q7 q8) ((a+b) / 2) (by omega) (by omega) a m (.inr ⟨rfl,rfl,c3⟩)
theorem zfe (blk off cap:Nat) (d0:Array Cl) (w0:World) (R:RowK z1K 3 w0 blk off d0) (hA:Asc 0 d0.size d0) (h100:d0.size≤100) :
  Calls Tryz.prog 164 #[.slice (some ⟨blk,off,none⟩) d0.size cap,.int .i64 d0.size,.func (.func 160) #[] #[]] w0 fun e w'=>e=.returned (.tuple #[])∧∃ d',PermIn 0 d0.size d0 d'∧SortedIn tB 0 d0.size d'∧SWK z1K 3 w0 blk off d' w':=by
 have HI:=Hd (fun a b d w h1 h2 h3 h4 h5=>zjl blk off cap a b d0 d w0 w R h1 h2 h3 h4 h5);have HY:=Hd (fun a m b d w=>zaN blk off cap d0 w0 R (b - a) a m b d w (Nat.le_refl _));have S0:=Hd (SWK.start R.hH);have G0:=Hd (zgO hA);obtain ⟨n,hn⟩:∃ n,n=d0.size:=⟨_,rfl⟩;rw [← hn] at G0 h100;have HN:=Hd hn;rw [← hn];clear hA hn;go_enter Tryz.func164,Tryz.ntmps164;go_wp2_with fail
 go_loopw [7,8] (fun s7 s8 W=>∃ (a:Nat) (d:Array Cl),s7=.int .i64 a∧s8=.int .i64 ((a:Int)+20)∧a % 20=0∧a≤n∧Hid (SWK z1K 3 w0 blk off d W)∧Hid (Seg n (T1 a) d∧PermIn 0 n d0 d)) (fun s7 _ _=>n - (intOf s7).toNat)
 case atStart=>exact ⟨0,d0,rfl,rfl,rfl,Nat.zero_le _,S0,G0.out,permIn_refl _ _ _⟩
 case round =>
  clear S0 G0;obtain ⟨a,d,rfl,rfl,ha,han,HS,HG⟩:=hrel;have hz:d.size=n:=HG.out.2.1.trans HN.out.symm;have HZ:=Hd hz;clear hz;by_cases hlt:a+20≤n
  ·have hltz:(a:Int)+20≤(n:Int):=(by omega);have HW:=HI.out a (a+20) d wr (by rw [← HN.out];exact HZ.out.symm) HS.out (by omega) (by rw [HZ.out];exact hlt) (by rw [HZ.out];omega);have e1:((a+20:Nat):Int)=(a:Int)+20:=(by omega);rw [HZ.out,e1] at HW;go_wp2_with fail
   refine HW.mono ?_;rintro e w2 ⟨rfl,S2⟩;obtain ⟨p2,s2⟩:=zbm d a (a+20) (by omega) (by rw [HZ.out];exact hlt) (za9 HG.out.1 hlt)
   have G2:Hid (Seg n (T1 (a+20)) (Sort.insertionSort (ltOf cfC) d a (a+20))∧PermIn 0 n d0 (Sort.insertionSort (ltOf cfC) d a (a+20))) :=
    ⟨zjn HG.out.1 (by rw [HZ.out];exact Nat.le_refl _) ha hlt p2 s2,permIn_trans _ _ _ 0 n HG.out.2 (permIn_mono _ _ a (a+20) 0 n (Nat.zero_le _) hlt (by rw [HZ.out];exact Nat.le_refl _) p2)⟩
   have HS2:=Hd S2;clear p2 s2 S2 HW;generalize Sort.insertionSort (ltOf cfC) d a (a+20)=d2 at G2 HS2;go_wp2;go_roundw
   case rel=>exact ⟨a+20,d2,by go_num,by go_num,by omega,hlt,HS2,G2⟩
   case measure=>simp [intOf];omega
  ·have hltz:¬ (a:Int)+20≤(n:Int):=(by omega);have HW:=HI.out a n d wr (by rw [← HN.out];exact HZ.out.symm) HS.out han (by rw [HZ.out];exact Nat.le_refl _) (by rw [HZ.out];omega);rw [HZ.out] at HW;go_wp2_with fail
   refine HW.mono ?_;rintro e w2 ⟨rfl,S2⟩;obtain ⟨p2,s2⟩:=zbm d a n han (by rw [HZ.out];exact Nat.le_refl _) (za9 HG.out.1 (Nat.le_refl _))
   have G2:Hid (Seg n (T2 20 0) (Sort.insertionSort (ltOf cfC) d a n)∧PermIn 0 n d0 (Sort.insertionSort (ltOf cfC) d a n)) :=
    ⟨zdN HG.out.1 (by rw [HZ.out];exact Nat.le_refl _) ha han (by omega) p2 s2,permIn_trans _ _ _ 0 n HG.out.2 (permIn_mono _ _ a n 0 n (Nat.zero_le _) (Nat.le_refl _) (by rw [HZ.out];exact Nat.le_refl _) p2)⟩
   have HS2:=Hd S2;clear p2 s2 S2 HW HS HG HZ;generalize Sort.insertionSort (ltOf cfC) d a n=d2 at G2 HS2;go_wp2_with fail
   go_loopw [6] (fun s6 W=>∃ (s:Nat) (d:Array Cl),s6=.int .i64 s∧20≤s∧s≤160∧Hid (s=20∨s=40∨s=80∨s=160)∧Hid (SWK z1K 3 w0 blk off d W)∧Hid (Seg n (T2 s 0) d∧PermIn 0 n d0 d)) (fun s6 _=>200 - (intOf s6).toNat)
   case atStart=>exact ⟨20,d2,rfl,by omega,by omega,Or.inl rfl,HS2,G2⟩
   case round =>
    clear HS2 G2;obtain ⟨s,d,rfl,hs1,hs2,HO,HS,HG⟩:=hrel;by_cases hsn:s < n
    ·have hsz:(s:Int) < (n:Int):=(by omega);have HO3:Hid (s=20∨s=40∨s=80):=(by have h1:=HO.out;show _∨_;omega);have hs3:s≤80:=(by have h1:=HO3.out;omega);have HM:Hid (∀ a:Nat,a % (2 * s)=0→(a+2 * s) % (2 * s)=0):=fun a h=>by rw [Nat.add_mod_right];exact h
     go_wp2_with fail
     go_loopw [7,8] (fun s7 s8 W=>∃ (a:Nat) (d:Array Cl),s7=.int .i64 a∧s8=.int .i64 ((a:Int)+2 * (s:Int))∧a≤n∧Hid (a % (2 * s)=0)∧Hid (SWK z1K 3 w0 blk off d W)∧Hid (Seg n (T2 s a) d∧PermIn 0 n d0 d)) (fun s7 _ _=>n - (intOf s7).toNat)
     case atStart=>exact ⟨0,d,rfl,by go_num,Nat.zero_le _,Nat.zero_mod _,HS,HG⟩
     case round =>
      clear HS HG;obtain ⟨a,d,rfl,rfl,han,HA,HS,HG⟩:=hrel;have HZ:Hid (d.size=n):=HG.out.2.1.trans HN.out.symm;by_cases hlt:a+2 * s≤n
      ·have hltz:(a:Int)+2 * (s:Int)≤(n:Int):=(by omega);have HW:=HY.out a (a+s) (a+2 * s) d wr (by rw [← HN.out];exact HZ.out.symm) HS.out (zaa HO3.out HG.out.1 HA.out rfl (by omega) hlt (Nat.le_refl _)) (by omega) (by omega) (by rw [HZ.out];exact hlt) (by rw [HZ.out];omega);have e1:((a+2 * s:Nat):Int)=(a:Int)+2 * (s:Int):=(by omega);have e2:((a+s:Nat):Int)=(a:Int)+(s:Int):=(by omega);rw [HZ.out,e1,e2] at HW;go_wp2_with fail
       refine HW.mono ?_;rintro e w3 ⟨rfl,d3,p3,s3,S3'⟩;have G3:Hid (Seg n (T2 s (a+2 * s)) d3∧PermIn 0 n d0 d3):=⟨zgP HO3.out HG.out.1 (by rw [HZ.out];exact Nat.le_refl _) HA.out rfl hlt p3 s3,permIn_trans _ _ _ 0 n HG.out.2 (permIn_mono _ _ a (a+2 * s) 0 n (Nat.zero_le _) hlt (by rw [HZ.out];exact Nat.le_refl _) p3)⟩;have S3:=Hd S3';have HA3:=Hd (HM.out a HA.out);clear p3 s3 S3' HW;go_wp2;go_roundw
       case rel=>exact ⟨a+2 * s,d3,by rw [e1],by rw [e1],hlt,HA3,S3,G3⟩
       case measure=>simp [intOf];omega
      ·have hltz:¬ (a:Int)+2 * (s:Int)≤(n:Int):=(by omega);by_cases hmn:a+s < n
       ·have hmz:(a:Int)+(s:Int) < (n:Int):=(by omega);have HW:=HY.out a (a+s) n d wr (by rw [← HN.out];exact HZ.out.symm) HS.out (zaa HO3.out HG.out.1 HA.out rfl (by omega) (Nat.le_refl _) (by omega)) (by omega) (by omega) (by rw [HZ.out];exact Nat.le_refl _) (by rw [HZ.out];omega);have e2:((a+s:Nat):Int)=(a:Int)+(s:Int):=(by omega);rw [HZ.out,e2] at HW;go_wp2_with fail
        refine HW.mono ?_;rintro e w3 ⟨rfl,d3,p3,s3,S3'⟩;have G3:Hid (Seg n (T2 (2 * s) 0) d3∧PermIn 0 n d0 d3):=⟨zbY HO3.out HG.out.1 (by rw [HZ.out];exact Nat.le_refl _) HA.out han (by omega) p3 s3,permIn_trans _ _ _ 0 n HG.out.2 (permIn_mono _ _ a n 0 n (Nat.zero_le _) (Nat.le_refl _) (by rw [HZ.out];exact Nat.le_refl _) p3)⟩;have S3:=Hd S3';have HO4:Hid (2 * s=20∨2 * s=40∨2 * s=80∨2 * s=160):=(by have h1:=HO3.out;show _∨_;omega);clear p3 s3 S3' HW;go_wp2;go_roundw
        case rel=>exact ⟨2 * s,d3,by go_num,by omega,by omega,HO4,S3,G3⟩
        case measure=>simp [intOf];omega
       ·have hmz:¬ (a:Int)+(s:Int) < (n:Int):=(by omega);have G3:Hid (Seg n (T2 (2 * s) 0) d∧PermIn 0 n d0 d):=⟨zie HO3.out HG.out.1 HA.out han (by omega),HG.out.2⟩;have HO4:Hid (2 * s=20∨2 * s=40∨2 * s=80∨2 * s=160):=(by have h1:=HO3.out;show _∨_;omega);go_wp2;go_roundw
        case rel=>exact ⟨2 * s,d,by go_num,by omega,by omega,HO4,HS,G3⟩
        case measure=>simp [intOf];omega
    ·have hsz:¬ (s:Int) < (n:Int):=(by omega);have HE:Hid (PermIn 0 n d0 d∧SortedIn tB 0 n d):=⟨HG.out.2,zfd HO.out HG.out.1 (by omega)⟩;go_wp2
     go_end0
     exact ⟨rfl,d,HE.out.1,HE.out.2,HS.out⟩
theorem zaO (blk off cap:Nat) (d0:Array Cl) (w0:World) (R:RowK z1K 3 w0 blk off d0) (hA:Asc 0 d0.size d0) (h100:d0.size≤100) :
  Calls Tryz.prog 159 #[.slice (some ⟨blk,off,none⟩) d0.size cap,.func (.func 160) #[] #[]] w0 fun e w'=>e=.returned (.tuple #[])∧∃ d',PermIn 0 d0.size d0 d'∧SortedIn tB 0 d0.size d'∧SWK z1K 3 w0 blk off d' w':=by
 have HW:=Hd (zfe blk off cap d0 w0 R hA h100);clear hA R;go_enter Tryz.func159,Tryz.ntmps159;go_wp2_with fail
 refine HW.out.mono ?_;rintro e w1 ⟨rfl,h⟩;have H:=Hd h;clear h;go_wp2
 go_end0
 exact ⟨rfl,H.out⟩
theorem zbI {w0 W:World} {g:Nat} {d:Array Cl} (h:SWK z1K 3 w0 g 0 d W) {j:Nat} (hj:j < w0.heap.size) (hne:j ≠ g):W.heap[j]?=w0.heap[j]?:=by
 obtain ⟨n,os,rfl⟩:=h;unfold sortWorldK;rw [heap_grow_old _ _ (by rw [size_putRowK];exact hj)];unfold putRowK putRow mapBlock;show (Array.modify _ _ _)[j]?=_;rw [Array.getElem?_modify];simp [Ne.symm hne]
theorem zgQ {w0 W:World} {g B:Nat} {d:Array Cl} (h:SWK z1K 3 w0 g 0 d W) (hB:B≤g) (hg:g < w0.heap.size):Below B w0 W:=by
 have hs:=h.le;have ho:=fun j (hj:j < B)=>zbI h (j:=j) (by omega) (by omega);obtain ⟨n,os,rfl⟩:=h;exact ⟨rfl,rfl,rfl,hs,ho⟩
theorem zdb {w:World} {g:Nat} {d:Array Cl} (h:HoldsK z1K 3 w g 0 d) {i:Nat} (hi:i < d.size) :
  w.cell? ⟨g,i * 3,none⟩=some (.int .i64 d[i]!.p)∧w.cell? ⟨g,i * 3+1,none⟩=some (.int .i64 d[i]!.w)∧w.cell? ⟨g,i * 3+2,none⟩=some (.int .i64 d[i]!.o):=by
 have h0:=h.cell (i:=i) (c:=0) hi (by omega);have h1:=h.cell (i:=i) (c:=1) hi (by omega);have h2:=h.cell (i:=i) (c:=2) hi (by omega);simp only [Nat.zero_add,Nat.add_zero] at h0 h1 h2;exact ⟨h0.1,h1.1,h2.1⟩
theorem z6H {w w':World} {g:Nat} {d:Array Cl} (h:RowK z1K 3 w g 0 d) (hb:w'.heap[g]?=w.heap[g]?):RowK z1K 3 w' g 0 d:=by
 have hlt:g < w'.heap.size:=by
  have:=h.hblk;rw [Array.getElem?_eq_getElem this] at hb;exact (bL hb)
 refine ⟨h.hk,h.h1,fun j hj=>?_,hlt⟩;have hh:=h.hH j hj;rw [World.cell?_of_block (w:=w) (a:=⟨g,0+j,none⟩) hb,World.frozen?_of_block (w:=w) (a:=⟨g,0+j,none⟩) hb];exact hh
theorem zif {n i:Nat} (h:i < n):(z1g n)[i]?=some (.int .i64 0):=by
 unfold z1g;rw [Nat.mul_one,← Array.getElem?_toList,show (Value.int .i64 0).cells=#[Value.int .i64 0] from rfl,toList_madeCells_one];simp [h]
theorem zdc {a b:List Int} (h:a.length=b.length) (hh:∀ i,i < a.length→a.getD i 0=b.getD i 0):a=b:=by
 apply List.ext_getElem h;intro i h1 h2;have:=hh i h1
 simpa [List.getD,h1,h2] using this
theorem z48 (w:World) (n:Nat) (hn:n≤1048576):zq (w.alloc (.cells (z1g n) 3)) w.heap.size (w.heap.size+1) (.slice (some ⟨w.heap.size,0,none⟩) n n) (List.replicate n 0) :=
 .inr ⟨w.heap.size,n,z1g n,by simp,Nat.le_refl _,by omega,zj _ _,by simp,by unfold maxLen;omega,z6y n,fun i hi=>by
  rw [List.length_replicate] at hi;rw [zif hi];simp [List.getD,hi]⟩
theorem z54 (t:Int) (v:Value) (l:List Int) (hok:zB t l=true) (w:World) (h:zA w v l) :
  Calls Tryz.prog 151 #[.int .i64 t,v] w fun e w'=>∃ x,e=.returned x∧zq w' w.heap.size w'.heap.size x (zt t l)∧Below w.heap.size w w':=by
 obtain ⟨a,cap,rfl,_⟩:=h.form;have H:=Hd h;clear h;by_cases hne:l.length=0
 ·obtain rfl:l=[]:=List.eq_nil_of_length_eq_zero hne;have HE:=Hd (z4j (t:=t) (l:=[]) (by simp));go_enter Tryz.func151,Tryz.ntmps151;go_wp2;go_ret;exact ⟨_,rfl,.inl ⟨rfl,HE.out⟩,Below.refl _ _⟩
 ·obtain ⟨ht,hl,hw⟩:=z04 hok;have h0:0 < l.length:=(by omega);have hnil:l ≠ []:=List.length_pos_iff.1 h0;have hlz:((l.length:Int) == 0)=false:=(by simp;omega);have HF:=Hd (z2B hok hnil);have hokU:=z4L hok;have hpU:=z5h hw h0;have hln:=z3w l;have HC:=Hd (fun W=>zcG t (.slice a l.length cap) l ht h0 hl hw W);have hmk:=z5z l.length (by omega);generalize wts l=u at HF hokU hpU hln HC;have HL:=Hd hln;have HBS:=Hd (fun k hk=>z7p hokU hpU (i:=k) hk);have HSU:=Hd (z5i hokU hpU);have HLE:=Hd (z6a hokU hpU);have HUB:Hid (∀ k,k≤u.length→0≤z12 t u k∧z12 t u k≤t):=fun k hk=>⟨(z5R k).1,Int.le_trans (z5S hk) (z4W hokU hpU).1⟩;clear hln hokU hpU hw hne hnil;go_enter Tryz.func151,Tryz.ntmps151;go_wp2_with fail
  refine (HC.out _ H.out).mono ?_;rintro e w1 ⟨g,rfl,hg,hR1,hb1⟩;have HR:=Hd hR1;have HK1:=Hd hb1;have hg1:g < w1.heap.size:=hR1.hblk;have hw1:=hb1.size;clear hR1 hb1;go_wp2_with fail
  clear hmk;have S0:Hid (zq (w1.alloc (.cells (z1g l.length) 3)) w1.heap.size (w1.heap.size+1) (.slice (some ⟨w1.heap.size,0,none⟩) l.length l.length) (List.replicate l.length 0)):=z48 w1 l.length (by omega);go_loopw [7,24] (fun s7 s30 W=>∃ (k:Nat) (gl:List Int),k≤l.length∧s30=.int .i64 k∧s7=.int .i64 (t - z12 t u k)∧gl.length=l.length∧Hid (zq W w1.heap.size (w1.heap.size+1) (.slice (some ⟨w1.heap.size,0,none⟩) l.length l.length) gl)∧Hid (∀ i,i < k→gl.getD i 0=(z0t t u).getD i 0)∧Hid (W.heap[g]?=w1.heap[g]?)∧Hid (Below w.heap.size w W)∧w1.heap.size < W.heap.size) (fun _ s30 _=>l.length - (intOf s30).toNat)
  case atStart=>exact ⟨0,List.replicate l.length 0,Nat.zero_le _,rfl,by simp [z12],by simp,S0,fun i hi=>absurd hi (Nat.not_lt_zero _),Below.heap_alloc _ _ _ hg1,ze HK1.out _,by simp⟩
  case round =>
   clear S0;obtain ⟨k,gl,hk,rfl,rfl,hgl,HG,HE,HB,HW,hsz⟩:=hrel;by_cases hlt:k < l.length
   ·have hku:k < u.length:=(by rw [HL.out];exact hlt);have hds:k < (clL t u).toArray.size:=(by simp [z4J];exact hku);obtain ⟨c0,c1,c2⟩:=zdb (z6H HR.out HB.out).hH hds;have hbk:=HBS.out k hku;rw [z4K hku] at hbk;have hsu:=HUB.out k (by omega);have hsv:=HUB.out (k+1) (by omega);have HBG:=Hd (z4K (t:=t) hku)
    have HDU:Hid (z12 t u (k+1)=z12 t u k+(z0t t u).getD k 0):=by
     have e1:=HSU.out k (by omega);have e2:=HSU.out (k+1) (by omega);rw [z1D (by rw [z0s];exact hku)] at e2;show _=_;omega
    rw [HDU.out,HBG.out] at hsv;rw [z8C hku] at c0 c1 c2;simp only [cl] at c0 c1 c2;generalize t * u.getD k 0 / u.sum=x at c1 HBG hbk hsv;generalize t * u.getD k 0 % u.sum=y at c2;obtain ⟨g',cap',e',hb1',hd1',hgs,hc1,hc2,hx,hf⟩:=HG.out.get (i:=k) (by omega);simp only [Value.slice.injEq,Option.some.injEq,Addr.mk.injEq,and_true] at e';obtain ⟨e1',e2',e3'⟩:=e';subst e1';clear e2' e3' hc1 hc2 hb1' hd1' hgs hds;generalize gl.getD k 0=z at hx;have hgw:g < wr.heap.size:=(by omega);go_wp2;go_roundw
    case rel =>
     refine ⟨k+1,gl.set k x,by omega,by go_num,by rw [HDU.out,HBG.out];congr 1;omega,by simp [hgl],(HG.out.set (i:=k) (by omega) x).below (ze (Below.refl _ _) _) (by rw [z2T];omega),fun i hi=>?_,(Below.heap_alloc _ _ _ (by rw [z2T];omega)).trans ((Below.heap_setCell _ _ _ _ (by simp;omega)).trans HB.out),ze (z2l HW.out hw1 _) _,by simp;omega⟩;by_cases e:i=k
     ·subst e;rw [HBG.out];simp [List.getD,hgl,hlt]
     ·have:=HE.out i (by omega);rw [← this];simp [List.getD,List.getElem?_set_ne (Ne.symm e)]
    case measure=>simp [intOf];omega
   ·obtain rfl:k=l.length:=by omega
    have eg:gl=z0t t u:=zdc (by rw [hgl,z0s,HL.out]) (fun i hi=>HE.out i (by omega));obtain ⟨lf,hlf⟩:∃ lf,lf=z2v t u:=⟨_,rfl⟩;have el:t - z12 t u l.length=(lf:Int):=(by rw [hlf,HLE.out.1,HL.out]);have hlf1:lf < l.length:=(by rw [hlf,← HL.out];exact HLE.out.2);have hcs:(clL t u).toArray.size=l.length:=(by simp [z4J,HL.out])
    have HSo:Hid (Calls Tryz.prog 159 #[.slice (some ⟨g,0,none⟩) l.length l.length,.func (.func 160) #[] #[]] wr fun e w'=>e=.returned (.tuple #[])∧SWK z1K 3 wr g 0 (zW t u).toArray w'):=by
     have h1:=zaO g 0 l.length (clL t u).toArray wr (z6H HR.out HB.out) (zjI t u) (by rw [hcs];exact hl);have h2:=h1.mono (R':=fun e w'=>e=.returned (.tuple #[])∧SWK z1K 3 wr g 0 (zW t u).toArray w') (fun e w' ⟨he,d',hp,hs,hS⟩=>⟨he,by rw [← zjJ hp hs];exact hS⟩);rw [hcs] at h2;exact h2
    have HLF:=Hd hlf;rw [eg] at HG;rw [el];clear eg HE hgl el hcs hlf;go_wp2_with fail
    refine HSo.out.mono ?_;rintro e w3 ⟨rfl,S3⟩
    have HG3:Hid (zq w3 w1.heap.size (w1.heap.size+1) (.slice (some ⟨w1.heap.size,0,none⟩) l.length l.length) (z1l (z0t t u) (zW t u) 0)):=by
     rw [z5T];exact HG.out.kept (fun j h1 h2 h3=>zbI S3 h1 (by omega))
    have HW3:=Hd (HW.out.trans ((zgQ S3 (Nat.le_refl _) (by omega)).mono hg));have HS3:=Hd (S3.holds (by omega) (z6H HR.out HB.out).hH (by simp [z4J,z5j]));have hz3:w1.heap.size < w3.heap.size:=Nat.lt_of_lt_of_le hsz S3.le;clear S3 HSo HG HW HB hsz;go_wp2_with fail
    have hg3:g < w3.heap.size:=(by omega);go_loopw [45] (fun s51 W=>∃ j:Nat,j≤lf∧s51=.int .i64 j∧Hid (zq W w1.heap.size (w1.heap.size+1) (.slice (some ⟨w1.heap.size,0,none⟩) l.length l.length) (z1l (z0t t u) (zW t u) j))∧Hid (W.heap[g]?=w3.heap[g]?)∧Hid (Below w.heap.size w W)∧w1.heap.size < W.heap.size) (fun s51 _=>lf - (intOf s51).toNat)
    case atStart=>exact ⟨0,Nat.zero_le _,rfl,HG3,rfl,HW3,hz3⟩
    case round =>
     clear HG3 HW3 hz3;obtain ⟨k,hk,rfl,HG,HB,HW,hsz⟩:=hrel;by_cases hlt:k < lf
     ·have hks:k < (zW t u).length:=(by rw [z5j,HL.out];omega);have hka:k < (zW t u).toArray.size:=(by simpa using hks);obtain ⟨c0,c1,c2⟩:=zdb (z6H ⟨z9e,z9f,HS3.out,by omega⟩ HB.out).hH hka;have hget:(zW t u).toArray[k]! = (zW t u)[k]:=(by rw [getElem!_pos _ k hka];simp);rw [hget] at c0 c1 c2;obtain ⟨i,hi,hcl⟩:=z6m (List.getElem_mem hks);have HN:=Hd (z4X (g:=z0t t u) hks);rw [hcl] at c0 c1 c2 HN;have hil:i < l.length:=(by rw [← HL.out];exact hi);have hbl:(z1l (z0t t u) (zW t u) k).length=l.length:=(by rw [z4M,z0s,HL.out]);have hbb:=z5A (B:=100000) (s:=zW t u) (fun j hj=>HBS.out j (by rw [z0s] at hj;exact hj)) k (by omega) i (by rw [z0s];exact hi);obtain ⟨g',cap',e',hb1',hd1',hgs,hc1,hc2,hx,hf⟩:=HG.out.get (i:=i) (by omega);simp only [Value.slice.injEq,Option.some.injEq,Addr.mk.injEq,and_true] at e';obtain ⟨e1',e2',e3'⟩:=e';subst e1';simp only [cl] at c0 c1 c2;have HN2:Hid (z1l (z0t t u) (zW t u) (k+1)=(z1l (z0t t u) (zW t u) k).set i ((z1l (z0t t u) (zW t u) k).getD i 0+1)):=HN.out;have HST:=Hd (HG.out.set (i:=i) (by omega) ((z1l (z0t t u) (zW t u) k).getD i 0+1));rw [← HN2.out] at HST;generalize (z1l (z0t t u) (zW t u) k).getD i 0=z at hx hbb HST;generalize t * u.getD i 0 / u.sum=x at c1;generalize t * u.getD i 0 % u.sum=y at c2;clear e2' e3' hc1 hc2 hb1' hd1' hgs HN HN2 hget hka hks hcl hbl;have hgw:g < wr.heap.size:=(by omega);go_wp2;go_roundw
      case rel =>
       refine ⟨k+1,by omega,by go_num,HST.out.below (ze (Below.refl _ _) _) (by rw [z2T];omega),(Below.heap_alloc _ _ _ (by rw [z2T];omega)).trans ((Below.heap_setCell _ _ _ _ (by simp;omega)).trans HB.out),ze (z2l HW.out hw1 _) _,by simp;omega⟩
      case measure=>simp [intOf];omega
     ·obtain rfl:k=lf:=by omega
      have HE:Hid (zt t l=z1l (z0t t u) (zW t u) k):=(by rw [HLF.out];exact HF.out);go_wp2;go_ret;exact ⟨_,rfl,by rw [HE.out];exact HG.out.base hw1 hsz,HW.out⟩
theorem zdd (t:Int) (v:Value) (l:List Int) (w:World) (h:zA w v l) :
  Calls Tryz.prog 162 #[.int .i64 t,v] w fun e w'=>∃ x,e=.returned x∧zq w' w.heap.size w'.heap.size x (zt t l)∧Below w.heap.size w w':=by
 obtain ⟨a,cap,rfl,_⟩:=h.form;have H:=Hd h;clear h;have HO:=Hd (fun W=>zgp t (.slice a l.length cap) l W);by_cases hok:zB t l=true
 ·have HS:=Hd (fun W=>z54 t (.slice a l.length cap) l hok W);go_enter Tryz.func162,Tryz.ntmps162;go_wp2_with fail
  refine (HO.out _ H.out).mono ?_;rintro e w1 ⟨rfl,e1⟩
  cases e1
  rw [hok];go_wp2_with fail
  refine (HS.out _ H.out).mono ?_;rintro e w2 ⟨x,rfl,hr,hb⟩;have R:=Hd (And.intro hr hb);clear hr hb;go_wp2;go_ret;exact ⟨x,rfl,R.out.1,R.out.2⟩
 ·have hok':=eq_false_of_ne_true hok;have HE:=Hd (z4j (t:=t) (l:=l) (by simp [hok']));go_enter Tryz.func162,Tryz.ntmps162;go_wp2_with fail
  refine (HO.out _ H.out).mono ?_;rintro e w1 ⟨rfl,e1⟩
  cases e1
  rw [hok'];go_wp2;go_ret;exact ⟨_,rfl,.inl ⟨rfl,HE.out⟩,Below.refl _ _⟩
end
section
open Go.RowKit
theorem z8q {w:World} {b off n cap:Nat} {l:List Int} (H:zA w (.slice (some ⟨b,off,none⟩) n cap) l) {w':World} (K:Below w.heap.size w w'):∀ j x,(l.map (Value.int .i64))[j]?=some x→w'.cell? ((⟨b,off,none⟩:Addr).add j)=some x:=by
 intro j x hx;rw [List.getElem?_map] at hx;obtain ⟨y,hy,rfl⟩:=Option.map_eq_some_iff.1 hx;have hj:=(List.getElem?_eq_some_iff.1 hy).1;rw [Go.WideShapes.add_plain];obtain ⟨bq,oq,cq,eq1,_,_,hbw,hcq⟩:=H.get hj;simp only [Value.slice.injEq,Option.some.injEq,Addr.mk.injEq,and_true] at eq1;obtain ⟨⟨rfl,rfl⟩,_⟩:=eq1;rw [K.cell (p:=⟨b,off+j,none⟩) hbw,hcq];simp [List.getD,hy]
theorem zaQ (l:List Int):∀ x ∈ l.map (Value.int .i64),x.oneCell'=true:=fun x hx=>by obtain ⟨y,_,rfl⟩:=List.mem_map.1 hx;rfl
theorem zjR:(Tryz.prog.info? 3).map (fun i=>(i.zero,i.size,i.bytes))=some (some (Value.int .i64 0),1,8):=by kernel_rfl
theorem z7P (t:Int) (v:Value) (l:List Int) (hok:zB t l=true) (w:World) (h:zA w v l) :
  Calls Tryz.prog 148 #[.int .i64 t,v] w fun e w'=>∃ x,e=.returned (.tuple #[x,.int .i64 (z2e t l)])∧zq w' w.heap.size w'.heap.size x (z0x t l)∧Below w.heap.size w w':=by
 obtain ⟨i0,hi0,hz0,hz1,hz2⟩:=info_parts zjR;obtain ⟨a,cap,rfl,_⟩:=h.form;have H:=Hd h;obtain ⟨ht,hl,hw⟩:=z04 hok;have hsb:=z2z hw;have HS:=Hd (fun W=>z7M (.slice a l.length cap) l (by omega) hw W);by_cases hs:l.sum≤t
 ·obtain ⟨e1,e2⟩:=z3R hok hs;have E1:=Hd e1;have E2:=Hd e2;clear e1 e2 hw;by_cases h0:0 < l.length
  ·obtain ⟨b,off,cap',e',_,_,hbw,_⟩:=h.get h0;simp only [Value.slice.injEq,true_and] at e';obtain ⟨rfl,rfl⟩:=e';clear h;go_enter Tryz.func148,Tryz.ntmps148;go_wp2_with fail
   refine (HS.out _ H.out).mono ?_;rintro e w1 ⟨rfl,ex⟩
   cases ex
   generalize l.sum=s at hs E2 hsb;go_wp2_with (at_builtin;refine wpList_append_own_at _ rfl _ _ 27 rfl w.heap.size 3 i0 (.int .i64 0) 1 8 Tryz.underlying27 hi0 hz0 hz1 hz2 rfl (by decide) _ 0 [] rfl (World.ownsRow_nil w w.heap.size 3 1) ⟨b,off,none⟩ l.length cap (l.map (Value.int .i64)) rfl ?e1 (z8q H.out (Below.refl _ _)) (zaQ l) ?e4 ?e5 ?e6 ?_)
   case e1=>simp
   case e4=>unfold maxLen;omega
   case e5=>omega
   case e6=>exact Nat.le_refl _
   intro v5 w5 ho5 hg5 _ _;have R5:=Hd (zq.of_owns (l:=l) (by simpa using ho5));have K5:Hid (Below w.heap.size w w5):=(Below.refl w.heap.size w).grown hg5 (Nat.le_refl _) (fun q hq=>by simp [Value.ownBlock] at hq);obtain ⟨a5,c5,rfl⟩:=R5.out.form;clear ho5 hg5;go_wp2
   go_ret2
   exact ⟨_,z8m E2.out.symm,by rw [E1.out];exact R5.out,K5.out⟩
  ·obtain rfl:l=[]:=List.eq_nil_of_length_eq_zero (by omega);clear h
   cases a with
   | none =>
    go_enter Tryz.func148,Tryz.ntmps148;go_wp2_with fail
    refine (HS.out _ H.out).mono ?_;rintro e w1 ⟨rfl,ex⟩
    cases ex
    generalize ([]:List Int).sum=s at hs E2 hsb;go_wp2
    go_ret2
    exact ⟨_,z8m E2.out.symm,by rw [E1.out];exact .inl ⟨rfl,rfl⟩,Below.refl _ _⟩
   | some p =>
    go_enter Tryz.func148,Tryz.ntmps148;go_wp2_with fail
    refine (HS.out _ H.out).mono ?_;rintro e w1 ⟨rfl,ex⟩
    cases ex
    generalize ([]:List Int).sum=s at hs E2 hsb;go_wp2
    go_ret2
    exact ⟨_,z8m E2.out.symm,by rw [E1.out];exact .inl ⟨rfl,rfl⟩,Below.refl _ _⟩
 ·obtain ⟨e1,e2⟩:=z30 hok hs;have E1:=Hd e1;have E2:=Hd e2;have HSh:=Hd (fun W=>z54 t (.slice a l.length cap) l hok W);clear e1 e2 hw h;go_enter Tryz.func148,Tryz.ntmps148;go_wp2_with fail
  refine (HS.out _ H.out).mono ?_;rintro e w1 ⟨rfl,ex⟩
  cases ex
  generalize l.sum=s at hs hsb;go_wp2_with fail
  refine (HSh.out _ H.out).mono ?_;rintro e w2 ⟨x,rfl,hr,hb⟩;have R:=Hd (And.intro hr hb);clear hr hb;go_wp2
  go_ret2
  exact ⟨x,z8m E2.out.symm,by rw [E1.out];exact R.out.1,R.out.2⟩
theorem zq.sub {w:World} {B D g n cap:Nat} {l:List Int} (h:zq w B D (.slice (some ⟨g,0,none⟩) n cap) l) {c m:Nat} (hc:c+m≤l.length) (hm:1≤m):zA w (.slice (some ⟨g,c,none⟩) m (cap - c)) (z00 l c m):=by
 have hlen:=z1L hc
 rcases h with ⟨hv,_⟩ | ⟨g',cap',cur,hv,hb,hd,hg,h1,h2,h3,h4⟩
 ·simp at hv
 ·simp only [Value.slice.injEq,Option.some.injEq,Addr.mk.injEq,and_true] at hv;obtain ⟨rfl,rfl,rfl⟩:=hv;refine ⟨_,cap - c,by rw [hlen],by rw [hlen];omega,by omega,fun i hi=>⟨g,c,rfl,(bL hg),?_⟩⟩;rw [hlen] at hi;rw [z7s hc hi];exact (zf hg).trans (h4 (c+i) (by omega))
theorem zq.bk {w w':World} {B D g:Nat} {v:Value} {l:List Int} (h:zq w B D v l) (k:Bk g w w') (hg:g < B∨D≤g):zq w' B D v l:=h.kept (fun j h0 h1 h2=>k.block j h0 (by omega))
theorem zgW {l:List Int} {c m:Nat} {gap:Int} (hb:UpB l 50000) (hc:c+m≤l.length) (hm:1≤m∧m≤4) (hg:0≤gap∧gap≤3):z1I (z00 l c m) gap=(z00 l c m).sum+gap * ((m:Int) - 1)∧0≤z1I (z00 l c m) gap∧z1I (z00 l c m) gap≤300000:=by
 have hs:=z5k (fun x (hx:x ∈ z00 l c m)=>hb.mem (z6n hx));rw [z1L hc] at hs;have hgm:0≤gap * ((m:Int) - 1):=Int.mul_nonneg hg.1 (by omega);have hgm2:gap * ((m:Int) - 1)≤9:=Int.le_trans (Int.mul_le_mul hg.2 (show (m:Int) - 1≤3 by omega) (by omega) (by omega)) (by omega)
 have e:z1I (z00 l c m) gap=(z00 l c m).sum+gap * ((m:Int) - 1):=by
  rw [z3d (by rw [z1L hc];omega),z1L hc,z33 (by omega)]
 rw [e];omega
theorem zgX (B D g n cap:Nat) (l:List Int) (hb:UpB l 50000) (c m:Nat) (hc:c+m≤l.length) (hm:1≤m∧m≤4) (gap need:Int) (hg:0≤gap∧gap≤3) (hn:0≤need∧need≤30) (w:World) (h:zq w B D (.slice (some ⟨g,0,none⟩) n cap) l) (hgw:g < w.heap.size) :
  Calls Tryz.prog 156 #[.slice (some ⟨g,c,none⟩) m (cap - c),.int .i64 gap,.int .i64 need] w fun e w'=>e=.returned (.tuple #[])∧zq w' B D (.slice (some ⟨g,0,none⟩) n cap) (z32 l c m gap need)∧Bk g w w':=by
 have hI:=h.sub hc hm.1;obtain ⟨ha,ha0,ha1⟩:=zgW hb hc hm hg;have KA:=Hd (z5I _ _ gap w hI);have HLk:Hid (z1c l c m gap need=need - z1I (z00 l c m) gap):=(by rw [Hid,ha];rfl);have HH:=Hd h;clear h;by_cases hl:z1c l c m gap need≤0
 ·have HV:Hid (z32 l c m gap need=l):=(by rw [Hid,z32,if_pos hl]);rw [HLk.out] at hl;clear hI ha HLk;generalize z1I (z00 l c m) gap=y at KA hl ha0 ha1
  have hcap:m≤cap - c∧cap - c≤9223372036854775807:=by
   rcases HH.out with ⟨hv,_⟩ | ⟨g',cap',cur,hv,_,_,_,h1,h2,_,_⟩
   ·simp at hv
   ·simp only [Value.slice.injEq,Option.some.injEq,Addr.mk.injEq,and_true] at hv;obtain ⟨rfl,rfl,rfl⟩:=hv;unfold maxLen at h2;omega
  go_enter Tryz.func156,Tryz.ntmps156;go_wp2_with fail
  refine KA.out.mono ?_;rintro e w1 ⟨rfl,rfl⟩;go_wp2;exact bodyPost_ret (v:=.tuple #[]) (by simp [results,Tryz.results156,go_sem]) rfl ⟨rfl,by rw [HV.out];exact HH.out,Bk.refl _ _⟩
 ·obtain ⟨hok,h30⟩:=zaC hb hc hm hg hn.2 (by omega);have HV:Hid (z32 l c m gap need=z2w l c (zt (z1c l c m gap need) (z00 l c m)) m):=(by rw [Hid,z32,if_neg hl])
  have hcap:n=l.length∧m≤cap - c∧cap - c≤9223372036854775807∧B≤g∧g < D:=by
   rcases HH.out with ⟨hv,_⟩ | ⟨g',cap',cur,hv,h5,h6,_,h1,h2,_,_⟩
   ·simp at hv
   ·simp only [Value.slice.injEq,Option.some.injEq,Addr.mk.injEq,and_true] at hv;obtain ⟨rfl,rfl,rfl⟩:=hv;unfold maxLen at h2;omega
  obtain ⟨rfl,hcp1,hcp2,hBg,hgD⟩:=hcap;have hsl:=z1s hok;rw [z1L hc] at hsl;have HSB:=Hd (fun k hk=>z1y (t:=z1c l c m gap need) (l:=z00 l c m) k hk);have KS:=Hd (zdd (z1c l c m gap need) _ _ w hI);rw [HLk.out] at hl h30 KS HV hsl HSB;clear hI ha HLk hok;generalize z1I (z00 l c m) gap=y at KA hl ha0 ha1 h30 KS HV hsl HSB;generalize zt (need - y) (z00 l c m)=sh at KS HV hsl HSB;go_enter Tryz.func156,Tryz.ntmps156;go_wp2_with fail
  refine KA.out.mono ?_;rintro e w1 ⟨rfl,e1⟩
  cases e1
  go_wp2_with fail
  refine KS.out.mono ?_;rintro e w2 ⟨v2,rfl,hr2,hb2⟩;obtain ⟨a2,c2,rfl⟩:=hr2.form;rw [hsl] at hr2 ⊢;have HS2:=Hd hr2;have HR2:=Hd (HH.out.kept (fun j h0 _ _=>hb2.block j h0));have HK2:=Hd (Bk.of_below (r:=g) hb2);have hz2:=hb2.size;clear hr2 hb2 KA KS HH;go_wp2_with fail
  go_loopw [20] (fun s W=>∃ k:Nat,s=.int .i64 k∧k≤m∧Hid (zq W B D (.slice (some ⟨g,0,none⟩) l.length cap) (z2w l c sh k))∧Hid (zq W w.heap.size w2.heap.size (.slice a2 m c2) sh)∧Hid (Bk g w W)) (fun s _=>m - (intOf s).toNat)
  case atStart=>exact ⟨0,rfl,Nat.zero_le _,HR2,HS2,HK2⟩
  case round =>
   obtain ⟨k,rfl,hk,HR,HS,HK⟩:=hrel;by_cases hlt:k < m
   ·obtain ⟨g',cap',e',hb1',hd1',hgs,hc1,hc2,hx,hf⟩:=HS.out.get (i:=k) (by omega);simp only [Value.slice.injEq,hsl,true_and] at e';obtain ⟨rfl,rfl⟩:=e';obtain ⟨g3,cap3,e3,hb3,hd3,hgs3,hc3,hc4,hy,hfy⟩:=HR.out.get (i:=c+k) (by rw [z3g];omega);simp only [Value.slice.injEq,Option.some.injEq,Addr.mk.injEq,and_true] at e3;obtain ⟨rfl,_,rfl⟩:=e3;have hyv:=z6A l c sh (i:=c+k) k (fun j hj=>by omega);rw [hyv] at hy;have hbx:=hb (c+k) (by omega);have hbs:=HSB.out k (by omega);have HN:=Hd (HR.out.set (i:=c+k) (by rw [z3g];omega) (l.getD (c+k) 0+sh.getD k 0));have HN2:Hid (z2w l c sh (k+1)=(z2w l c sh k).set (c+k) (l.getD (c+k) 0+sh.getD k 0)):=rfl;rw [← HN2.out] at HN;generalize l.getD (c+k) 0=z at hy hbx HN;generalize sh.getD k 0=q at hx hbs HN;unfold maxLen at hc2 hc4;clear hyv HN2;go_wp2;go_roundw
    case rel=>exact ⟨k+1,by go_num,by omega,HN.out,HS.out.kept (fun j h0 h1 h2=>Below.heap_setCell _ _ _ _ (by show j ≠ g;omega)),HK.out.set (.inl rfl) _⟩
    case measure=>simp [intOf];omega
   ·obtain rfl:k=m:=by omega
    go_wp2
    go_end0
    exact ⟨rfl,by rw [HV.out];exact HR.out,HK.out⟩
theorem zdP (s:ByteArray) (hs:s.size≤maxLen) (w:World):Calls Tryz.prog 157 #[.string s] w fun e w'=>e=.returned (.int .i64 (z2s s))∧w'=w:=by
 unfold z2s;have hm:=hs;unfold maxLen at hm
 cases hok:z0k s
 all_goals
  go_enter Tryz.func157,Tryz.ntmps157;go_wp2_with (go_at_call 37;refine (z2i _ _ hs).mono ?_;rintro e w' ⟨rfl,rfl⟩;rw [hok])
  go_ret;exact ⟨rfl,rfl⟩
theorem z4q (ac ar:Option Addr) (cc cr:Nat) (t:T) (width:Int) (w:World) {z:Nat} (hc:z07 w z (.slice ac t.cols.length cc) t.cols) (hr:z01 w z (.slice ar t.rows.length cr) t.rows) :
  Calls Tryz.prog 56 #[.agg #[.slice ac t.cols.length cc,.int .i64 t.head,.int .i64 t.foot,.slice ar t.rows.length cr,.int .i64 t.gap],.int .i64 width] w fun e w'=>e=.returned (.bool (zC t && inB width 0 300))∧Below w.heap.size w w':=by
 have K0:=ze (Below.refl w.heap.size w) (.cells #[.slice ac t.cols.length cc,.int .i64 t.head,.int .i64 t.foot,.slice ar t.rows.length cr,.int .i64 t.gap] 26);have KT:=Hd (z3L ac ar cc cr t _ (hc.kept K0) (hr.kept K0));have HK0:=Hd K0;have HI:=Hd (zO width 0 300);clear hc hr K0
 cases htk:zC t with
 | false =>
  rw [htk] at KT;clear htk;go_enter Tryz.func56,Tryz.ntmps56;go_wp2_with fail
  refine KT.out.mono ?_;rintro e w1 ⟨rfl,hb1⟩;have HK1:=Hd (zh HK0.out hb1);clear hb1 KT HK0;go_wp2;go_ret;exact ⟨rfl,HK1.out⟩
 | true =>
  rw [htk] at KT;clear htk;go_enter Tryz.func56,Tryz.ntmps56;go_wp2_with fail
  refine KT.out.mono ?_;rintro e w1 ⟨rfl,hb1⟩;have HK1:=Hd (zh HK0.out hb1);clear hb1 KT HK0;go_wp2_with fail
  refine (HI.out _).mono ?_;rintro e w2 ⟨rfl,rfl⟩;go_wp2;go_ret;exact ⟨by simp,HK1.out⟩
end
section
open Go.RowKit
section
variable {P:Program} {ops:Array Oper} {C:World→Prop}
def z1n (n:Nat):Nat→Array Bool
 | 0=>Array.replicate n false
 | k+1=>(z1n n k).setIfInBounds k true
def z8s (P:Program) (ops:Array Oper) (C:World→Prop) (Q:Exit→Act→World→Prop) (z:Nat):Nat→Array Bool→Act→Prop
 | 0,_,_=>False
 | fuel+1,listed,a=>Region.ready .any ops listed ≠ []∧∀ i ∈ Region.ready .any ops listed,if i=z then (∀ w,C w→wpOp P ops Q z (wpAny P .any ops Q fuel (listed.setIfInBounds z true)) a w) else qOp P ops C i (z8s P ops C Q z fuel (listed.setIfInBounds i true)) a
theorem zaf {Q:Exit→Act→World→Prop} {z:Nat}:∀ (fuel:Nat) (listed:Array Bool) (a:Act) (w:World),C w→z8s P ops C Q z fuel listed a→wpAny P .any ops Q fuel listed a w
 | 0,_,_,_,_,h=>h.elim
 | fuel+1,listed,a,w,hw,h=>⟨fun h0=>absurd h0 h.1,fun i hi=>by
   have h2:=h.2 i hi;by_cases hz:i=z
   ·rw [if_pos hz] at h2;subst hz;exact h2 w hw
   ·rw [if_neg hz] at h2;exact wpOp_of_qOp hw (fun a' w' hw'=>zaf fuel _ a' w' hw') h2⟩
theorem zdf {Q:Exit→Act→World→Prop} {z i:Nat} {oi:Oper} {v:Value} (hs:z7z ops z=true) (hi:ops[i]?=some oi) (hiz:i < z) (hsel:∀ (j:Nat) (o:Oper) cs b,ops[j]?=some o→o.op ≠ .select cs b) :
  ∀ (fuel:Nat) (listed:Array Bool) (a:Act),z38 ops (fun k=>listed.getD k false) →
   (∀ j oj,ops[j]?=some oj→j ≠ i→listed.getD j true=false→(∀ e ∈ oj.after,Region.binds .any e=true→e.on ≠ i)→oi.apart ops oj=true) →
   i ∈ Region.ready .any ops listed→YieldsIn P ops C oi v a →
   z8s P ops C Q z fuel (listed.setIfInBounds i true) (a.put oi.dst v)→z8s P ops C Q z (fuel+1) listed a:=by
 intro fuel
 induction fuel with
 | zero=>intro listed a _ _ _ _ H;exact H.elim
 | succ fuel ih =>
  intro listed a hcl hfree hr hy H;refine ⟨fun h=>(by rw [h] at hr;cases hr),fun j hj=>?_⟩;by_cases hji:j=i
  ·rw [if_neg (by omega)];subst hji;exact hy.qOp hi H
  ·have hjz:j ≠ z:=fun e=>by
    subst e;obtain ⟨_,o,ho,ha⟩:=mem_ready.1 hj;have h1:=z8o hs hcl ho ha _ i (Nat.le_refl _) hiz;have h0:=(mem_ready.1 hr).1
    rcases Nat.lt_or_ge i listed.size with h' | h'
    ·simp [h'] at h0 h1;rw [h0] at h1;cases h1
    ·simp [Array.getElem?_eq_none h'] at h1
   rw [if_neg hjz];have h1:=H.2 j (ready_mono hj hji);rw [if_neg hjz] at h1;obtain ⟨hjun,oj,hoj,hall⟩:=mem_ready.1 hj
   have hnot:∀ e ∈ oj.after,Region.binds .any e=true→e.on ≠ i:=fun e he hb heq=>by
    have h1:=hall e he hb;have h0:=(mem_ready.1 hr).1;rw [heq] at h1
    rcases Nat.lt_or_ge i listed.size with h' | h'
    ·simp [h'] at h0 h1;rw [h0] at h1;cases h1
    ·simp [Array.getElem?_eq_none h'] at h1
   have h2:=qOp_put hoj (hfree j oj hoj hji hjun hnot) (fun cs b=>hsel i oi cs b hi) (fun cs b=>hsel j oj cs b hoj) hy h1
   have hfree':∀ k ok,ops[k]?=some ok→k ≠ i→(listed.setIfInBounds j true).getD k true=false →
     (∀ e ∈ ok.after,Region.binds .any e=true→e.on ≠ i)→oi.apart ops ok=true:=fun k ok hk hki hun hno=>by
    refine hfree k ok hk hki ?_ hno;by_cases hjk:j=k
    ·subst hjk;exact hjun
    ·rw [getD_set_ne true hjk] at hun;exact hun
   refine qOp_mono (fun a' h3=>ih (listed.setIfInBounds j true) a' (z5X hcl hj) hfree' (ready_mono hr (Ne.symm hji)) h3.1 ?_) h2;rw [Array.setIfInBounds_comm _ _ hji];exact h3.2
theorem zag {Q:Exit→Act→World→Prop} {n z f:Nat} (hns:Region.noSelect ops=true) (hs:z7z ops z=true) (hz:Region.ready .any ops (z1n n z)=[z]):∀ (l:List Oper) (k:Nat) (a:Act),k+l.length=z→(∀ j,j < l.length→l[j]?=ops[k+j]?)→z38 ops (fun j=>(z1n n k).getD j false) →
  Region.lexFrom .any ops (l.length+(f+1)) k (z1n n k)=true→wpQuiet P ops C (fun a'=>∀ w',C w'→wpOp P ops Q z (wpAny P .any ops Q f (z1n n (z+1))) a' w') l a→z8s P ops C Q z (l.length+(f+1)) (z1n n k) a
 | [],k,a,hk,_,_,_,h=>by
  have hk':k=z:=(by simpa using hk);subst hk';rw [List.length_nil,Nat.zero_add];refine ⟨by rw [hz];simp,fun i hi=>?_⟩;rw [hz] at hi;have hik:i=k:=(by simpa using hi);rw [if_pos hik];exact h
 | o :: l,k,a,hk,hl,hcl,hB,h=>by
  have h0:ops[k]?=some o:=(by simpa using (hl 0 (by simp)).symm);simp only [List.length_cons] at hk hB ⊢;rw [show l.length+1+(f+1)=(l.length+(f+1))+1 by omega] at hB ⊢;rw [Region.lexFrom] at hB;simp only [Bool.and_eq_true] at hB;obtain ⟨⟨hr,hf⟩,hB'⟩:=hB;have hr':k ∈ Region.ready .any ops (z1n n k):=(by simpa using hr);have hst:qOp P ops C k (wpQuiet P ops C (fun a'=>∀ w',C w'→wpOp P ops Q z (wpAny P .any ops Q f (z1n n (z+1))) a' w') l) a:=(by unfold qOp;simp only [h0];exact h);obtain ⟨v,hy,hK⟩:=yieldsIn_of_qOp h0 hst
  exact zdf hs h0 (by omega) (Region.noSelect_spec hns) (l.length+(f+1)) (z1n n k) a hcl (Region.free_spec h0 hf) hr' hy
   (zag hns hs hz l (k+1) _ (by omega) (fun j hj=>by have:=hl (j+1) (by simpa using hj);simpa [Nat.add_assoc,Nat.add_comm 1 j] using this) (z5X hcl hr') hB' hK)
end
theorem zaR {P:Program} {id:Nat} {Q:Exit→Act→World→Prop} {a:Act} {w:World} {l:List Oper} (n f:Nat) {o:Oper} (hm:P.follows .mixedOrders=true) (hl:l.length=n+(f+1)) (ho:l[n]?=some o) (hB:Region.lexB .any l.toArray=true) (hs:z7z l.toArray n=true) (hz:Region.ready .any l.toArray (z1n (n+(f+1)) n)=[n])
  (h:wpQuiet P l.toArray (fun w'=>∃ p:BW w,w'=p.u) (fun a'=>∀ w',(∃ p:BW w,w'=p.u)→if Region.wanted o (yielded l.toArray a'.tmps)=true then o.wp P a' w' (wpAny P .any l.toArray Q f (z1n (n+(f+1)) (n+1))) Q else wpAny P .any l.toArray Q f (z1n (n+(f+1)) (n+1)) (a'.put o.dst undef) w') (l.take n) a):(Code.region id l.toArray true).wp P Q a w:=by
 simp only [Region.lexB,Bool.and_eq_true] at hB;have hlt:(l.take n).length=n:=(by rw [List.length_take];omega);refine wp_region_any hm (zaf (C:=fun w'=>∃ p:BW w,w'=p.u) (z:=n) _ _ _ _ ⟨⟨_,z1d (Below.refl _ _)⟩,rfl⟩ ?_)
 have hcv:∀ a',(∀ w',(∃ p:BW w,w'=p.u)→if Region.wanted o (yielded l.toArray a'.tmps)=true then o.wp P a' w' (wpAny P .any l.toArray Q f (z1n (n+(f+1)) (n+1))) Q else wpAny P .any l.toArray Q f (z1n (n+(f+1)) (n+1)) (a'.put o.dst undef) w')→∀ w',(∃ p:BW w,w'=p.u)→wpOp P l.toArray Q n (wpAny P .any l.toArray Q f (z1n (n+(f+1)) (n+1))) a' w':=by
  intro a' hR w' hw';have h1:=hR w' hw';unfold wpOp;rw [show l.toArray[n]?=some o by simpa using ho];dsimp only
  split
  ·rename_i hw;rw [if_pos hw] at h1;exact .inl h1
  ·rename_i hw;rw [if_neg hw] at h1;exact h1
 have hmono:∀ (q:List Oper) (b:Act),wpQuiet P l.toArray (fun w'=>∃ p:BW w,w'=p.u) (fun a'=>∀ w',(∃ p:BW w,w'=p.u)→if Region.wanted o (yielded l.toArray a'.tmps)=true then o.wp P a' w' (wpAny P .any l.toArray Q f (z1n (n+(f+1)) (n+1))) Q else wpAny P .any l.toArray Q f (z1n (n+(f+1)) (n+1)) (a'.put o.dst undef) w') q b→wpQuiet P l.toArray (fun w'=>∃ p:BW w,w'=p.u) (fun a'=>∀ w',(∃ p:BW w,w'=p.u)→wpOp P l.toArray Q n (wpAny P .any l.toArray Q f (z1n (n+(f+1)) (n+1))) a' w') q b:=by
  intro q
  induction q with
  | nil=>intro b hb;exact hcv b hb
  | cons o q ih =>
   intro b hb;simp only [wpQuiet] at hb ⊢
   split
   ·rename_i hw;rw [if_pos hw] at hb;exact Oper.quiet_mono ih hb
   ·rename_i hw;rw [if_neg hw] at hb;exact ih _ hb
 have:=zag (P:=P) (Q:=Q) (n:=n+(f+1)) (f:=f) (C:=fun w'=>∃ p:BW w,w'=p.u) hB.1 hs hz (l.take n) 0 a (by omega) (fun j hj=>by rw [hlt] at hj;simp [hj]) (fun j i _ _=>by
  show (Array.replicate (n+(f+1)) false).getD j false=false;rw [Array.getD_eq_getD_getElem?,Array.getElem?_replicate]
  split <;> rfl) (by rw [hlt];have h9:=hB.2;rw [show l.toArray.size=n+(f+1) by simpa using hl] at h9;exact h9) (hmono _ _ h)
 rw [hlt] at this;rw [show l.toArray.size=n+(f+1) by simpa using hl];exact this
end
section
open Go.RowKit
theorem zdS (s:ByteArray) (hs:s.size≤maxLen) (w:World):Calls Tryz.prog 141 #[.string s] w fun e w'=>e=.returned (.int .i64 (z2s s))∧w'=w:=by
 unfold z2s;have hm:=hs;unfold maxLen at hm
 cases hok:z0k s
 all_goals
  go_enter Tryz.func141,Tryz.ntmps141;go_wp2_with (go_at_call 106;refine (z2A _ _ hs).mono ?_;rintro e w' ⟨rfl,rfl⟩;rw [hok])
  go_ret;exact ⟨rfl,rfl⟩
theorem z0B (v:Value) (l:List Int) (hl:l.length≤1000) (hw:l.all wtB=true) (w:World) (h:zA w v l) :
  Calls Tryz.prog 52 #[v] w fun e w'=>e=.returned (.int .i64 l.sum)∧w'=w:=by
 obtain ⟨a,cap,rfl,_⟩:=h.form;have H:=Hd h;have HW:=Hd (z4g hw);have HG:=Hd (fun i hi=>z2V (i:=i) hw hi);clear h hw;go_enter Tryz.func52,Tryz.ntmps52;go_wp2_with fail
 go_loop [3,4] (fun s i=>∃ k:Nat,k≤l.length∧i=.int .i64 k∧s=.int .i64 (zF l k)) (fun _ i=>l.length - (intOf i).toNat)
 case atStart=>exact ⟨0,Nat.zero_le _,rfl,by simp [zF]⟩
 case round =>
  obtain ⟨k,hk,rfl,rfl⟩:=hrel;by_cases hlt:k < l.length
  ·obtain ⟨b,off,cap',e',hc1,hc2,hbl,hx⟩:=H.out.get hlt;simp only [Value.slice.injEq,true_and] at e';obtain ⟨rfl,rfl⟩:=e';have hb1:=HW.out k hk;have hb2:=HG.out k hlt;have HS:=Hd (z1D hlt);generalize l.getD k 0=x at hx HS hb2;generalize zF l k=s at HS hb1;unfold maxLen at hc2;go_wp2
   go_round
   case rel=>exact ⟨k+1,by omega,by go_num,by rw [HS.out]⟩
   case measure=>simp [intOf];omega
  ·obtain rfl:k=l.length:=by omega
   have HE:=Hd (z1w l);go_wp2;go_ret;exact ⟨by rw [← HE.out];rfl,rfl⟩
def z2H (w:World) (gb:Nat) (bl:List Bool):Prop:=∃ bs,w.heap[gb]?=some (.cells bs 4)∧bs.size=bl.length∧∀ i,i < bl.length→bs[i]?=some (.bool (bl.getD i false))
theorem z2H.get {w:World} {gb:Nat} {bl:List Bool} (h:z2H w gb bl) {i:Nat} (hi:i < bl.length):w.cell? ⟨gb,i,none⟩=some (.bool (bl.getD i false))∧w.frozen? ⟨gb,i,none⟩=false:=by
 obtain ⟨bs,h1,h2,h3⟩:=h;exact ⟨(zf h1).trans (h3 i hi),zM h1⟩
theorem z2H.kept {w w':World} {gb:Nat} {bl:List Bool} (h:z2H w gb bl) (hb:w'.heap[gb]?=w.heap[gb]?):z2H w' gb bl:=by
 obtain ⟨bs,h1,h2⟩:=h;exact ⟨bs,hb.trans h1,h2⟩
theorem z2H.set {w:World} {gb:Nat} {bl:List Bool} (h:z2H w gb bl) (i:Nat) (hi:i < bl.length) (x:Bool):z2H (w.setCell ⟨gb,i,none⟩ (.bool x)) gb (bl.set i x):=by
 obtain ⟨bs,h1,h2,h3⟩:=h;refine ⟨_,z0l h1 _,by simpa using h2,fun j hj=>?_⟩;rw [List.length_set] at hj;by_cases e:i=j
 ·subst e;simp [List.getD,hj,show i < bs.size by omega]
 ·rw [Array.getElem?_setIfInBounds_ne e,h3 j hj];simp [List.getD,e]
theorem zfg (v:Value) (lr:List Int) (gb cap:Nat) (bl:List Bool) (hl:bl.length=lr.length) (w:World) (h:zA w v lr) (hb:z2H w gb bl) :
  Calls Tryz.prog 120 #[v,.slice (some ⟨gb,0,none⟩) lr.length cap] w fun e w'=>∃ k:Int,e=.returned (.int .i64 k)∧z2P lr bl lr.length k∧∃ q,w'=w.drewN q:=by
 obtain ⟨a,ca,rfl,_⟩:=h.form;have H:=Hd h;have HBo:=Hd hb;have HL:=Hd hl;clear h hb hl;go_enter Tryz.func120,Tryz.ntmps120;go_wp2_with fail
 go_loopw [5,6] (fun s5 s6 W=>∃ (m nd:Nat) (k:Int),m≤lr.length∧s6=.int .i64 m∧s5=.int .i64 k∧Hid (z2P lr bl m k)∧W=w.drewN nd) (fun _ s6 _=>lr.length - (intOf s6).toNat)
 case atStart=>exact ⟨0,0,-1,Nat.zero_le _,rfl,rfl,z2P.zero lr bl,rfl⟩
 case round =>
  obtain ⟨m,nd,k,hm,rfl,rfl,HN,rfl⟩:=hrel;by_cases hlt:m < lr.length
  ·obtain ⟨cb,fb⟩:=HBo.out.get (i:=m) (by rw [HL.out];exact hlt);obtain ⟨b,off,cap',e',hc1,hc2,hbl,hx⟩:=H.out.get hlt;simp only [Value.slice.injEq,true_and] at e';obtain ⟨rfl,rfl⟩:=e';unfold maxLen at hc2
   cases hbm:bl.getD m false with
   | true =>
    rw [hbm] at cb;have HN2:=Hd (HN.out.got hbm);clear hbm;go_wp2_with fail
    go_quiet (fail)
    go_wp2;go_roundw
    case rel=>exact ⟨m+1,nd+nq,k,by omega,by go_num,rfl,HN2,rfl⟩
    case measure=>simp [intOf];omega
   | false =>
    rw [hbm] at cb
    rcases HN.out with ⟨hk,h2⟩ | ⟨j,hk,h2,h3,h4⟩
    ·have HN2:=Hd (z2P.first (lr:=lr) h2 hbm);subst hk;clear hbm h2;go_wp2_with fail
     go_quiet (fail)
     go_wp2;go_roundw
     case rel=>exact ⟨m+1,nd+nq,m,by omega,by go_num,rfl,HN2,rfl⟩
     case measure=>simp [intOf];omega
    ·obtain ⟨b2,z4d,cap2,e2,_,_,_,hy⟩:=H.out.get (i:=j) (by omega);simp only [Value.slice.injEq,Option.some.injEq,Addr.mk.injEq,and_true,true_and] at e2;obtain ⟨⟨q1,q2⟩,q3⟩:=e2;subst q1;subst q2;subst hk;have hj0:(0:Int)≤(j:Int):=(by omega);have hj1:(j:Int) < (lr.length:Int):=(by omega);have hj2:¬ (j:Int) < 0:=(by omega);have hj3:decide ((j:Int) < 0)=false:=decide_eq_false hj2;by_cases hgt:lr.getD j 0 < lr.getD m 0
     ·have HN2:=Hd (z2P.more h4 hbm hgt);generalize lr.getD j 0=y at hy hgt;generalize lr.getD m 0=x at hx hgt;clear hbm h4 h3 q3;go_wp2_with fail
      go_quiet (fail)
      go_wp2;go_roundw
      case rel=>exact ⟨m+1,nd+nq,m,by omega,by go_num,rfl,HN2,rfl⟩
      case measure=>simp [intOf];omega
     ·have HN2:=Hd (z2P.less h2 h3 h4 hgt);generalize lr.getD j 0=y at hy hgt;generalize lr.getD m 0=x at hx hgt;clear hbm h4 h3 q3;go_wp2_with fail
      go_quiet (fail)
      go_wp2;go_roundw
      case rel=>exact ⟨m+1,nd+nq,j,by omega,by go_num,rfl,HN2,rfl⟩
      case measure=>simp [intOf];omega
  ·obtain rfl:m=lr.length:=by omega
   go_wp2;go_ret;exact ⟨k,rfl,HN.out,nd,rfl⟩
structure Q4 (w W:World) (v5 v8 v9:Value) (gb:Nat) (u lo lr:List Int) (bl:List Bool):Prop where
 o5:W.ownsRow w.heap.size 3 1 v5 u.length (u.map (Value.int .i64))
 o8:W.ownsRow w.heap.size 3 1 v8 lo.length (lo.map (Value.int .i64))
 o9:W.ownsRow w.heap.size 3 1 v9 lr.length (lr.map (Value.int .i64))
 bo:z2H W gb bl
 hb:w.heap.size≤gb
 n58:v5.ownBlock ≠ v8.ownBlock
 n59:v5.ownBlock ≠ v9.ownBlock
 n89:v8.ownBlock ≠ v9.ownBlock
 nb5:v5.ownBlock ≠ some gb
 nb8:v8.ownBlock ≠ some gb
 nb9:v9.ownBlock ≠ some gb
 below:Below w.heap.size w W
theorem z2H.lt {w:World} {gb:Nat} {bl:List Bool} (h:z2H w gb bl):gb < w.heap.size:=by
 obtain ⟨bs,h1,_⟩:=h;exact (bL h1)
theorem Q4.alloc {w W:World} {v5 v8 v9:Value} {gb:Nat} {u lo lr:List Int} {bl:List Bool} (h:Q4 w W v5 v8 v9 gb u lo lr bl) (o:Obj):Q4 w (W.alloc o) v5 v8 v9 gb u lo lr bl :=
 { h with o5:=h.o5.alloc o,o8:=h.o8.alloc o,o9:=h.o9.alloc o,bo:=h.bo.kept (Below.heap_alloc _ _ _ h.bo.lt),below:=h.below.alloc h.below.size o }
theorem Q4.drewN {w W:World} {v5 v8 v9:Value} {gb:Nat} {u lo lr:List Int} {bl:List Bool} (h:Q4 w W v5 v8 v9 gb u lo lr bl) (n:Nat):Q4 w (W.drewN n) v5 v8 v9 gb u lo lr bl :=
 { h with o5:=h.o5,o8:=h.o8,o9:=h.o9,bo:=h.bo.kept rfl,below:=z3U h.below n }
theorem z4y {w:World} {v:Value} {B n:Nat} {e:TypeId} {xs:List Value} (h:w.ownsRow B e 1 v n xs) (k:Nat) (hk:w.heap.size≤k):v.ownBlock ≠ some k:=fun e=>by have:=(h.lt k e).2;omega
theorem Q4.app8 {w W W':World} {v5 v8 v9 v':Value} {gb:Nat} {u lo lr:List Int} {bl:List Bool} (h:Q4 w W v5 v8 v9 gb u lo lr bl) {x:Int}
  (ho:W'.ownsRow w.heap.size 3 1 v' (lo.length+1) (lo.map (Value.int .i64) ++ [.int .i64 x])) (hg:W.grownBy W' v8.ownBlock) (hat:v'.ownBlock=v8.ownBlock∨v'.ownBlock=some W.heap.size):Q4 w W' v5 v' v9 gb u (lo ++ [x]) lr bl where
 o5:=h.o5.kept hg (.inr h.n58)
 o8:=by rw [List.length_append,List.map_append];exact ho
 o9:=h.o9.kept hg (.inr (Ne.symm h.n89))
 bo:=h.bo.kept (hg.block gb h.bo.lt (Ne.symm h.nb8))
 hb:=h.hb
 n58:=by rcases hat with e | e <;> rw [e];exact h.n58;exact z4y h.o5 _ (Nat.le_refl _)
 n59:=h.n59
 n89:=by rcases hat with e | e <;> rw [e];exact h.n89;exact (z4y h.o9 _ (Nat.le_refl _)).symm
 nb5:=h.nb5
 nb8:=by rcases hat with e | e <;> rw [e];exact h.nb8;exact fun e=>by have:=h.bo.lt;simp at e;omega
 nb9:=h.nb9
 below:=h.below.grown hg h.below.size (fun b hb=>(h.o8.lt b hb).1)
theorem Q4.app9 {w W W':World} {v5 v8 v9 v':Value} {gb:Nat} {u lo lr:List Int} {bl:List Bool} (h:Q4 w W v5 v8 v9 gb u lo lr bl) {x:Int}
  (ho:W'.ownsRow w.heap.size 3 1 v' (lr.length+1) (lr.map (Value.int .i64) ++ [.int .i64 x])) (hg:W.grownBy W' v9.ownBlock) (hat:v'.ownBlock=v9.ownBlock∨v'.ownBlock=some W.heap.size):Q4 w W' v5 v8 v' gb u lo (lr ++ [x]) bl where
 o5:=h.o5.kept hg (.inr h.n59)
 o8:=h.o8.kept hg (.inr h.n89)
 o9:=by rw [List.length_append,List.map_append];exact ho
 bo:=h.bo.kept (hg.block gb h.bo.lt (Ne.symm h.nb9))
 hb:=h.hb
 n58:=h.n58
 n59:=by rcases hat with e | e <;> rw [e];exact h.n59;exact z4y h.o5 _ (Nat.le_refl _)
 n89:=by rcases hat with e | e <;> rw [e];exact h.n89;exact z4y h.o8 _ (Nat.le_refl _)
 nb5:=h.nb5
 nb8:=h.nb8
 nb9:=by rcases hat with e | e <;> rw [e];exact h.nb9;exact fun e=>by have:=h.bo.lt;simp at e;omega
 below:=h.below.grown hg h.below.size (fun b hb=>(h.o9.lt b hb).1)
theorem z5q (W:World) (p:Addr) (v:Value):W.grownBy (W.setCell p v) (some p.block) :=
 ⟨rfl,rfl,rfl,by simp [World.setCell],fun k _ hne=>Below.heap_setCell _ _ _ _ (fun e=>hne (by rw [e]))⟩
theorem Q4.set8 {w W:World} {v5 v9:Value} {g8 n c gb:Nat} {u lo lr:List Int} {bl:List Bool} (h:Q4 w W v5 (.slice (some ⟨g8,0,none⟩) n c) v9 gb u lo lr bl) (i:Nat) (hi:i < lo.length) (x:Int) :
  Q4 w (W.setCell ⟨g8,i,none⟩ (.int .i64 x)) v5 (.slice (some ⟨g8,0,none⟩) n c) v9 gb u (lo.set i x) lr bl where
 o5:=h.o5.kept (z5q W ⟨g8,i,none⟩ (.int .i64 x)) (.inr h.n58)
 o8:=((zq.of_owns h.o8).set hi x).owns
 o9:=h.o9.kept (z5q W ⟨g8,i,none⟩ (.int .i64 x)) (.inr (Ne.symm h.n89))
 bo:=h.bo.kept ((z5q W ⟨g8,i,none⟩ (.int .i64 x)).block gb h.bo.lt (Ne.symm h.nb8))
 hb:=h.hb
 n58:=h.n58
 n59:=h.n59
 n89:=h.n89
 nb5:=h.nb5
 nb8:=h.nb8
 nb9:=h.nb9
 below:=h.below.setCell (h.o8.lt g8 rfl).1 _
theorem Q4.setb {w W:World} {v5 v8 v9:Value} {gb:Nat} {u lo lr:List Int} {bl:List Bool} (h:Q4 w W v5 v8 v9 gb u lo lr bl) (i:Nat) (hi:i < bl.length) (x:Bool) :
  Q4 w (W.setCell ⟨gb,i,none⟩ (.bool x)) v5 v8 v9 gb u lo lr (bl.set i x) where
 o5:=h.o5.kept (z5q W ⟨gb,i,none⟩ (.bool x)) (.inr h.nb5)
 o8:=h.o8.kept (z5q W ⟨gb,i,none⟩ (.bool x)) (.inr h.nb8)
 o9:=h.o9.kept (z5q W ⟨gb,i,none⟩ (.bool x)) (.inr h.nb9)
 bo:=h.bo.set i hi x
 hb:=h.hb
 n58:=h.n58
 n59:=h.n59
 n89:=h.n89
 nb5:=h.nb5
 nb8:=h.nb8
 nb9:=h.nb9
 below:=h.below.setCell h.hb _
def z49 (n:Nat):Array Value:=madeCells (Value.bool false).cells (n * 1)
theorem zjT:(Tryz.prog.info? 4).map (fun i=>(i.zero,i.size,i.bytes))=some (some (Value.bool false),1,1):=by kernel_rfl
theorem zgY (n:Nat) (hn:n≤1048576) (u:World):(Instr.makeSlice 148 (.int .i64 (n:Int)) (.int .i64 (n:Int))).run Tryz.prog u=.ok (.slice (some ⟨u.heap.size,0,none⟩) n n) (u.alloc (.cells (z49 n) 4)):=by
 obtain ⟨i0,hi,hz0,hz1,hz2⟩:=info_parts zjT;have h:=run_make (P:=Tryz.prog) u 148 4 i0 _ Tryz.underlying148 hi hz0 .i64 .i64 (n:Int) (n:Int) (by omega) (Int.le_refl _) (by rw [hz2];omega) (by omega);rw [hz1,Int.toNat_natCast] at h;exact h
theorem zgZ (w:World) (n:Nat):z2H (w.alloc (.cells (z49 n) 4)) w.heap.size (List.replicate n false):=by
 refine ⟨z49 n,zj _ _,by rw [z49,size_madeCells];simp,fun i hi=>?_⟩;rw [List.length_replicate] at hi;unfold z49;rw [Nat.mul_one,← Array.getElem?_toList,show (Value.bool false).cells=#[Value.bool false] from rfl,toList_madeCells_one];simp [List.getD,hi]
theorem Q4.start {w W:World} {g5 n c5:Nat} {u:List Int} (h5:W.ownsRow w.heap.size 3 1 (.slice (some ⟨g5,0,none⟩) n c5) u.length (u.map (Value.int .i64))) (hb:Below w.heap.size w W) (m:Nat) :
  Q4 w (((W.alloc (.cells #[] 3)).alloc (.cells #[] 3)).alloc (.cells (z49 m) 4)) (.slice (some ⟨g5,0,none⟩) n c5) (.slice (some ⟨W.heap.size,0,none⟩) 0 0) (.slice (some ⟨W.heap.size+1,0,none⟩) 0 0) (W.heap.size+2) u [] [] (List.replicate m false) where
 o5:=((h5.alloc _).alloc _).alloc _
 o8:=((World.ownsRow_made (base:=w.heap.size) (e:=3) (size:=1) W #[] 0 hb.size (Nat.zero_le _) rfl).alloc _).alloc _
 o9:=by
  have:=World.ownsRow_made (base:=w.heap.size) (e:=3) (size:=1) (W.alloc (.cells #[] 3)) #[] 0 (by have:=hb.size;simp;omega) (Nat.zero_le _) rfl;have e:(W.alloc (.cells #[] 3)).heap.size=W.heap.size+1:=(by simp);rw [e] at this;exact this.alloc _
 bo:=by
  have:=zgZ ((W.alloc (.cells #[] 3)).alloc (.cells #[] 3)) m;have e:((W.alloc (.cells #[] 3)).alloc (.cells #[] 3)).heap.size=W.heap.size+2:=(by simp);rw [e] at this;exact this
 hb:=by have:=hb.size;omega
 n58:=z4y h5 _ (Nat.le_refl _)
 n59:=z4y h5 (W.heap.size+1) (by omega)
 n89:=fun e=>by simp [Value.ownBlock] at e
 nb5:=z4y h5 (W.heap.size+2) (by omega)
 nb8:=fun e=>by simp [Value.ownBlock] at e
 nb9:=fun e=>by simp [Value.ownBlock] at e
 below:=ze (ze (ze hb _) _) _
end
end Go.Proofs.YtggmjiddadjilahGreat
