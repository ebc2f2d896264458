/-
  PROVED HERE: what the library's symMergeCmpFunc does with a row of claims: two sorted parts, side by side, become one. Also: 4 more texts of the same proof.
-/
import Derived.Test.YtggmjiddadjilamC19
set_option maxRecDepth 1000000
set_option maxHeartbeats 40000000
namespace Go.Proofs.Ytggmjiddadjilam
section
open Go.RowKit Go.Shelf Go.Lib Go.Sort
theorem z8G (k:Nat) (zE:∀ w,(Go.sizeOf 163).run Try.prog w=.ok k w) (enc:Cl→List Value) (g:Nat) (cb:Array Value) (blk off cap a m b:Nat) (d0 d:Array Cl) (w0 w:World)
  (eg:∀ args w,(callFunc g args).run Try.prog w=.ok (.enter g args) w) (hcmp:CmpLays Try.prog g cb enc k cfC blk off d0.size w0) (R:RowK enc k w0 blk off d0) (hs:d0.size=d.size) (S:SWK enc k w0 blk off d w) (M:z1D a m b d) (ham:a < m) (hmb:m < b) (hb:b≤d.size) (hsz:d.size < 4611686018427387904) (h0:m ≠ a+1) (h1:b=m+1) :
  Calls Try.prog 123 #[.slice (some ⟨blk,off,none⟩) d.size cap,.int .i64 a,.int .i64 m,.int .i64 b,.func (.func g) #[] cb] w fun e w'=>e=.returned (.tuple #[])∧∃ d',PermIn a b d d'∧SortedIn tB a b d'∧SWK enc k w0 blk off d' w':=by
 have mixed:Try.prog.follows Departure.mixedOrders=true:=(by kernel_rfl);have HC:Aside _:=hcmp;have S0:Aside (SWK enc k w0 blk off d w):=S;have HM:Hid (z1D a m b d):=M;clear S hcmp M;have t0:(((m:Int) - (a:Int)) == 1)=false:=(by simp;omega);have t1:(((b:Int) - (m:Int)) == 1)=true:=(by simp;omega);have hle:b≤m+1:=(by omega);have H1:=Hd h1;clear h1;go_enter Try.func123,Try.ntmps123;go_wp2_with fail
 go_loopg [14,15] (m - a) (fun kx s14 s15 wr=>∃ lo hi:Nat,s14=.int .i64 lo∧s15=.int .i64 hi∧a≤lo∧lo≤hi∧hi≤m∧hi - lo≤kx∧Aside (SWK enc k w0 blk off d wr) ∧
  Hid ((a < lo→tB d[m]! d[lo - 1]! = false)∧(hi < m→tB d[m]! d[hi]! = true)))
 case atStart=>exact ⟨a,m,rfl,rfl,Nat.le_refl _,by omega,Nat.le_refl _,Nat.le_refl _,S0,fun h=>absurd h (Nat.lt_irrefl _),fun h=>absurd h (Nat.lt_irrefl _)⟩
 case round =>
  clear S0;obtain ⟨lo,hi,rfl,rfl,h2,h3,h4,h5,S1,I⟩:=hrel;by_cases hlt:lo < hi
  ·obtain ⟨mi,hmi⟩:∃ mi,mi=(lo+hi) / 2:=⟨_,rfl⟩;have em:((lo:Int)+(hi:Int)) / 2=(mi:Int):=(by omega);have m1:lo≤mi:=(by omega);have m2:mi < hi:=(by omega);clear hmi;have hcv:ltOf cfC d[m]! d[mi]! = tB d[m]! d[mi]! := z5S (HM.out.c mi m (by omega) (by omega) (Nat.le_refl _) hmb);by_cases hv:cfC d[m]! d[mi]! < 0
   ·have I2:Hid ((a < lo→tB d[m]! d[lo - 1]! = false)∧(mi < m→tB d[m]! d[mi]! = true)):=⟨I.out.1,fun _=>by rw [← hcv];exact decide_eq_true hv⟩;clear hcv;have ea:((m:Int)).toNat=m:=(by omega);have pa:(0:Int)≤(m:Int):=(by omega);have ba:(m:Int) < (d.size:Int):=(by omega);have ra:IntKind.i64.wrap ((m:Int))=(m:Int):=(by rw [IntKind.wrap_i64];omega);have ec:((mi:Int)).toNat=mi:=(by omega);have pc:(0:Int)≤(mi:Int):=(by omega);have bc:(mi:Int) < (d.size:Int):=(by omega);have rc:IntKind.i64.wrap ((mi:Int))=(mi:Int):=(by rw [IntKind.wrap_i64];omega);have la:=S1.out.ld R (by omega) Try.prog (m) (by omega);have lb:=S1.out.ld R (by omega) Try.prog (mi) (by omega);have hc:=S1.out.cmp HC.out (by omega) d[m]! d[mi]!;generalize d[m]! = x at hc la hv;generalize d[mi]! = y at hc lb hv;have hd:decide (cfC x y < 0)=true:=(by simpa using hv);go_wp2_with fail
    go_quiet_grown (first | (go_at_fn g;refine Calls.grown_of (hc _ _)))
    have S2:Aside (SWK enc k w0 blk off d (grow (wr.drewN nq) osq)):=S1.out.grown nq osq;clear la lb hc S1 hd hv;generalize grow (wr.drewN nq) osq=w2 at S2 ⊢;clear nq osq;go_wp2;go_roundg (mi - lo)
    case measure=>omega
    case rel=>exact ⟨lo,mi,rfl,rfl,h2,m1,by omega,Nat.le_refl _,S2,I2⟩
   ·have I2:Hid ((a < mi+1→tB d[m]! d[mi+1 - 1]! = false)∧(hi < m→tB d[m]! d[hi]! = true)):=⟨fun _=>by rw [Nat.add_sub_cancel,← hcv];exact decide_eq_false hv,I.out.2⟩;clear hcv;have ea:((m:Int)).toNat=m:=(by omega);have pa:(0:Int)≤(m:Int):=(by omega);have ba:(m:Int) < (d.size:Int):=(by omega);have ra:IntKind.i64.wrap ((m:Int))=(m:Int):=(by rw [IntKind.wrap_i64];omega);have ec:((mi:Int)).toNat=mi:=(by omega);have pc:(0:Int)≤(mi:Int):=(by omega);have bc:(mi:Int) < (d.size:Int):=(by omega);have rc:IntKind.i64.wrap ((mi:Int))=(mi:Int):=(by rw [IntKind.wrap_i64];omega);have la:=S1.out.ld R (by omega) Try.prog (m) (by omega);have lb:=S1.out.ld R (by omega) Try.prog (mi) (by omega);have hc:=S1.out.cmp HC.out (by omega) d[m]! d[mi]!;generalize d[m]! = x at hc la hv;generalize d[mi]! = y at hc lb hv;have hd:decide (cfC x y < 0)=false:=(by simpa using hv);go_wp2_with fail
    go_quiet_grown (first | (go_at_fn g;refine Calls.grown_of (hc _ _)))
    have S2:Aside (SWK enc k w0 blk off d (grow (wr.drewN nq) osq)):=S1.out.grown nq osq;clear la lb hc S1 hd hv;generalize grow (wr.drewN nq) osq=w2 at S2 ⊢;clear nq osq;go_wp2;go_roundg (hi - (mi+1))
    case measure=>omega
    case rel=>exact ⟨mi+1,hi,by go_num,rfl,by omega,by omega,h4,Nat.le_refl _,S2,I2⟩
  ·obtain rfl:hi=lo:=by omega
   clear hlt h5;go_wp2_with fail
   go_loopg [17] (m - hi) (fun kx s17 wr2=>∃ (q:Nat) (dk:Array Cl),s17=.int .i64 q∧hi≤q∧q≤m∧q - hi≤kx∧dk.size=d.size∧Aside (SWK enc k w0 blk off dk wr2)∧Hid (z02 q m (m+1) d dk))
   case atStart=>exact ⟨m,d,rfl,h4,Nat.le_refl _,Nat.le_refl _,rfl,S1,z02.left_none m (m+1) d⟩
   case round =>
    clear S1;obtain ⟨q,dk,rfl,g1,g2,g3,hds,S1,HE⟩:=hrel;by_cases hlt:hi < q
    ·obtain ⟨jp,rfl⟩:∃ jp,q=jp+1:=⟨q - 1,by omega⟩;have hltz:(hi:Int) < (jp:Int)+1:=(by omega);have HN:=Hd (HE.out.down g2 (by omega));have ea:((jp:Int)+1).toNat=jp+1:=(by omega);have pa:(0:Int)≤(jp:Int)+1:=(by omega);have ba:(jp:Int)+1 < (d.size:Int):=(by omega);have ra:IntKind.i64.wrap ((jp:Int)+1)=(jp:Int)+1:=(by rw [IntKind.wrap_i64];omega);have ec:((jp:Int)).toNat=jp:=(by omega);have pc:(0:Int)≤(jp:Int):=(by omega);have bc:(jp:Int) < (d.size:Int):=(by omega);have rc:IntKind.i64.wrap ((jp:Int))=(jp:Int):=(by rw [IntKind.wrap_i64];omega);have S2:Aside (SWK enc k w0 blk off (swp dk (jp+1) (jp)) ((wr.drew.setCells blk (off+(jp+1) * k) (enc dk[jp]!)).setCells blk (off+(jp) * k) (enc dk[jp+1]!))):=S1.out.swapped R (jp+1) (jp) (by omega) (by omega);have la:=S1.out.ld1 R (by omega) Try.prog (jp+1) (by omega);have lb:=S1.out.ld1 R (by omega) Try.prog (jp) (by omega);have sa:=S1.out.st1 R (by omega) Try.prog (jp+1) (by omega) dk[jp]!;have sb:=S1.out.st2 R (by omega) Try.prog (jp+1) (jp) (by omega) (by omega) dk[jp]! dk[jp+1]!;have na:(enc dk[jp+1]!).length=k:=R.hk _;have nb:(enc dk[jp]!).length=k:=R.hk _;generalize enc dk[jp+1]! = cI at S2 la sb na;generalize enc dk[jp]! = cJ at S2 lb sa sb nb;clear S1;go_wp2_with fail
     go_big_region_o
     clear la lb sa sb;generalize (wr.drew.setCells blk (off+(jp+1) * k) cJ).setCells blk (off+(jp) * k) cI=w2 at S2 ⊢;go_wp2;go_roundg (jp - hi)
     case measure=>omega
     case rel=>exact ⟨jp,swp dk (jp+1) jp,by go_num,by omega,by omega,Nat.le_refl _,by rw [size_swp];exact hds,S2,HN⟩
    ·have hltz:¬ (hi:Int) < (q:Int):=(by omega);obtain rfl:q=hi:=by omega
     have HD:Hid (PermIn a b d dk∧SortedIn tB a b dk):=by
      have h1:=H1.out;subst h1;exact ⟨permIn_mono _ _ q (m+1) a (m+1) h2 (Nat.le_refl _) (by omega) (HE.out.perm (by omega) (by omega) (by omega)),z4N HM.out HE.out h2 h4 I.out.1 I.out.2⟩
     go_wp2
     (try simp only [Exit.inBlock,Exit.then])
     refine bodyPost_ret (results_none rfl _ _ _) rfl ?_;exact ⟨rfl,dk,HD.out.1,HD.out.2,S1.out⟩
theorem z6x (k:Nat) (zE:∀ w,(Go.sizeOf 163).run Try.prog w=.ok k w) (enc:Cl→List Value) (g:Nat) (cb:Array Value) (blk off cap a m b:Nat) (d0 d:Array Cl) (w0 w:World)
  (eg:∀ args w,(callFunc g args).run Try.prog w=.ok (.enter g args) w) (hcmp:CmpLays Try.prog g cb enc k cfC blk off d0.size w0) (R:RowK enc k w0 blk off d0) (hs:d0.size=d.size) (S:SWK enc k w0 blk off d w) (M:z1D a m b d) (ham:a < m) (hmb:m < b) (hb:b≤d.size) (hsz:d.size < 4611686018427387904) (h0:m ≠ a+1) (h1:b ≠ m+1)
  (IH:∀ (a' m' b':Nat) (d':Array Cl) (W:World),b' - a' < b - a→d0.size=d'.size→SWK enc k w0 blk off d' W→z1D a' m' b' d'→a' < m'→m' < b'→b'≤d'.size→d'.size < 4611686018427387904 →
   Calls Try.prog 123 #[.slice (some ⟨blk,off,none⟩) d'.size cap,.int .i64 a',.int .i64 m',.int .i64 b',.func (.func g) #[] cb] W fun e w'=>e=.returned (.tuple #[])∧∃ d'',PermIn a' b' d' d''∧SortedIn tB a' b' d''∧SWK enc k w0 blk off d'' w') (mid:Nat) (hmd1:2 * mid≤a+b) (hmd2:a+b≤2 * mid+1) (lo hi:Nat) (hc:(lo=mid+m - b∧hi=mid∧mid < m)∨(lo=a∧hi=m∧¬ mid < m)) :
  Calls Try.prog 123 #[.slice (some ⟨blk,off,none⟩) d.size cap,.int .i64 a,.int .i64 m,.int .i64 b,.func (.func g) #[] cb] w fun e w'=>e=.returned (.tuple #[])∧∃ d',PermIn a b d d'∧SortedIn tB a b d'∧SWK enc k w0 blk off d' w':=by
 rcases hc with ⟨e1,e2,hmm⟩ | ⟨e1,e2,hmm⟩
 case' inl =>
  have hmz:(mid:Int) < (m:Int):=(by omega);have en:(mid:Int)+(m:Int) - (b:Int)=((mid+m - b:Nat):Int):=by omega
 case' inr =>
  have hmz:¬ (mid:Int) < (m:Int):=by omega
 all_goals
  have l1:=Nat.le_of_eq e1;have l2:=Nat.le_of_eq e1.symm;have l3:=Nat.le_of_eq e2;have l4:=Nat.le_of_eq e2.symm;clear e1 e2;have mixed:Try.prog.follows Departure.mixedOrders=true:=(by kernel_rfl);have HC:Aside _:=hcmp;have S0:Aside (SWK enc k w0 blk off d w):=S;have HM:Hid (z1D a m b d):=M;clear S hcmp M;have HI:=Hd IH;have HRo:=Hd (fun s e dk W h1 h2 h3 h4 h5 h6=>zaG k zE enc g cb blk off cap s m e d0 dk w0 W R h1 h2 h3 h4 h5 h6);clear IH;have t0:(((m:Int) - (a:Int)) == 1)=false:=(by simp;omega);have t1:(((b:Int) - (m:Int)) == 1)=false:=(by simp;omega);have em:((a:Int)+(b:Int)) / 2=(mid:Int):=(by omega);go_enter Try.func123,Try.ntmps123;go_wp2_with fail
  go_loopg [20,21] (b - a) (fun kx s20 s21 wr=>∃ s r:Nat,s20=.int .i64 s∧s21=.int .i64 r∧lo≤s∧s≤r∧r≤hi∧r - s≤kx∧Aside (SWK enc k w0 blk off d wr) ∧
   Hid ((lo < s→tB d[mid+m - 1 - (s - 1)]! d[s - 1]! = false)∧(r < hi→tB d[mid+m - 1 - r]! d[r]! = true)))
  case atStart=>exact ⟨lo,hi,congrArg (Value.int .i64) (by omega),congrArg (Value.int .i64) (by omega),Nat.le_refl _,by omega,Nat.le_refl _,by omega,S0,fun h=>absurd h (Nat.lt_irrefl _),fun h=>absurd h (Nat.lt_irrefl _)⟩
  case round =>
   clear S0;obtain ⟨s,r,rfl,rfl,h2,h3,h4,h5,S1,I⟩:=hrel;by_cases hlt:s < r
   ·obtain ⟨mi,hmi⟩:∃ mi,mi=(s+r) / 2:=⟨_,rfl⟩;have em2:((s:Int)+(r:Int)) / 2=(mi:Int):=(by omega);have m1:s≤mi:=(by omega);have m2:mi < r:=(by omega);clear hmi;obtain ⟨pc,hpc⟩:∃ pc,pc=mid+m - 1 - mi:=⟨_,rfl⟩;have epc:(mid:Int)+(m:Int) - 1 - (mi:Int)=(pc:Int):=(by omega);have pc1:m≤pc:=(by omega);have pc2:pc < b:=(by omega);have hcv:ltOf cfC d[pc]! d[mi]! = tB d[pc]! d[mi]! := z5S (HM.out.c mi pc (by omega) (by omega) pc1 pc2);by_cases hv:cfC d[pc]! d[mi]! < 0
    ·have I2:Hid ((lo < s→tB d[mid+m - 1 - (s - 1)]! d[s - 1]! = false)∧(mi < hi→tB d[mid+m - 1 - mi]! d[mi]! = true)):=⟨I.out.1,fun _=>by rw [← hpc,← hcv];exact decide_eq_true hv⟩;clear hcv hpc;have ea:((pc:Int)).toNat=pc:=(by omega);have pa:(0:Int)≤(pc:Int):=(by omega);have ba:(pc:Int) < (d.size:Int):=(by omega);have ra:IntKind.i64.wrap ((pc:Int))=(pc:Int):=(by rw [IntKind.wrap_i64];omega);have ec:((mi:Int)).toNat=mi:=(by omega);have pcz:(0:Int)≤(mi:Int):=(by omega);have bc:(mi:Int) < (d.size:Int):=(by omega);have rc:IntKind.i64.wrap ((mi:Int))=(mi:Int):=(by rw [IntKind.wrap_i64];omega);have la:=S1.out.ld R (by omega) Try.prog (pc) (by omega);have lb:=S1.out.ld R (by omega) Try.prog (mi) (by omega);have hc:=S1.out.cmp HC.out (by omega) d[pc]! d[mi]!;generalize d[pc]! = x at hc la hv;generalize d[mi]! = y at hc lb hv;have hd:decide (cfC x y < 0)=true:=(by simpa using hv);go_wp2_with fail
     go_quiet_grown (first | (go_at_fn g;refine Calls.grown_of (hc _ _)))
     have S2:Aside (SWK enc k w0 blk off d (grow (wr.drewN nq) osq)):=S1.out.grown nq osq;clear la lb hc S1 hd hv;generalize grow (wr.drewN nq) osq=w2 at S2 ⊢;clear nq osq;go_wp2;go_roundg (mi - s)
     case measure=>omega
     case rel=>exact ⟨s,mi,rfl,rfl,h2,m1,by omega,Nat.le_refl _,S2,I2⟩
    ·have I2:Hid ((lo < mi+1→tB d[mid+m - 1 - (mi+1 - 1)]! d[mi+1 - 1]! = false)∧(r < hi→tB d[mid+m - 1 - r]! d[r]! = true)):=⟨fun _=>by rw [Nat.add_sub_cancel,← hpc,← hcv];exact decide_eq_false hv,I.out.2⟩;clear hcv hpc;have ea:((pc:Int)).toNat=pc:=(by omega);have pa:(0:Int)≤(pc:Int):=(by omega);have ba:(pc:Int) < (d.size:Int):=(by omega);have ra:IntKind.i64.wrap ((pc:Int))=(pc:Int):=(by rw [IntKind.wrap_i64];omega);have ec:((mi:Int)).toNat=mi:=(by omega);have pcz:(0:Int)≤(mi:Int):=(by omega);have bc:(mi:Int) < (d.size:Int):=(by omega);have rc:IntKind.i64.wrap ((mi:Int))=(mi:Int):=(by rw [IntKind.wrap_i64];omega);have la:=S1.out.ld R (by omega) Try.prog (pc) (by omega);have lb:=S1.out.ld R (by omega) Try.prog (mi) (by omega);have hc:=S1.out.cmp HC.out (by omega) d[pc]! d[mi]!;generalize d[pc]! = x at hc la hv;generalize d[mi]! = y at hc lb hv;have hd:decide (cfC x y < 0)=false:=(by simpa using hv);go_wp2_with fail
     go_quiet_grown (first | (go_at_fn g;refine Calls.grown_of (hc _ _)))
     have S2:Aside (SWK enc k w0 blk off d (grow (wr.drewN nq) osq)):=S1.out.grown nq osq;clear la lb hc S1 hd hv;generalize grow (wr.drewN nq) osq=w2 at S2 ⊢;clear nq osq;go_wp2;go_roundg (r - (mi+1))
     case measure=>omega
     case rel=>exact ⟨mi+1,r,by go_num,rfl,by omega,by omega,h4,Nat.le_refl _,S2,I2⟩
   ·obtain rfl:r=s:=by omega
    clear hlt h5;obtain ⟨e,he⟩:∃ e,e=mid+m - r:=⟨_,rfl⟩;have ee:(mid:Int)+(m:Int) - (r:Int)=(e:Int):=(by omega);have he1:e+r≤mid+m:=(by omega);have he2:mid+m≤e+r:=(by omega);clear he
    have hLo:a < r→e < b→tB d[e]! d[r - 1]! = false:=fun q1 q2=>by
     have:=I.out.1 (by omega)
     rwa [show mid+m - 1 - (r - 1)=e by omega] at this
    have hHi:r < m→m < e→tB d[e - 1]! d[r]! = true:=fun q1 q2=>by
     have:=I.out.2 (by omega)
     rwa [show mid+m - 1 - r=e - 1 by omega] at this
    have HAR:=Hd (fun d1 (hr:z02 r m e d d1)=>z8F (mid:=mid) HM.out hr (by omega) (by omega) (by omega) (by omega) (by omega) hLo hHi);clear hLo hHi I;by_cases hq0:r < m∧m < e
    case' pos =>
     have x1:(r:Int) < (m:Int):=(by omega);have x2:(m:Int) < (e:Int):=(by omega);have HW:=HRo.out r e d wr hs S1.out hq0.1 hq0.2 (by omega) hsz;go_wp2_with fail
     refine HW.mono ?_;rintro e7 w7 ⟨rfl,d7,r7,S7'⟩;have S7:=Hd S7';have z7:d7.size=d.size:=r7.size;have HP:=Hd (permIn_mono _ _ r e a b (by omega) (by omega) (by omega) (r7.perm (by omega) (by omega) (by omega)));have HRD:=Hd r7;clear HW S7' r7 S1
    case' neg =>
     obtain ⟨d7,e7⟩:∃ x,x=d:=⟨_,rfl⟩
     have HRD:Hid (z02 r m e d d7):=by
      rw [e7];show z02 r m e d d;by_cases q:r < m
      ·obtain rfl:e=m:=by omega
       exact z02.right_none _ _ _
      ·obtain rfl:r=m:=by omega
       exact z02.left_none _ _ _
     have HP:Hid (PermIn a b d d7):=by
      rw [e7];exact permIn_refl d a b
     have z7:d7.size=d.size:=(by rw [e7]);have S7:=Hd S1.out;rw [← e7] at S7;obtain ⟨w7,ew⟩:∃ x,x=wr:=⟨_,rfl⟩;rw [← ew] at S7 ⊢;clear S1 e7 ew;by_cases x1:(r:Int) < (m:Int)
     case' pos=>have x2:¬ (m:Int) < (e:Int):=by omega
    all_goals
     obtain ⟨M1',M2',HA'⟩:=HAR.out d7 HRD.out;have M1:=Hd M1';have M2:=Hd M2';have HA:=Hd HA';clear M1' M2' HA' HAR;by_cases hq1:a < r∧r < mid
     case' pos =>
      have v1:(a:Int) < (r:Int):=(by omega);have v2:(r:Int) < (mid:Int):=(by omega);have HW:=HI.out a r mid d7 w7 (by omega) (by omega) S7.out M1.out hq1.1 hq1.2 (by omega) (by omega);rw [z7] at HW;go_wp2_with fail
      refine HW.mono ?_;rintro e8 w8 ⟨rfl,d8,p8,s8,S8'⟩;have S8:=Hd S8';have z8:d8.size=d.size:=p8.1.trans z7;clear HW S8'
     case' neg =>
      obtain ⟨d8,e8⟩:∃ x,x=d7:=⟨_,rfl⟩
      have p8:PermIn a mid d7 d8:=by
       rw [e8];exact permIn_refl d7 a mid
      have s8:SortedIn tB a mid d8:=by
       rw [e8];by_cases q:a < r
       ·obtain rfl:r=mid:=by omega
        exact M1.out.l
       ·obtain rfl:r=a:=by omega
        exact M1.out.r
      have z8:d8.size=d.size:=p8.1.trans z7;have S8:=S7;rw [← e8] at S8;obtain ⟨w8,ew⟩:∃ x,x=w7:=⟨_,rfl⟩;rw [← ew] at S8 ⊢;clear e8 ew;by_cases v1:(a:Int) < (r:Int)
      case' pos=>have v2:¬ (r:Int) < (mid:Int):=by omega
     all_goals
      by_cases hq2:mid < e∧e < b
      ·have u1:(mid:Int) < (e:Int):=(by omega);have u2:(e:Int) < (b:Int):=(by omega);have HW:=HI.out mid e b d8 w8 (by omega) (by omega) S8.out (M2.out.kept (by omega) p8) (by omega) (by omega) (by omega) (by omega);rw [z8] at HW;go_wp2_with fail
       all_goals
        refine HW.mono ?_;rintro e9 w9 ⟨rfl,d9,p9,s9,S9'⟩;have S9:=Hd S9';clear HW S9'
        have HD:Hid (PermIn a b d d9∧SortedIn tB a b d9):=by
         have:=z5z (by omega) (by omega) (by omega) HA.out p8 s8 p9 s9;exact ⟨permIn_trans _ _ _ a b HP.out this.1,this.2⟩
        go_wp2
        all_goals
         go_end0
         exact ⟨rfl,d9,HD.out.1,HD.out.2,S9.out⟩
      ·have u0:¬ ((mid:Int) < (e:Int)∧(e:Int) < (b:Int)):=(by omega)
       have s9:SortedIn tB mid b d8:=by
        have hk:=M2.out.kept (by omega) p8;by_cases q:mid < e
        ·obtain rfl:e=b:=by omega
         exact hk.l
        ·obtain rfl:e=mid:=by omega
         exact hk.r
       have HD:Hid (PermIn a b d d8∧SortedIn tB a b d8):=by
        have:=z5z (by omega) (by omega) (by omega) HA.out p8 s8 (permIn_refl d8 mid b) s9;exact ⟨permIn_trans _ _ _ a b HP.out this.1,this.2⟩
       by_cases u1:(mid:Int) < (e:Int)
       case' pos=>have u2:¬ (e:Int) < (b:Int):=by omega
       all_goals
        go_wp2
        all_goals
         go_end0
         exact ⟨rfl,d8,HD.out.1,HD.out.2,S8.out⟩
end
section
open Go.Sort
def Seg (n:Nat) (T:Nat→Nat→Prop) (d:Array Cl):Prop:=∀ x y,x < y→y < n→(T x y→tB d[y]! d[x]! = false)∧(¬ T x y→d[x]!.p < d[y]!.p)
theorem Seg.iff {n:Nat} {T U:Nat→Nat→Prop} {d:Array Cl} (h:Seg n T d) (hh:∀ x y,x < y→y < n→(T x y ↔ U x y)):Seg n U d:=fun x y g1 g2 =>
 ⟨fun q=>(h x y g1 g2).1 ((hh x y g1 g2).2 q),fun q=>(h x y g1 g2).2 (fun r=>q ((hh x y g1 g2).1 r))⟩
theorem Seg.join {n a b:Nat} {T:Nat→Nat→Prop} {d d':Array Cl} (h:Seg n T d) (hn:n≤d.size) (hb:b≤n) (hp:PermIn a b d d') (hs:SortedIn tB a b d')
  (h1:∀ x y,x < a→a≤y→y < b→¬ T x y) (h2:∀ x y,a≤x→x < b→b≤y→y < n→¬ T x y):Seg n (fun x y=>T x y∨(a≤x∧y < b)) d':=by
 intro x y g1 g2;have out:∀ t,t < a∨b≤t→d'[t]! = d[t]! := hp.2.1;by_cases c1:a≤x
 ·by_cases c2:y < b
  ·exact ⟨fun _=>hs x y c1 g1 c2,fun q=>absurd (Or.inr ⟨c1,c2⟩) q⟩
  ·by_cases c3:x < b
   ·refine ⟨fun q=>?_,fun _=>?_⟩
    ·rcases q with q | q
     ·exact absurd q (h2 x y c1 c3 (by omega) g2)
     ·exact absurd q.2 c2
    ·rw [out y (by omega)];exact permIn_all d d' a b (fun z=>z.p < d[y]!.p) (by omega) hp (fun r r1 r2=>(h r y (by omega) g2).2 (h2 r y r1 r2 (by omega) g2)) x c1 c3
   ·rw [out x (by omega),out y (by omega)];exact ⟨fun q=>(h x y g1 g2).1 (by rcases q with q | q;exact q;omega),fun q=>(h x y g1 g2).2 (fun r=>q (Or.inl r))⟩
 ·by_cases c2:a≤y∧y < b
  ·refine ⟨fun q=>?_,fun _=>?_⟩
   ·rcases q with q | q
    ·exact absurd q (h1 x y (by omega) c2.1 c2.2)
    ·omega
   ·rw [out x (by omega)];exact permIn_all d d' a b (fun z=>d[x]!.p < z.p) (by omega) hp (fun r r1 r2=>(h x r (by omega) (by omega)).2 (h1 x r (by omega) r1 r2)) y c2.1 c2.2
  ·rw [out x (by omega),out y (by omega)];exact ⟨fun q=>(h x y g1 g2).1 (by rcases q with q | q;exact q;omega),fun q=>(h x y g1 g2).2 (fun r=>q (Or.inl r))⟩
def T1 (a:Nat) (x y:Nat):Prop:=y < a∧x / 20=y / 20
def T2 (s a:Nat) (x y:Nat):Prop:=(y < a∧x / (2 * s)=y / (2 * s))∨(a≤x∧x / s=y / s)
theorem z8H {n:Nat} {d:Array Cl} (h:Asc 0 n d):Seg n (T1 0) d:=fun x y g1 g2=>⟨fun q=>absurd q.1 (Nat.not_lt_zero _),fun _=>h x y (Nat.zero_le _) g1 g2⟩
theorem z4O {n a b:Nat} {d:Array Cl} (h:Seg n (T1 a) d) (hb:b≤n):Asc a b d:=fun x y g1 g2 g3=>(h x y g2 (by omega)).2 (fun q=>by have:=q.1;omega)
theorem za3 {n a:Nat} {d d':Array Cl} (h:Seg n (T1 a) d) (hn:n≤d.size) (ha:a % 20=0) (hb:a+20≤n) (hp:PermIn a (a+20) d d') (hs:SortedIn tB a (a+20) d'):Seg n (T1 (a+20)) d' :=
 (h.join hn hb hp hs (fun x y _ g2 _ q=>by have:=q.1;omega) (fun x y g1 g2 g3 _ q=>by have:=q.1;omega)).iff (fun x y g1 g2=>by unfold T1;omega)
theorem z6V {n a:Nat} {d d':Array Cl} (h:Seg n (T1 a) d) (hn:n≤d.size) (ha:a % 20=0) (han:a≤n) (hb:n < a+20) (hp:PermIn a n d d') (hs:SortedIn tB a n d'):Seg n (T2 20 0) d' :=
 (h.join hn (Nat.le_refl _) hp hs (fun x y _ g2 _ q=>by have:=q.1;omega) (fun x y g1 g2 g3 _ q=>by have:=q.1;omega)).iff (fun x y g1 g2=>by unfold T1 T2;omega)
theorem z4P {n s a m b:Nat} {d:Array Cl} (hs:s=20∨s=40∨s=80) (h:Seg n (T2 s a) d) (ha:a % (2 * s)=0) (hm:m=a+s) (hmb:m≤b) (hb:b≤n) (hb2:b≤a+2 * s):z1D a m b d:=by
 subst hm
 rcases hs with rfl | rfl | rfl
 all_goals
  refine ⟨fun x y g1 g2 g3=>?_,fun x y g1 g2 g3=>?_,fun x y g1 g2 g3 g4=>?_⟩
  ·exact (h x y g2 (by omega)).1 (by unfold T2;omega)
  ·exact (h x y g2 (by omega)).1 (by unfold T2;omega)
  ·exact (h x y (by omega) (by omega)).2 (by unfold T2;omega)
theorem z8I {n s a b:Nat} {d d':Array Cl} (hs:s=20∨s=40∨s=80) (h:Seg n (T2 s a) d) (hn:n≤d.size) (ha:a % (2 * s)=0) (hb:b=a+2 * s) (hbn:b≤n) (hp:PermIn a b d d') (hq:SortedIn tB a b d'):Seg n (T2 s b) d':=by
 subst hb
 rcases hs with rfl | rfl | rfl
 all_goals exact (h.join hn hbn hp hq (fun x y g1 g2 g3 q=>by unfold T2 at q;omega) (fun x y g1 g2 g3 g4 q=>by unfold T2 at q;omega)).iff (fun x y g1 g2=>by unfold T2;omega)
theorem z5O {n s a:Nat} {d d':Array Cl} (hs:s=20∨s=40∨s=80) (h:Seg n (T2 s a) d) (hn:n≤d.size) (ha:a % (2 * s)=0) (h1:a≤n) (hbn:n < a+2 * s) (hp:PermIn a n d d') (hq:SortedIn tB a n d'):Seg n (T2 (2 * s) 0) d':=by
 rcases hs with rfl | rfl | rfl
 all_goals exact (h.join hn (Nat.le_refl _) hp hq (fun x y g1 g2 g3 q=>by unfold T2 at q;omega) (fun x y g1 g2 g3 g4 q=>by unfold T2 at q;omega)).iff (fun x y g1 g2=>by unfold T2;omega)
theorem z9p {n s a:Nat} {d:Array Cl} (hs:s=20∨s=40∨s=80) (h:Seg n (T2 s a) d) (ha:a % (2 * s)=0) (h1:a≤n) (h2:n≤a+s):Seg n (T2 (2 * s) 0) d:=by
 rcases hs with rfl | rfl | rfl
 all_goals exact h.iff (fun x y g1 g2=>by unfold T2;omega)
theorem z7L {n s:Nat} {d:Array Cl} (hs:s=20∨s=40∨s=80∨s=160) (h:Seg n (T2 s 0) d) (hn:n≤s):SortedIn tB 0 n d:=by
 intro x y g1 g2 g3;refine (h x y g2 g3).1 ?_
 rcases hs with rfl | rfl | rfl | rfl
 all_goals (unfold T2;omega)
end
section
open Go.RowKit Go.Shelf Go.Lib Go.Sort
theorem z5c (blk off cap:Nat) (d0:Array Cl) (w0:World) (R:RowK z0u 3 w0 blk off d0):∀ (n a m b:Nat) (d:Array Cl) (w:World),b - a≤n→d0.size=d.size→SWK z0u 3 w0 blk off d w→z1D a m b d→a < m→m < b→b≤d.size→d.size < 4611686018427387904 →
  Calls Try.prog 123 #[.slice (some ⟨blk,off,none⟩) d.size cap,.int .i64 a,.int .i64 m,.int .i64 b,.func (.func 117) #[] #[]] w fun e w'=>e=.returned (.tuple #[])∧∃ d',PermIn a b d d'∧SortedIn tB a b d'∧SWK z0u 3 w0 blk off d' w'
 | 0,a,m,b,d,w,hn,_,_,_,h1,h2,_,_=>by omega
 | n+1,a,m,b,d,w,hn,hs,S,M,h1,h2,hb,hsz=>by
  by_cases c1:m=a+1
  ·exact z9o 3 Try.sizeOf163 z0u 117 #[] blk off cap a m b d0 d w0 w egC (z6w _ _ _ _) R hs S M h1 h2 hb hsz c1
  ·by_cases c2:b=m+1
   ·exact z8G 3 Try.sizeOf163 z0u 117 #[] blk off cap a m b d0 d w0 w egC (z6w _ _ _ _) R hs S M h1 h2 hb hsz c1 c2
   ·by_cases c3:(a+b) / 2 < m
    ·exact z6x 3 Try.sizeOf163 z0u 117 #[] blk off cap a m b d0 d w0 w egC (z6w _ _ _ _) R hs S M h1 h2 hb hsz c1 c2
      (fun a' m' b' d' W q1 q2 q3 q4 q5 q6 q7 q8=>z5c blk off cap d0 w0 R n a' m' b' d' W (by omega) q2 q3 q4 q5 q6 q7 q8) ((a+b) / 2) (by omega) (by omega) ((a+b) / 2+m - b) ((a+b) / 2) (.inl ⟨rfl,rfl,c3⟩)
    ·exact z6x 3 Try.sizeOf163 z0u 117 #[] blk off cap a m b d0 d w0 w egC (z6w _ _ _ _) R hs S M h1 h2 hb hsz c1 c2
      (fun a' m' b' d' W q1 q2 q3 q4 q5 q6 q7 q8=>z5c blk off cap d0 w0 R n a' m' b' d' W (by omega) q2 q3 q4 q5 q6 q7 q8) ((a+b) / 2) (by omega) (by omega) a m (.inr ⟨rfl,rfl,c3⟩)
theorem z7M (blk off cap:Nat) (d0:Array Cl) (w0:World) (R:RowK z0u 3 w0 blk off d0) (hA:Asc 0 d0.size d0) (h100:d0.size≤100) :
  Calls Try.prog 119 #[.slice (some ⟨blk,off,none⟩) d0.size cap,.int .i64 d0.size,.func (.func 117) #[] #[]] w0 fun e w'=>e=.returned (.tuple #[])∧∃ d',PermIn 0 d0.size d0 d'∧SortedIn tB 0 d0.size d'∧SWK z0u 3 w0 blk off d' w':=by
 have HI:=Hd (fun a b d w h1 h2 h3 h4 h5=>za1 blk off cap a b d0 d w0 w R h1 h2 h3 h4 h5);have HY:=Hd (fun a m b d w=>z5c blk off cap d0 w0 R (b - a) a m b d w (Nat.le_refl _));have S0:=Hd (SWK.start R.hH);have G0:=Hd (z8H hA);obtain ⟨n,hn⟩:∃ n,n=d0.size:=⟨_,rfl⟩;rw [← hn] at G0 h100;have HN:=Hd hn;rw [← hn];clear hA hn;go_enter Try.func119,Try.ntmps119;go_wp2_with fail
 go_loopw [7,8] (fun s7 s8 W=>∃ (a:Nat) (d:Array Cl),s7=.int .i64 a∧s8=.int .i64 ((a:Int)+20)∧a % 20=0∧a≤n∧Hid (SWK z0u 3 w0 blk off d W)∧Hid (Seg n (T1 a) d∧PermIn 0 n d0 d)) (fun s7 _ _=>n - (intOf s7).toNat)
 case atStart=>exact ⟨0,d0,rfl,rfl,rfl,Nat.zero_le _,S0,G0.out,permIn_refl _ _ _⟩
 case round =>
  clear S0 G0;obtain ⟨a,d,rfl,rfl,ha,han,HS,HG⟩:=hrel;have hz:d.size=n:=HG.out.2.1.trans HN.out.symm;have HZ:=Hd hz;clear hz;by_cases hlt:a+20≤n
  ·have hltz:(a:Int)+20≤(n:Int):=(by omega);have HW:=HI.out a (a+20) d wr (by rw [← HN.out];exact HZ.out.symm) HS.out (by omega) (by rw [HZ.out];exact hlt) (by rw [HZ.out];omega);have e1:((a+20:Nat):Int)=(a:Int)+20:=(by omega);rw [HZ.out,e1] at HW;go_wp2_with fail
   refine HW.mono ?_;rintro e w2 ⟨rfl,S2⟩;obtain ⟨p2,s2⟩:=z5j d a (a+20) (by omega) (by rw [HZ.out];exact hlt) (z4O HG.out.1 hlt)
   have G2:Hid (Seg n (T1 (a+20)) (Sort.insertionSort (ltOf cfC) d a (a+20))∧PermIn 0 n d0 (Sort.insertionSort (ltOf cfC) d a (a+20))) :=
    ⟨za3 HG.out.1 (by rw [HZ.out];exact Nat.le_refl _) ha hlt p2 s2,permIn_trans _ _ _ 0 n HG.out.2 (permIn_mono _ _ a (a+20) 0 n (Nat.zero_le _) hlt (by rw [HZ.out];exact Nat.le_refl _) p2)⟩
   have HS2:=Hd S2;clear p2 s2 S2 HW;generalize Sort.insertionSort (ltOf cfC) d a (a+20)=d2 at G2 HS2;go_wp2;go_roundw
   case rel=>exact ⟨a+20,d2,by go_num,by go_num,by omega,hlt,HS2,G2⟩
   case measure=>simp [intOf];omega
  ·have hltz:¬ (a:Int)+20≤(n:Int):=(by omega);have HW:=HI.out a n d wr (by rw [← HN.out];exact HZ.out.symm) HS.out han (by rw [HZ.out];exact Nat.le_refl _) (by rw [HZ.out];omega);rw [HZ.out] at HW;go_wp2_with fail
   refine HW.mono ?_;rintro e w2 ⟨rfl,S2⟩;obtain ⟨p2,s2⟩:=z5j d a n han (by rw [HZ.out];exact Nat.le_refl _) (z4O HG.out.1 (Nat.le_refl _))
   have G2:Hid (Seg n (T2 20 0) (Sort.insertionSort (ltOf cfC) d a n)∧PermIn 0 n d0 (Sort.insertionSort (ltOf cfC) d a n)) :=
    ⟨z6V HG.out.1 (by rw [HZ.out];exact Nat.le_refl _) ha han (by omega) p2 s2,permIn_trans _ _ _ 0 n HG.out.2 (permIn_mono _ _ a n 0 n (Nat.zero_le _) (Nat.le_refl _) (by rw [HZ.out];exact Nat.le_refl _) p2)⟩
   have HS2:=Hd S2;clear p2 s2 S2 HW HS HG HZ;generalize Sort.insertionSort (ltOf cfC) d a n=d2 at G2 HS2;go_wp2_with fail
   go_loopw [6] (fun s6 W=>∃ (s:Nat) (d:Array Cl),s6=.int .i64 s∧20≤s∧s≤160∧Hid (s=20∨s=40∨s=80∨s=160)∧Hid (SWK z0u 3 w0 blk off d W)∧Hid (Seg n (T2 s 0) d∧PermIn 0 n d0 d)) (fun s6 _=>200 - (intOf s6).toNat)
   case atStart=>exact ⟨20,d2,rfl,by omega,by omega,Or.inl rfl,HS2,G2⟩
   case round =>
    clear HS2 G2;obtain ⟨s,d,rfl,hs1,hs2,HO,HS,HG⟩:=hrel;by_cases hsn:s < n
    ·have hsz:(s:Int) < (n:Int):=(by omega);have HO3:Hid (s=20∨s=40∨s=80):=(by have h1:=HO.out;show _∨_;omega);have hs3:s≤80:=(by have h1:=HO3.out;omega);have HM:Hid (∀ a:Nat,a % (2 * s)=0→(a+2 * s) % (2 * s)=0):=fun a h=>by rw [Nat.add_mod_right];exact h
     go_wp2_with fail
     go_loopw [7,8] (fun s7 s8 W=>∃ (a:Nat) (d:Array Cl),s7=.int .i64 a∧s8=.int .i64 ((a:Int)+2 * (s:Int))∧a≤n∧Hid (a % (2 * s)=0)∧Hid (SWK z0u 3 w0 blk off d W)∧Hid (Seg n (T2 s a) d∧PermIn 0 n d0 d)) (fun s7 _ _=>n - (intOf s7).toNat)
     case atStart=>exact ⟨0,d,rfl,by go_num,Nat.zero_le _,Nat.zero_mod _,HS,HG⟩
     case round =>
      clear HS HG;obtain ⟨a,d,rfl,rfl,han,HA,HS,HG⟩:=hrel;have HZ:Hid (d.size=n):=HG.out.2.1.trans HN.out.symm;by_cases hlt:a+2 * s≤n
      ·have hltz:(a:Int)+2 * (s:Int)≤(n:Int):=(by omega);have HW:=HY.out a (a+s) (a+2 * s) d wr (by rw [← HN.out];exact HZ.out.symm) HS.out (z4P HO3.out HG.out.1 HA.out rfl (by omega) hlt (Nat.le_refl _)) (by omega) (by omega) (by rw [HZ.out];exact hlt) (by rw [HZ.out];omega);have e1:((a+2 * s:Nat):Int)=(a:Int)+2 * (s:Int):=(by omega);have e2:((a+s:Nat):Int)=(a:Int)+(s:Int):=(by omega);rw [HZ.out,e1,e2] at HW;go_wp2_with fail
       refine HW.mono ?_;rintro e w3 ⟨rfl,d3,p3,s3,S3'⟩;have G3:Hid (Seg n (T2 s (a+2 * s)) d3∧PermIn 0 n d0 d3):=⟨z8I HO3.out HG.out.1 (by rw [HZ.out];exact Nat.le_refl _) HA.out rfl hlt p3 s3,permIn_trans _ _ _ 0 n HG.out.2 (permIn_mono _ _ a (a+2 * s) 0 n (Nat.zero_le _) hlt (by rw [HZ.out];exact Nat.le_refl _) p3)⟩;have S3:=Hd S3';have HA3:=Hd (HM.out a HA.out);clear p3 s3 S3' HW;go_wp2;go_roundw
       case rel=>exact ⟨a+2 * s,d3,by rw [e1],by rw [e1],hlt,HA3,S3,G3⟩
       case measure=>simp [intOf];omega
      ·have hltz:¬ (a:Int)+2 * (s:Int)≤(n:Int):=(by omega);by_cases hmn:a+s < n
       ·have hmz:(a:Int)+(s:Int) < (n:Int):=(by omega);have HW:=HY.out a (a+s) n d wr (by rw [← HN.out];exact HZ.out.symm) HS.out (z4P HO3.out HG.out.1 HA.out rfl (by omega) (Nat.le_refl _) (by omega)) (by omega) (by omega) (by rw [HZ.out];exact Nat.le_refl _) (by rw [HZ.out];omega);have e2:((a+s:Nat):Int)=(a:Int)+(s:Int):=(by omega);rw [HZ.out,e2] at HW;go_wp2_with fail
        refine HW.mono ?_;rintro e w3 ⟨rfl,d3,p3,s3,S3'⟩;have G3:Hid (Seg n (T2 (2 * s) 0) d3∧PermIn 0 n d0 d3):=⟨z5O HO3.out HG.out.1 (by rw [HZ.out];exact Nat.le_refl _) HA.out han (by omega) p3 s3,permIn_trans _ _ _ 0 n HG.out.2 (permIn_mono _ _ a n 0 n (Nat.zero_le _) (Nat.le_refl _) (by rw [HZ.out];exact Nat.le_refl _) p3)⟩;have S3:=Hd S3';have HO4:Hid (2 * s=20∨2 * s=40∨2 * s=80∨2 * s=160):=(by have h1:=HO3.out;show _∨_;omega);clear p3 s3 S3' HW;go_wp2;go_roundw
        case rel=>exact ⟨2 * s,d3,by go_num,by omega,by omega,HO4,S3,G3⟩
        case measure=>simp [intOf];omega
       ·have hmz:¬ (a:Int)+(s:Int) < (n:Int):=(by omega);have G3:Hid (Seg n (T2 (2 * s) 0) d∧PermIn 0 n d0 d):=⟨z9p HO3.out HG.out.1 HA.out han (by omega),HG.out.2⟩;have HO4:Hid (2 * s=20∨2 * s=40∨2 * s=80∨2 * s=160):=(by have h1:=HO3.out;show _∨_;omega);go_wp2;go_roundw
        case rel=>exact ⟨2 * s,d,by go_num,by omega,by omega,HO4,HS,G3⟩
        case measure=>simp [intOf];omega
    ·have hsz:¬ (s:Int) < (n:Int):=(by omega);have HE:Hid (PermIn 0 n d0 d∧SortedIn tB 0 n d):=⟨HG.out.2,z7L HO.out HG.out.1 (by omega)⟩;go_wp2
     go_end0
     exact ⟨rfl,d,HE.out.1,HE.out.2,HS.out⟩
theorem z5d (blk off cap:Nat) (d0:Array Cl) (w0:World) (R:RowK z0u 3 w0 blk off d0) (hA:Asc 0 d0.size d0) (h100:d0.size≤100) :
  Calls Try.prog 116 #[.slice (some ⟨blk,off,none⟩) d0.size cap,.func (.func 117) #[] #[]] w0 fun e w'=>e=.returned (.tuple #[])∧∃ d',PermIn 0 d0.size d0 d'∧SortedIn tB 0 d0.size d'∧SWK z0u 3 w0 blk off d' w':=by
 have HW:=Hd (z7M blk off cap d0 w0 R hA h100);clear hA R;go_enter Try.func116,Try.ntmps116;go_wp2_with fail
 refine HW.out.mono ?_;rintro e w1 ⟨rfl,h⟩;have H:=Hd h;clear h;go_wp2
 go_end0
 exact ⟨rfl,H.out⟩
theorem z5A {w0 W:World} {g:Nat} {d:Array Cl} (h:SWK z0u 3 w0 g 0 d W) {j:Nat} (hj:j < w0.heap.size) (hne:j ≠ g):W.heap[j]?=w0.heap[j]?:=by
 obtain ⟨n,os,rfl⟩:=h;unfold sortWorldK;rw [heap_grow_old _ _ (by rw [size_putRowK];exact hj)];unfold putRowK putRow mapBlock;show (Array.modify _ _ _)[j]?=_;rw [Array.getElem?_modify];simp [Ne.symm hne]
theorem z8J {w0 W:World} {g B:Nat} {d:Array Cl} (h:SWK z0u 3 w0 g 0 d W) (hB:B≤g) (hg:g < w0.heap.size):Below B w0 W:=by
 have hs:=h.le;have ho:=fun j (hj:j < B)=>z5A h (j:=j) (by omega) (by omega);obtain ⟨n,os,rfl⟩:=h;exact ⟨rfl,rfl,rfl,hs,ho⟩
theorem z6y {w:World} {g:Nat} {d:Array Cl} (h:HoldsK z0u 3 w g 0 d) {i:Nat} (hi:i < d.size) :
  w.cell? ⟨g,i * 3,none⟩=some (.int .i64 d[i]!.p)∧w.cell? ⟨g,i * 3+1,none⟩=some (.int .i64 d[i]!.w)∧w.cell? ⟨g,i * 3+2,none⟩=some (.int .i64 d[i]!.o):=by
 have h0:=h.cell (i:=i) (c:=0) hi (by omega);have h1:=h.cell (i:=i) (c:=1) hi (by omega);have h2:=h.cell (i:=i) (c:=2) hi (by omega);simp only [Nat.zero_add,Nat.add_zero] at h0 h1 h2;exact ⟨h0.1,h1.1,h2.1⟩
theorem z2W {w w':World} {g:Nat} {d:Array Cl} (h:RowK z0u 3 w g 0 d) (hb:w'.heap[g]?=w.heap[g]?):RowK z0u 3 w' g 0 d:=by
 have hlt:g < w'.heap.size:=by
  have:=h.hblk;rw [Array.getElem?_eq_getElem this] at hb;exact (bL hb)
 refine ⟨h.hk,h.h1,fun j hj=>?_,hlt⟩;have hh:=h.hH j hj;rw [World.cell?_of_block (w:=w) (a:=⟨g,0+j,none⟩) hb,World.frozen?_of_block (w:=w) (a:=⟨g,0+j,none⟩) hb];exact hh
theorem z9q {n i:Nat} (h:i < n):(z1h n)[i]?=some (.int .i64 0):=by
 unfold z1h;rw [Nat.mul_one,← Array.getElem?_toList,show (Value.int .i64 0).cells=#[Value.int .i64 0] from rfl,toList_madeCells_one];simp [h]
theorem z9r {a b:List Int} (h:a.length=b.length) (hh:∀ i,i < a.length→a.getD i 0=b.getD i 0):a=b:=by
 apply List.ext_getElem h;intro i h1 h2;have:=hh i h1
 simpa [List.getD,h1,h2] using this
theorem z7m (w:World) (n:Nat) (hn:n≤1048576):z01 (w.alloc (.cells (z1h n) 3)) w.heap.size (w.heap.size+1) (.slice (some ⟨w.heap.size,0,none⟩) n n) (List.replicate n 0) :=
 .inr ⟨w.heap.size,n,z1h n,by simp,Nat.le_refl _,by omega,zi _ _,by simp,by unfold maxLen;omega,z2M n,fun i hi=>by
  rw [List.length_replicate] at hi;rw [z9q hi];simp [List.getD,hi]⟩
theorem z6z (t:Int) (v:Value) (l:List Int) (hok:zR t l=true) (w:World) (h:z0x w v l) :
  Calls Try.prog 110 #[.int .i64 t,v] w fun e w'=>∃ x,e=.returned x∧z01 w' w.heap.size w'.heap.size x (z0c t l)∧Below w.heap.size w w':=by
 obtain ⟨a,cap,rfl,_⟩:=h.form;have H:=Hd h;clear h;by_cases hne:l.length=0
 ·obtain rfl:l=[]:=List.eq_nil_of_length_eq_zero hne;have HE:=Hd (z2j (t:=t) (l:=[]) (by simp));go_enter Try.func110,Try.ntmps110;go_wp2;go_ret;exact ⟨_,rfl,.inl ⟨rfl,HE.out⟩,Below.refl _ _⟩
 ·obtain ⟨ht,hl,hw⟩:=z1r hok;have h0:0 < l.length:=(by omega);have hnil:l ≠ []:=List.length_pos_iff.1 h0;have hlz:((l.length:Int) == 0)=false:=(by simp;omega);have HF:=Hd (z2k hok hnil);have hokU:=z2P hok;have hpU:=z3R hw h0;have hln:=z29 l;have HC:=Hd (fun W=>z5X t (.slice a l.length cap) l ht h0 hl hw W);have hmk:=z7p l.length (by omega);generalize wts l=u at HF hokU hpU hln HC;have HL:=Hd hln;have HBS:=Hd (fun k hk=>z4t hokU hpU (i:=k) hk);have HSU:=Hd (z2G hokU hpU);have HLE:=Hd (z4Z hokU hpU);have HUB:Hid (∀ k,k≤u.length→0≤z0s t u k∧z0s t u k≤t):=fun k hk=>⟨(z3b k).1,Int.le_trans (z3d hk) (z2F hokU hpU).1⟩;clear hln hokU hpU hw hne hnil;go_enter Try.func110,Try.ntmps110;go_wp2_with fail
  refine (HC.out _ H.out).mono ?_;rintro e w1 ⟨g,rfl,hg,hR1,hb1⟩;have HR:=Hd hR1;have HK1:=Hd hb1;have hg1:g < w1.heap.size:=hR1.hblk;have hw1:=hb1.size;clear hR1 hb1;go_wp2_with fail
  clear hmk;have S0:Hid (z01 (w1.alloc (.cells (z1h l.length) 3)) w1.heap.size (w1.heap.size+1) (.slice (some ⟨w1.heap.size,0,none⟩) l.length l.length) (List.replicate l.length 0)):=z7m w1 l.length (by omega);go_loopw [7,24] (fun s7 s30 W=>∃ (k:Nat) (gl:List Int),k≤l.length∧s30=.int .i64 k∧s7=.int .i64 (t - z0s t u k)∧gl.length=l.length∧Hid (z01 W w1.heap.size (w1.heap.size+1) (.slice (some ⟨w1.heap.size,0,none⟩) l.length l.length) gl)∧Hid (∀ i,i < k→gl.getD i 0=(z0D t u).getD i 0)∧Hid (W.heap[g]?=w1.heap[g]?)∧Hid (Below w.heap.size w W)∧w1.heap.size < W.heap.size) (fun _ s30 _=>l.length - (intOf s30).toNat)
  case atStart=>exact ⟨0,List.replicate l.length 0,Nat.zero_le _,rfl,by simp [z0s],by simp,S0,fun i hi=>absurd hi (Nat.not_lt_zero _),Below.heap_alloc _ _ _ hg1,zb HK1.out _,by simp⟩
  case round =>
   clear S0;obtain ⟨k,gl,hk,rfl,rfl,hgl,HG,HE,HB,HW,hsz⟩:=hrel;by_cases hlt:k < l.length
   ·have hku:k < u.length:=(by rw [HL.out];exact hlt);have hds:k < (clL t u).toArray.size:=(by simp [z2a];exact hku);obtain ⟨c0,c1,c2⟩:=z6y (z2W HR.out HB.out).hH hds;have hbk:=HBS.out k hku;rw [z2O hku] at hbk;have hsu:=HUB.out k (by omega);have hsv:=HUB.out (k+1) (by omega);have HBG:=Hd (z2O (t:=t) hku)
    have HDU:Hid (z0s t u (k+1)=z0s t u k+(z0D t u).getD k 0):=by
     have e1:=HSU.out k (by omega);have e2:=HSU.out (k+1) (by omega);rw [z1n (by rw [z0A];exact hku)] at e2;show _=_;omega
    rw [HDU.out,HBG.out] at hsv;rw [z3S hku] at c0 c1 c2;simp only [cl] at c0 c1 c2;generalize t * u.getD k 0 / u.sum=x at c1 HBG hbk hsv;generalize t * u.getD k 0 % u.sum=y at c2;obtain ⟨g',cap',e',hb1',hd1',hgs,hc1,hc2,hx,hf⟩:=HG.out.get (i:=k) (by omega);simp only [Value.slice.injEq,Option.some.injEq,Addr.mk.injEq,and_true] at e';obtain ⟨e1',e2',e3'⟩:=e';subst e1';clear e2' e3' hc1 hc2 hb1' hd1' hgs hds;generalize gl.getD k 0=z at hx;have hgw:g < wr.heap.size:=(by omega);go_wp2;go_roundw
    case rel =>
     refine ⟨k+1,gl.set k x,by omega,by go_num,by rw [HDU.out,HBG.out];congr 1;omega,by simp [hgl],(HG.out.set (i:=k) (by omega) x).below (zb (Below.refl _ _) _) (by rw [z1F];omega),fun i hi=>?_,(Below.heap_alloc _ _ _ (by rw [z1F];omega)).trans ((Below.heap_setCell _ _ _ _ (by simp;omega)).trans HB.out),zb (zl HW.out hw1 _) _,by simp;omega⟩;by_cases e:i=k
     ·subst e;rw [HBG.out];simp [List.getD,hgl,hlt]
     ·have:=HE.out i (by omega);rw [← this];simp [List.getD,List.getElem?_set_ne (Ne.symm e)]
    case measure=>simp [intOf];omega
   ·obtain rfl:k=l.length:=by omega
    have eg:gl=z0D t u:=z9r (by rw [hgl,z0A,HL.out]) (fun i hi=>HE.out i (by omega));obtain ⟨lf,hlf⟩:∃ lf,lf=z3e t u:=⟨_,rfl⟩;have el:t - z0s t u l.length=(lf:Int):=(by rw [hlf,HLE.out.1,HL.out]);have hlf1:lf < l.length:=(by rw [hlf,← HL.out];exact HLE.out.2);have hcs:(clL t u).toArray.size=l.length:=(by simp [z2a,HL.out])
    have HSo:Hid (Calls Try.prog 116 #[.slice (some ⟨g,0,none⟩) l.length l.length,.func (.func 117) #[] #[]] wr fun e w'=>e=.returned (.tuple #[])∧SWK z0u 3 wr g 0 (z0E t u).toArray w'):=by
     have h1:=z5d g 0 l.length (clL t u).toArray wr (z2W HR.out HB.out) (zac t u) (by rw [hcs];exact hl);have h2:=h1.mono (R':=fun e w'=>e=.returned (.tuple #[])∧SWK z0u 3 wr g 0 (z0E t u).toArray w') (fun e w' ⟨he,d',hp,hs,hS⟩=>⟨he,by rw [← zad hp hs];exact hS⟩);rw [hcs] at h2;exact h2
    have HLF:=Hd hlf;rw [eg] at HG;rw [el];clear eg HE hgl el hcs hlf;go_wp2_with fail
    refine HSo.out.mono ?_;rintro e w3 ⟨rfl,S3⟩
    have HG3:Hid (z01 w3 w1.heap.size (w1.heap.size+1) (.slice (some ⟨w1.heap.size,0,none⟩) l.length l.length) (z0X (z0D t u) (z0E t u) 0)):=by
     rw [z3g];exact HG.out.kept (fun j h1 h2 h3=>z5A S3 h1 (by omega))
    have HW3:=Hd (HW.out.trans ((z8J S3 (Nat.le_refl _) (by omega)).mono hg));have HS3:=Hd (S3.holds (by omega) (z2W HR.out HB.out).hH (by simp [z2a,z3f]));have hz3:w1.heap.size < w3.heap.size:=Nat.lt_of_lt_of_le hsz S3.le;clear S3 HSo HG HW HB hsz;go_wp2_with fail
    have hg3:g < w3.heap.size:=(by omega);go_loopw [45] (fun s51 W=>∃ j:Nat,j≤lf∧s51=.int .i64 j∧Hid (z01 W w1.heap.size (w1.heap.size+1) (.slice (some ⟨w1.heap.size,0,none⟩) l.length l.length) (z0X (z0D t u) (z0E t u) j))∧Hid (W.heap[g]?=w3.heap[g]?)∧Hid (Below w.heap.size w W)∧w1.heap.size < W.heap.size) (fun s51 _=>lf - (intOf s51).toNat)
    case atStart=>exact ⟨0,Nat.zero_le _,rfl,HG3,rfl,HW3,hz3⟩
    case round =>
     clear HG3 HW3 hz3;obtain ⟨k,hk,rfl,HG,HB,HW,hsz⟩:=hrel;by_cases hlt:k < lf
     ·have hks:k < (z0E t u).length:=(by rw [z3f,HL.out];omega);have hka:k < (z0E t u).toArray.size:=(by simpa using hks);obtain ⟨c0,c1,c2⟩:=z6y (z2W ⟨z49,z4a,HS3.out,by omega⟩ HB.out).hH hka;have hget:(z0E t u).toArray[k]! = (z0E t u)[k]:=(by rw [getElem!_pos _ k hka];simp);rw [hget] at c0 c1 c2;obtain ⟨i,hi,hcl⟩:=z62 (List.getElem_mem hks);have HN:=Hd (z3h (g:=z0D t u) hks);rw [hcl] at c0 c1 c2 HN;have hil:i < l.length:=(by rw [← HL.out];exact hi);have hbl:(z0X (z0D t u) (z0E t u) k).length=l.length:=(by rw [z2Q,z0A,HL.out]);have hbb:=z2Z (B:=100000) (s:=z0E t u) (fun j hj=>HBS.out j (by rw [z0A] at hj;exact hj)) k (by omega) i (by rw [z0A];exact hi);obtain ⟨g',cap',e',hb1',hd1',hgs,hc1,hc2,hx,hf⟩:=HG.out.get (i:=i) (by omega);simp only [Value.slice.injEq,Option.some.injEq,Addr.mk.injEq,and_true] at e';obtain ⟨e1',e2',e3'⟩:=e';subst e1';simp only [cl] at c0 c1 c2;have HN2:Hid (z0X (z0D t u) (z0E t u) (k+1)=(z0X (z0D t u) (z0E t u) k).set i ((z0X (z0D t u) (z0E t u) k).getD i 0+1)):=HN.out;have HST:=Hd (HG.out.set (i:=i) (by omega) ((z0X (z0D t u) (z0E t u) k).getD i 0+1));rw [← HN2.out] at HST;generalize (z0X (z0D t u) (z0E t u) k).getD i 0=z at hx hbb HST;generalize t * u.getD i 0 / u.sum=x at c1;generalize t * u.getD i 0 % u.sum=y at c2;clear e2' e3' hc1 hc2 hb1' hd1' hgs HN HN2 hget hka hks hcl hbl;have hgw:g < wr.heap.size:=(by omega);go_wp2;go_roundw
      case rel =>
       refine ⟨k+1,by omega,by go_num,HST.out.below (zb (Below.refl _ _) _) (by rw [z1F];omega),(Below.heap_alloc _ _ _ (by rw [z1F];omega)).trans ((Below.heap_setCell _ _ _ _ (by simp;omega)).trans HB.out),zb (zl HW.out hw1 _) _,by simp;omega⟩
      case measure=>simp [intOf];omega
     ·obtain rfl:k=lf:=by omega
      have HE:Hid (z0c t l=z0X (z0D t u) (z0E t u) k):=(by rw [HLF.out];exact HF.out);go_wp2;go_ret;exact ⟨_,rfl,by rw [HE.out];exact HG.out.base hw1 hsz,HW.out⟩
theorem z6A (t:Int) (v:Value) (l:List Int) (w:World) (h:z0x w v l) :
  Calls Try.prog 98 #[.int .i64 t,v] w fun e w'=>∃ x,e=.returned x∧z01 w' w.heap.size w'.heap.size x (z0c t l)∧Below w.heap.size w w':=by
 obtain ⟨a,cap,rfl,_⟩:=h.form;have H:=Hd h;clear h;have HO:=Hd (fun W=>z81 t (.slice a l.length cap) l W);by_cases hok:zR t l=true
 ·have HS:=Hd (fun W=>z6z t (.slice a l.length cap) l hok W);go_enter Try.func98,Try.ntmps98;go_wp2_with fail
  refine (HO.out _ H.out).mono ?_;rintro e w1 ⟨rfl,e1⟩
  cases e1
  rw [hok];go_wp2_with fail
  refine (HS.out _ H.out).mono ?_;rintro e w2 ⟨x,rfl,hr,hb⟩;have R:=Hd (And.intro hr hb);clear hr hb;go_wp2;go_ret;exact ⟨x,rfl,R.out.1,R.out.2⟩
 ·have hok':=eq_false_of_ne_true hok;have HE:=Hd (z2j (t:=t) (l:=l) (by simp [hok']));go_enter Try.func98,Try.ntmps98;go_wp2_with fail
  refine (HO.out _ H.out).mono ?_;rintro e w1 ⟨rfl,e1⟩
  cases e1
  rw [hok'];go_wp2;go_ret;exact ⟨_,rfl,.inl ⟨rfl,HE.out⟩,Below.refl _ _⟩
end
end Go.Proofs.Ytggmjiddadjilam
