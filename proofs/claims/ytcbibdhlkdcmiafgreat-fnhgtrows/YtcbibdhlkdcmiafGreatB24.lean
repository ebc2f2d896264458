/-
  PROVED HERE: what the library's symMergeCmpFunc does with a row of claims: two sorted parts, side by side, become one. Also: what the library's symMergeCmpFunc does with a row of claims: two sorted parts, side by side, become one.
-/
import Derived.Test.YtcbibdhlkdcmiafGreatB23
namespace Go.Proofs.YtcbibdhlkdcmiafGreat
open Go.RowKit Go.Shelf Go.Lib Go.Sort

set_option maxHeartbeats 8000000 in
set_option maxRecDepth 1000000 in
theorem sym_left (k:Nat) (zE:∀ w,(Go.sizeOf 138).run Tryz.prog w=.ok k w) (enc:Cl→List Value) (g:Nat) (cb:Array Value) (blk off cap a m b:Nat) (d0 d:Array Cl) (w0 w:World)
  (eg:∀ args w,(callFunc g args).run Tryz.prog w=.ok (.enter g args) w) (hcmp:CmpLays Tryz.prog g cb enc k cfC blk off d0.size w0) (R:RowK enc k w0 blk off d0) (hs:d0.size=d.size) (S:SWK enc k w0 blk off d w) (M:MPre a m b d) (ham:a < m) (hmb:m < b) (hb:b≤d.size) (hsz:d.size < 4611686018427387904) (h1:m=a+1) :
  Calls Tryz.prog 139 #[.slice (some ⟨blk,off,none⟩) d.size cap,.int .i64 a,.int .i64 m,.int .i64 b,.func (.func g) #[] cb] w fun e w'=>e=.returned (.tuple #[])∧∃ d',PermIn a b d d'∧SortedIn tB a b d'∧SWK enc k w0 blk off d' w':=by
 have mixed:Tryz.prog.follows Departure.mixedOrders=true:=by kernel_rfl
 have HC:Aside _:=hcmp
 have S0:Aside (SWK enc k w0 blk off d w):=S
 have HM:Hid (MPre a m b d):=M
 clear S hcmp M
 have t1:(((m:Int) - (a:Int)) == 1)=true:=by simp;omega
 have hle:m≤a+1:=by omega
 have H1:=Hid.intro h1
 clear h1
 go_enter Tryz.func139,Tryz.ntmps139
 go_wp2_with fail
 go_loopg [10,11] (b - m) (fun kx s10 s11 wr=>∃ lo hi:Nat,s10=.int .i64 lo∧s11=.int .i64 hi∧m≤lo∧lo≤hi∧hi≤b∧hi - lo≤kx∧Aside (SWK enc k w0 blk off d wr) ∧
  Hid ((m < lo→tB d[lo - 1]! d[a]!=true)∧(hi < b→tB d[hi]! d[a]!=false)))
 case atStart=>exact ⟨m,b,rfl,rfl,Nat.le_refl _,by omega,Nat.le_refl _,Nat.le_refl _,S0,fun h=>absurd h (Nat.lt_irrefl _),fun h=>absurd h (Nat.lt_irrefl _)⟩
 case round =>
  clear S0
  obtain ⟨lo,hi,rfl,rfl,h2,h3,h4,h5,S1,I⟩:=hrel
  by_cases hlt:lo < hi
  ·obtain ⟨mi,hmi⟩:∃ mi,mi=(lo+hi) / 2:=⟨_,rfl⟩
   have em:((lo:Int)+(hi:Int)) / 2=(mi:Int):=by omega
   have m1:lo≤mi:=by omega
   have m2:mi < hi:=by omega
   clear hmi
   have hcv:ltOf cfC d[mi]! d[a]!=tB d[mi]! d[a]!:=lt_tB (HM.out.c a mi (Nat.le_refl _) ham (by omega) (by omega))
   by_cases hv:cfC d[mi]! d[a]! < 0
   ·have I2:Hid ((m < mi+1→tB d[mi+1 - 1]! d[a]!=true)∧(hi < b→tB d[hi]! d[a]!=false)):=⟨fun _=>by rw [Nat.add_sub_cancel,← hcv];exact decide_eq_true hv,I.out.2⟩
    clear hcv
    have ea:((mi:Int)).toNat=mi:=by omega
    have pa:(0:Int)≤(mi:Int):=by omega
    have ba:(mi:Int) < (d.size:Int):=by omega
    have ra:IntKind.i64.wrap ((mi:Int))=(mi:Int):=by rw [IntKind.wrap_i64];omega
    have ec:((a:Int)).toNat=a:=by omega
    have pc:(0:Int)≤(a:Int):=by omega
    have bc:(a:Int) < (d.size:Int):=by omega
    have rc:IntKind.i64.wrap ((a:Int))=(a:Int):=by rw [IntKind.wrap_i64];omega
    have la:=S1.out.ld R (by omega) Tryz.prog (mi) (by omega)
    have lb:=S1.out.ld R (by omega) Tryz.prog (a) (by omega)
    have hc:=S1.out.cmp HC.out (by omega) d[mi]! d[a]!
    generalize d[mi]!=x at hc la hv
    generalize d[a]!=y at hc lb hv
    have hd:decide (cfC x y < 0)=true:=by simpa using hv
    go_wp2_with fail
    go_quiet_grown (first | (go_at_fn g;refine Calls.grown_of (hc _ _)))
    have S2:Aside (SWK enc k w0 blk off d (grow (wr.drewN nq) osq)):=S1.out.grown nq osq
    clear la lb hc S1 hd hv
    generalize grow (wr.drewN nq) osq=w2 at S2 ⊢
    clear nq osq
    go_wp2
    go_roundg (hi - (mi+1))
    case measure=>omega
    case rel=>exact ⟨mi+1,hi,by go_num,rfl,by omega,by omega,h4,Nat.le_refl _,S2,I2⟩
   ·have I2:Hid ((m < lo→tB d[lo - 1]! d[a]!=true)∧(mi < b→tB d[mi]! d[a]!=false)):=⟨I.out.1,fun _=>by rw [← hcv];exact decide_eq_false hv⟩
    clear hcv
    have ea:((mi:Int)).toNat=mi:=by omega
    have pa:(0:Int)≤(mi:Int):=by omega
    have ba:(mi:Int) < (d.size:Int):=by omega
    have ra:IntKind.i64.wrap ((mi:Int))=(mi:Int):=by rw [IntKind.wrap_i64];omega
    have ec:((a:Int)).toNat=a:=by omega
    have pc:(0:Int)≤(a:Int):=by omega
    have bc:(a:Int) < (d.size:Int):=by omega
    have rc:IntKind.i64.wrap ((a:Int))=(a:Int):=by rw [IntKind.wrap_i64];omega
    have la:=S1.out.ld R (by omega) Tryz.prog (mi) (by omega)
    have lb:=S1.out.ld R (by omega) Tryz.prog (a) (by omega)
    have hc:=S1.out.cmp HC.out (by omega) d[mi]! d[a]!
    generalize d[mi]!=x at hc la hv
    generalize d[a]!=y at hc lb hv
    have hd:decide (cfC x y < 0)=false:=by simpa using hv
    go_wp2_with fail
    go_quiet_grown (first | (go_at_fn g;refine Calls.grown_of (hc _ _)))
    have S2:Aside (SWK enc k w0 blk off d (grow (wr.drewN nq) osq)):=S1.out.grown nq osq
    clear la lb hc S1 hd hv
    generalize grow (wr.drewN nq) osq=w2 at S2 ⊢
    clear nq osq
    go_wp2
    go_roundg (mi - lo)
    case measure=>omega
    case rel=>exact ⟨lo,mi,rfl,rfl,h2,m1,by omega,Nat.le_refl _,S2,I2⟩
  ·obtain rfl:hi=lo:=by omega
   clear hlt h5
   go_wp2_with fail
   go_loopg [13] (hi - 1 - a) (fun kx s13 wr2=>∃ (q:Nat) (dk:Array Cl),s13=.int .i64 q∧a≤q∧q≤hi - 1∧hi - 1 - q≤kx∧dk.size=d.size∧Aside (SWK enc k w0 blk off dk wr2)∧Hid (RotD a (a+1) (q+1) d dk))
   case atStart=>exact ⟨a,d,rfl,Nat.le_refl _,by omega,Nat.le_refl _,rfl,S1,RotD.right_none a (a+1) d⟩
   case round =>
    clear S1
    obtain ⟨q,dk,rfl,g1,g2,g3,hds,S1,HE⟩:=hrel
    by_cases hlt:q < hi - 1
    ·have hltz:(q:Int) < (hi:Int) - 1:=by omega
     have HN:=Hid.intro (HE.out.up g1 (by omega))
     have ea:((q:Int)).toNat=q:=by omega
     have pa:(0:Int)≤(q:Int):=by omega
     have ba:(q:Int) < (d.size:Int):=by omega
     have ra:IntKind.i64.wrap ((q:Int))=(q:Int):=by rw [IntKind.wrap_i64];omega
     have ec:((q:Int)+1).toNat=q+1:=by omega
     have pc:(0:Int)≤(q:Int)+1:=by omega
     have bc:(q:Int)+1 < (d.size:Int):=by omega
     have rc:IntKind.i64.wrap ((q:Int)+1)=(q:Int)+1:=by rw [IntKind.wrap_i64];omega
     have S2:Aside (SWK enc k w0 blk off (swp dk (q) (q+1)) ((wr.drew.setCells blk (off+(q) * k) (enc dk[q+1]!)).setCells blk (off+(q+1) * k) (enc dk[q]!))):=S1.out.swapped R (q) (q+1) (by omega) (by omega)
     have la:=S1.out.ld1 R (by omega) Tryz.prog (q) (by omega)
     have lb:=S1.out.ld1 R (by omega) Tryz.prog (q+1) (by omega)
     have sa:=S1.out.st1 R (by omega) Tryz.prog (q) (by omega) dk[q+1]!
     have sb:=S1.out.st2 R (by omega) Tryz.prog (q) (q+1) (by omega) (by omega) dk[q+1]! dk[q]!
     have na:(enc dk[q]!).length=k:=R.hk _
     have nb:(enc dk[q+1]!).length=k:=R.hk _
     generalize enc dk[q]!=cI at S2 la sb na
     generalize enc dk[q+1]!=cJ at S2 lb sa sb nb
     clear S1
     go_wp2_with fail
     go_big_region_o
     clear la lb sa sb
     generalize (wr.drew.setCells blk (off+(q) * k) cJ).setCells blk (off+(q+1) * k) cI=w2 at S2 ⊢
     go_wp2
     go_roundg (hi - 1 - (q+1))
     case measure=>omega
     case rel=>exact ⟨q+1,swp dk q (q+1),by go_num,by omega,by omega,Nat.le_refl _,by rw [size_swp];exact hds,S2,HN⟩
    ·have hltz:¬ (q:Int) < (hi:Int) - 1:=by omega
     obtain rfl:q=hi - 1:=by omega
     have HR:RotD a (a+1) hi d dk:=by have:=HE.out;rwa [show hi - 1+1=hi by omega] at this
     have HD:Hid (PermIn a b d dk∧SortedIn tB a b dk):=by
      refine ⟨permIn_mono _ _ a hi a b (Nat.le_refl _) h4 (by omega) (HR.perm (by omega) (by omega) (by omega)),?_⟩
      have h1:=H1.out
      subst h1
      exact merge_one_left HM.out HR (by omega) h4 I.out.1 I.out.2
     clear HR
     go_wp2
     (try simp only [Exit.inBlock,Exit.then])
     refine bodyPost_ret (results_none rfl _ _ _) rfl ?_
     exact ⟨rfl,dk,HD.out.1,HD.out.2,S1.out⟩

end Go.Proofs.YtcbibdhlkdcmiafGreat
namespace Go.Proofs.YtcbibdhlkdcmiafGreat
open Go.RowKit Go.Shelf Go.Lib Go.Sort

set_option maxHeartbeats 8000000 in
set_option maxRecDepth 1000000 in
theorem sym_right (k:Nat) (zE:∀ w,(Go.sizeOf 138).run Tryz.prog w=.ok k w) (enc:Cl→List Value) (g:Nat) (cb:Array Value) (blk off cap a m b:Nat) (d0 d:Array Cl) (w0 w:World)
  (eg:∀ args w,(callFunc g args).run Tryz.prog w=.ok (.enter g args) w) (hcmp:CmpLays Tryz.prog g cb enc k cfC blk off d0.size w0) (R:RowK enc k w0 blk off d0) (hs:d0.size=d.size) (S:SWK enc k w0 blk off d w) (M:MPre a m b d) (ham:a < m) (hmb:m < b) (hb:b≤d.size) (hsz:d.size < 4611686018427387904) (h0:m ≠ a+1) (h1:b=m+1) :
  Calls Tryz.prog 139 #[.slice (some ⟨blk,off,none⟩) d.size cap,.int .i64 a,.int .i64 m,.int .i64 b,.func (.func g) #[] cb] w fun e w'=>e=.returned (.tuple #[])∧∃ d',PermIn a b d d'∧SortedIn tB a b d'∧SWK enc k w0 blk off d' w':=by
 have mixed:Tryz.prog.follows Departure.mixedOrders=true:=by kernel_rfl
 have HC:Aside _:=hcmp
 have S0:Aside (SWK enc k w0 blk off d w):=S
 have HM:Hid (MPre a m b d):=M
 clear S hcmp M
 have t0:(((m:Int) - (a:Int)) == 1)=false:=by simp;omega
 have t1:(((b:Int) - (m:Int)) == 1)=true:=by simp;omega
 have hle:b≤m+1:=by omega
 have H1:=Hid.intro h1
 clear h1
 go_enter Tryz.func139,Tryz.ntmps139
 go_wp2_with fail
 go_loopg [14,15] (m - a) (fun kx s14 s15 wr=>∃ lo hi:Nat,s14=.int .i64 lo∧s15=.int .i64 hi∧a≤lo∧lo≤hi∧hi≤m∧hi - lo≤kx∧Aside (SWK enc k w0 blk off d wr) ∧
  Hid ((a < lo→tB d[m]! d[lo - 1]!=false)∧(hi < m→tB d[m]! d[hi]!=true)))
 case atStart=>exact ⟨a,m,rfl,rfl,Nat.le_refl _,by omega,Nat.le_refl _,Nat.le_refl _,S0,fun h=>absurd h (Nat.lt_irrefl _),fun h=>absurd h (Nat.lt_irrefl _)⟩
 case round =>
  clear S0
  obtain ⟨lo,hi,rfl,rfl,h2,h3,h4,h5,S1,I⟩:=hrel
  by_cases hlt:lo < hi
  ·obtain ⟨mi,hmi⟩:∃ mi,mi=(lo+hi) / 2:=⟨_,rfl⟩
   have em:((lo:Int)+(hi:Int)) / 2=(mi:Int):=by omega
   have m1:lo≤mi:=by omega
   have m2:mi < hi:=by omega
   clear hmi
   have hcv:ltOf cfC d[m]! d[mi]!=tB d[m]! d[mi]!:=lt_tB (HM.out.c mi m (by omega) (by omega) (Nat.le_refl _) hmb)
   by_cases hv:cfC d[m]! d[mi]! < 0
   ·have I2:Hid ((a < lo→tB d[m]! d[lo - 1]!=false)∧(mi < m→tB d[m]! d[mi]!=true)):=⟨I.out.1,fun _=>by rw [← hcv];exact decide_eq_true hv⟩
    clear hcv
    have ea:((m:Int)).toNat=m:=by omega
    have pa:(0:Int)≤(m:Int):=by omega
    have ba:(m:Int) < (d.size:Int):=by omega
    have ra:IntKind.i64.wrap ((m:Int))=(m:Int):=by rw [IntKind.wrap_i64];omega
    have ec:((mi:Int)).toNat=mi:=by omega
    have pc:(0:Int)≤(mi:Int):=by omega
    have bc:(mi:Int) < (d.size:Int):=by omega
    have rc:IntKind.i64.wrap ((mi:Int))=(mi:Int):=by rw [IntKind.wrap_i64];omega
    have la:=S1.out.ld R (by omega) Tryz.prog (m) (by omega)
    have lb:=S1.out.ld R (by omega) Tryz.prog (mi) (by omega)
    have hc:=S1.out.cmp HC.out (by omega) d[m]! d[mi]!
    generalize d[m]!=x at hc la hv
    generalize d[mi]!=y at hc lb hv
    have hd:decide (cfC x y < 0)=true:=by simpa using hv
    go_wp2_with fail
    go_quiet_grown (first | (go_at_fn g;refine Calls.grown_of (hc _ _)))
    have S2:Aside (SWK enc k w0 blk off d (grow (wr.drewN nq) osq)):=S1.out.grown nq osq
    clear la lb hc S1 hd hv
    generalize grow (wr.drewN nq) osq=w2 at S2 ⊢
    clear nq osq
    go_wp2
    go_roundg (mi - lo)
    case measure=>omega
    case rel=>exact ⟨lo,mi,rfl,rfl,h2,m1,by omega,Nat.le_refl _,S2,I2⟩
   ·have I2:Hid ((a < mi+1→tB d[m]! d[mi+1 - 1]!=false)∧(hi < m→tB d[m]! d[hi]!=true)):=⟨fun _=>by rw [Nat.add_sub_cancel,← hcv];exact decide_eq_false hv,I.out.2⟩
    clear hcv
    have ea:((m:Int)).toNat=m:=by omega
    have pa:(0:Int)≤(m:Int):=by omega
    have ba:(m:Int) < (d.size:Int):=by omega
    have ra:IntKind.i64.wrap ((m:Int))=(m:Int):=by rw [IntKind.wrap_i64];omega
    have ec:((mi:Int)).toNat=mi:=by omega
    have pc:(0:Int)≤(mi:Int):=by omega
    have bc:(mi:Int) < (d.size:Int):=by omega
    have rc:IntKind.i64.wrap ((mi:Int))=(mi:Int):=by rw [IntKind.wrap_i64];omega
    have la:=S1.out.ld R (by omega) Tryz.prog (m) (by omega)
    have lb:=S1.out.ld R (by omega) Tryz.prog (mi) (by omega)
    have hc:=S1.out.cmp HC.out (by omega) d[m]! d[mi]!
    generalize d[m]!=x at hc la hv
    generalize d[mi]!=y at hc lb hv
    have hd:decide (cfC x y < 0)=false:=by simpa using hv
    go_wp2_with fail
    go_quiet_grown (first | (go_at_fn g;refine Calls.grown_of (hc _ _)))
    have S2:Aside (SWK enc k w0 blk off d (grow (wr.drewN nq) osq)):=S1.out.grown nq osq
    clear la lb hc S1 hd hv
    generalize grow (wr.drewN nq) osq=w2 at S2 ⊢
    clear nq osq
    go_wp2
    go_roundg (hi - (mi+1))
    case measure=>omega
    case rel=>exact ⟨mi+1,hi,by go_num,rfl,by omega,by omega,h4,Nat.le_refl _,S2,I2⟩
  ·obtain rfl:hi=lo:=by omega
   clear hlt h5
   go_wp2_with fail
   go_loopg [17] (m - hi) (fun kx s17 wr2=>∃ (q:Nat) (dk:Array Cl),s17=.int .i64 q∧hi≤q∧q≤m∧q - hi≤kx∧dk.size=d.size∧Aside (SWK enc k w0 blk off dk wr2)∧Hid (RotD q m (m+1) d dk))
   case atStart=>exact ⟨m,d,rfl,h4,Nat.le_refl _,Nat.le_refl _,rfl,S1,RotD.left_none m (m+1) d⟩
   case round =>
    clear S1
    obtain ⟨q,dk,rfl,g1,g2,g3,hds,S1,HE⟩:=hrel
    by_cases hlt:hi < q
    ·obtain ⟨jp,rfl⟩:∃ jp,q=jp+1:=⟨q - 1,by omega⟩
     have hltz:(hi:Int) < (jp:Int)+1:=by omega
     have HN:=Hid.intro (HE.out.down g2 (by omega))
     have ea:((jp:Int)+1).toNat=jp+1:=by omega
     have pa:(0:Int)≤(jp:Int)+1:=by omega
     have ba:(jp:Int)+1 < (d.size:Int):=by omega
     have ra:IntKind.i64.wrap ((jp:Int)+1)=(jp:Int)+1:=by rw [IntKind.wrap_i64];omega
     have ec:((jp:Int)).toNat=jp:=by omega
     have pc:(0:Int)≤(jp:Int):=by omega
     have bc:(jp:Int) < (d.size:Int):=by omega
     have rc:IntKind.i64.wrap ((jp:Int))=(jp:Int):=by rw [IntKind.wrap_i64];omega
     have S2:Aside (SWK enc k w0 blk off (swp dk (jp+1) (jp)) ((wr.drew.setCells blk (off+(jp+1) * k) (enc dk[jp]!)).setCells blk (off+(jp) * k) (enc dk[jp+1]!))):=S1.out.swapped R (jp+1) (jp) (by omega) (by omega)
     have la:=S1.out.ld1 R (by omega) Tryz.prog (jp+1) (by omega)
     have lb:=S1.out.ld1 R (by omega) Tryz.prog (jp) (by omega)
     have sa:=S1.out.st1 R (by omega) Tryz.prog (jp+1) (by omega) dk[jp]!
     have sb:=S1.out.st2 R (by omega) Tryz.prog (jp+1) (jp) (by omega) (by omega) dk[jp]! dk[jp+1]!
     have na:(enc dk[jp+1]!).length=k:=R.hk _
     have nb:(enc dk[jp]!).length=k:=R.hk _
     generalize enc dk[jp+1]!=cI at S2 la sb na
     generalize enc dk[jp]!=cJ at S2 lb sa sb nb
     clear S1
     go_wp2_with fail
     go_big_region_o
     clear la lb sa sb
     generalize (wr.drew.setCells blk (off+(jp+1) * k) cJ).setCells blk (off+(jp) * k) cI=w2 at S2 ⊢
     go_wp2
     go_roundg (jp - hi)
     case measure=>omega
     case rel=>exact ⟨jp,swp dk (jp+1) jp,by go_num,by omega,by omega,Nat.le_refl _,by rw [size_swp];exact hds,S2,HN⟩
    ·have hltz:¬ (hi:Int) < (q:Int):=by omega
     obtain rfl:q=hi:=by omega
     have HD:Hid (PermIn a b d dk∧SortedIn tB a b dk):=by
      have h1:=H1.out
      subst h1
      exact ⟨permIn_mono _ _ q (m+1) a (m+1) h2 (Nat.le_refl _) (by omega) (HE.out.perm (by omega) (by omega) (by omega)),merge_one_right HM.out HE.out h2 h4 I.out.1 I.out.2⟩
     go_wp2
     (try simp only [Exit.inBlock,Exit.then])
     refine bodyPost_ret (results_none rfl _ _ _) rfl ?_
     exact ⟨rfl,dk,HD.out.1,HD.out.2,S1.out⟩

end Go.Proofs.YtcbibdhlkdcmiafGreat
