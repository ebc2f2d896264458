/-
  PROVED HERE: what the library's symMergeCmpFunc does with a row of claims: two sorted parts, side by side, become one. Also: 2 more texts of the same proof.
-/
import Derived.Test.YtggmjiddadjilaeGreatC25
import Derived.Test.YtggmjiddadjilaeGreatC26
namespace Go.Proofs.YtggmjiddadjilaeGreat
open Go.RowKit Go.Shelf Go.Lib Go.Sort
set_option maxHeartbeats 8000000 in
set_option maxRecDepth 1000000 in
theorem sym_lo (k:Nat) (zE:∀ w,(Go.sizeOf 140).run Tryz.prog w=.ok k w) (enc:Cl→List Value) (g:Nat) (cb:Array Value) (blk off cap a m b:Nat) (d0 d:Array Cl) (w0 w:World)
  (eg:∀ args w,(callFunc g args).run Tryz.prog w=.ok (.enter g args) w) (hcmp:CmpLays Tryz.prog g cb enc k cfC blk off d0.size w0) (R:RowK enc k w0 blk off d0) (hs:d0.size=d.size) (S:SWK enc k w0 blk off d w) (M:MPre a m b d) (ham:a < m) (hmb:m < b) (hb:b≤d.size) (hsz:d.size < 4611686018427387904) (h0:m ≠ a+1) (h1:b ≠ m+1)
  (IH:∀ (a' m' b':Nat) (d':Array Cl) (W:World),b' - a' < b - a→d0.size=d'.size→SWK enc k w0 blk off d' W→MPre a' m' b' d'→a' < m'→m' < b'→b'≤d'.size→d'.size < 4611686018427387904 →
   Calls Tryz.prog 127 #[.slice (some ⟨blk,off,none⟩) d'.size cap,.int .i64 a',.int .i64 m',.int .i64 b',.func (.func g) #[] cb] W fun e w'=>e=.returned (.tuple #[])∧∃ d'',PermIn a' b' d' d''∧SortedIn tB a' b' d''∧SWK enc k w0 blk off d'' w') (mid:Nat) (hmd1:2 * mid≤a+b) (hmd2:a+b≤2 * mid+1) (hmm:¬ mid < m) :
  Calls Tryz.prog 127 #[.slice (some ⟨blk,off,none⟩) d.size cap,.int .i64 a,.int .i64 m,.int .i64 b,.func (.func g) #[] cb] w fun e w'=>e=.returned (.tuple #[])∧∃ d',PermIn a b d d'∧SortedIn tB a b d'∧SWK enc k w0 blk off d' w':=by
 have mixed:Tryz.prog.follows Departure.mixedOrders=true:=by kernel_rfl
 have HC:Aside _:=hcmp
 have S0:Aside (SWK enc k w0 blk off d w):=S
 have HM:Hid (MPre a m b d):=M
 clear S hcmp M
 have HI:=Hd IH
 have HRo:=Hd (fun s e dk W h1 h2 h3 h4 h5 h6=>rot_k k zE enc g cb blk off cap s m e d0 dk w0 W R h1 h2 h3 h4 h5 h6)
 clear IH
 have t0:(((m:Int) - (a:Int)) == 1)=false:=by simp;omega
 have t1:(((b:Int) - (m:Int)) == 1)=false:=by simp;omega
 have em:((a:Int)+(b:Int)) / 2=(mid:Int):=by omega
 have hmz:¬ (mid:Int) < (m:Int):=by omega
 go_enter Tryz.func127,Tryz.ntmps127
 go_wp2_with fail
 go_loopg [20,21] (b - a) (fun kx s20 s21 wr=>∃ s r:Nat,s20=.int .i64 s∧s21=.int .i64 r∧a≤s∧s≤r∧r≤m∧r - s≤kx∧Aside (SWK enc k w0 blk off d wr) ∧
  Hid ((a < s→tB d[mid+m - 1 - (s - 1)]! d[s - 1]! = false)∧(r < m→tB d[mid+m - 1 - r]! d[r]! = true)))
 case atStart=>exact ⟨a,m,by first | rfl | (rw [show ((a:Nat):Int)=(mid:Int)+(m:Int) - (b:Int) by omega]),rfl,Nat.le_refl _,by omega,Nat.le_refl _,by omega,S0,fun h=>absurd h (Nat.lt_irrefl _),fun h=>absurd h (Nat.lt_irrefl _)⟩
 case round =>
  clear S0
  obtain ⟨s,r,rfl,rfl,h2,h3,h4,h5,S1,I⟩:=hrel
  by_cases hlt:s < r
  ·obtain ⟨mi,hmi⟩:∃ mi,mi=(s+r) / 2:=⟨_,rfl⟩
   have em2:((s:Int)+(r:Int)) / 2=(mi:Int):=by omega
   have m1:s≤mi:=by omega
   have m2:mi < r:=by omega
   clear hmi
   obtain ⟨pc,hpc⟩:∃ pc,pc=mid+m - 1 - mi:=⟨_,rfl⟩
   have epc:(mid:Int)+(m:Int) - 1 - (mi:Int)=(pc:Int):=by omega
   have pc1:m≤pc:=by omega
   have pc2:pc < b:=by omega
   have hcv:ltOf cfC d[pc]! d[mi]! = tB d[pc]! d[mi]! := lt_tB (HM.out.c mi pc (by omega) (by omega) pc1 pc2)
   by_cases hv:cfC d[pc]! d[mi]! < 0
   ·have I2:Hid ((a < s→tB d[mid+m - 1 - (s - 1)]! d[s - 1]! = false)∧(mi < m→tB d[mid+m - 1 - mi]! d[mi]! = true)):=⟨I.out.1,fun _=>by rw [← hpc,← hcv];exact decide_eq_true hv⟩
    clear hcv hpc
    have ea:((pc:Int)).toNat=pc:=by omega
    have pa:(0:Int)≤(pc:Int):=by omega
    have ba:(pc:Int) < (d.size:Int):=by omega
    have ra:IntKind.i64.wrap ((pc:Int))=(pc:Int):=by rw [IntKind.wrap_i64];omega
    have ec:((mi:Int)).toNat=mi:=by omega
    have pcz:(0:Int)≤(mi:Int):=by omega
    have bc:(mi:Int) < (d.size:Int):=by omega
    have rc:IntKind.i64.wrap ((mi:Int))=(mi:Int):=by rw [IntKind.wrap_i64];omega
    have la:=S1.out.ld R (by omega) Tryz.prog (pc) (by omega)
    have lb:=S1.out.ld R (by omega) Tryz.prog (mi) (by omega)
    have hc:=S1.out.cmp HC.out (by omega) d[pc]! d[mi]!
    generalize d[pc]! = x at hc la hv
    generalize d[mi]! = y at hc lb hv
    have hd:decide (cfC x y < 0)=true:=by simpa using hv
    go_wp2_with fail
    go_quiet_grown (first | (go_at_fn g;refine Calls.grown_of (hc _ _)))
    have S2:Aside (SWK enc k w0 blk off d (grow (wr.drewN nq) osq)):=S1.out.grown nq osq
    clear la lb hc S1 hd hv
    generalize grow (wr.drewN nq) osq=w2 at S2 ⊢
    clear nq osq
    go_wp2
    go_roundg (mi - s)
    case measure=>omega
    case rel=>exact ⟨s,mi,rfl,rfl,h2,m1,by omega,Nat.le_refl _,S2,I2⟩
   ·have I2:Hid ((a < mi+1→tB d[mid+m - 1 - (mi+1 - 1)]! d[mi+1 - 1]! = false)∧(r < m→tB d[mid+m - 1 - r]! d[r]! = true)):=⟨fun _=>by rw [Nat.add_sub_cancel,← hpc,← hcv];exact decide_eq_false hv,I.out.2⟩
    clear hcv hpc
    have ea:((pc:Int)).toNat=pc:=by omega
    have pa:(0:Int)≤(pc:Int):=by omega
    have ba:(pc:Int) < (d.size:Int):=by omega
    have ra:IntKind.i64.wrap ((pc:Int))=(pc:Int):=by rw [IntKind.wrap_i64];omega
    have ec:((mi:Int)).toNat=mi:=by omega
    have pcz:(0:Int)≤(mi:Int):=by omega
    have bc:(mi:Int) < (d.size:Int):=by omega
    have rc:IntKind.i64.wrap ((mi:Int))=(mi:Int):=by rw [IntKind.wrap_i64];omega
    have la:=S1.out.ld R (by omega) Tryz.prog (pc) (by omega)
    have lb:=S1.out.ld R (by omega) Tryz.prog (mi) (by omega)
    have hc:=S1.out.cmp HC.out (by omega) d[pc]! d[mi]!
    generalize d[pc]! = x at hc la hv
    generalize d[mi]! = y at hc lb hv
    have hd:decide (cfC x y < 0)=false:=by simpa using hv
    go_wp2_with fail
    go_quiet_grown (first | (go_at_fn g;refine Calls.grown_of (hc _ _)))
    have S2:Aside (SWK enc k w0 blk off d (grow (wr.drewN nq) osq)):=S1.out.grown nq osq
    clear la lb hc S1 hd hv
    generalize grow (wr.drewN nq) osq=w2 at S2 ⊢
    clear nq osq
    go_wp2
    go_roundg (r - (mi+1))
    case measure=>omega
    case rel=>exact ⟨mi+1,r,by go_num,rfl,by omega,by omega,h4,Nat.le_refl _,S2,I2⟩
  ·obtain rfl:r=s:=by omega
   clear hlt h5
   obtain ⟨e,he⟩:∃ e,e=mid+m - r:=⟨_,rfl⟩
   have ee:(mid:Int)+(m:Int) - (r:Int)=(e:Int):=by omega
   have he1:e+r≤mid+m:=by omega
   have he2:mid+m≤e+r:=by omega
   clear he
   have hLo:a < r→e < b→tB d[e]! d[r - 1]! = false:=fun q1 q2=>by
    have:=I.out.1 (by omega)
    rwa [show mid+m - 1 - (r - 1)=e by omega] at this
   have hHi:r < m→m < e→tB d[e - 1]! d[r]! = true:=fun q1 q2=>by
    have:=I.out.2 (by omega)
    rwa [show mid+m - 1 - r=e - 1 by omega] at this
   have HAR:=Hd (fun d1 (hr:RotD r m e d d1)=>after_rot (mid:=mid) HM.out hr (by omega) (by omega) (by omega) (by omega) (by omega) hLo hHi)
   clear hLo hHi I
   by_cases hq0:r < m∧m < e
   ·have x1:(r:Int) < (m:Int):=by omega
    have x2:(m:Int) < (e:Int):=by omega
    have HW:=HRo.out r e d wr hs S1.out hq0.1 hq0.2 (by omega) hsz
    go_wp2_with fail
    refine HW.mono ?_
    rintro e7 w7 ⟨rfl,d7,r7,S7'⟩
    have S7:=Hd S7'
    have z7:d7.size=d.size:=r7.size
    have HP:=Hd (permIn_mono _ _ r e a b (by omega) (by omega) (by omega) (r7.perm (by omega) (by omega) (by omega)))
    have HRD:=Hd r7
    clear HW S7' r7 S1
    obtain ⟨M1',M2',HA'⟩:=HAR.out d7 HRD.out
    have M1:=Hd M1'
    have M2:=Hd M2'
    have HA:=Hd HA'
    clear M1' M2' HA' HAR
    by_cases hq1:a < r∧r < mid
    ·have v1:(a:Int) < (r:Int):=by omega
     have v2:(r:Int) < (mid:Int):=by omega
     have HW:=HI.out a r mid d7 w7 (by omega) (by omega) S7.out M1.out hq1.1 hq1.2 (by omega) (by omega)
     rw [z7] at HW
     go_wp2_with fail
     refine HW.mono ?_
     rintro e8 w8 ⟨rfl,d8,p8,s8,S8'⟩
     have S8:=Hd S8'
     have z8:d8.size=d.size:=p8.1.trans z7
     clear HW S8'
     by_cases hq2:mid < e∧e < b
     ·have u1:(mid:Int) < (e:Int):=by omega
      have u2:(e:Int) < (b:Int):=by omega
      have HW:=HI.out mid e b d8 w8 (by omega) (by omega) S8.out (M2.out.kept (by omega) p8) (by omega) (by omega) (by omega) (by omega)
      rw [z8] at HW
      go_wp2_with fail
      all_goals
       refine HW.mono ?_
       rintro e9 w9 ⟨rfl,d9,p9,s9,S9'⟩
       have S9:=Hd S9'
       clear HW S9'
       have HD:Hid (PermIn a b d d9∧SortedIn tB a b d9):=by
        have:=merge_end (by omega) (by omega) (by omega) HA.out p8 s8 p9 s9
        exact ⟨permIn_trans _ _ _ a b HP.out this.1,this.2⟩
       go_wp2
       all_goals
        go_end0
        exact ⟨rfl,d9,HD.out.1,HD.out.2,S9.out⟩
     ·have u0:¬ ((mid:Int) < (e:Int)∧(e:Int) < (b:Int)):=by omega
      have s9:SortedIn tB mid b d8:=by
       have hk:=M2.out.kept (by omega) p8
       by_cases q:mid < e
       ·obtain rfl:e=b:=by omega
        exact hk.l
       ·obtain rfl:e=mid:=by omega
        exact hk.r
      by_cases u1:(mid:Int) < (e:Int)
      ·have u2:¬ (e:Int) < (b:Int):=by omega
       have HD:Hid (PermIn a b d d8∧SortedIn tB a b d8):=by
        have:=merge_end (by omega) (by omega) (by omega) HA.out p8 s8 (permIn_refl d8 mid b) s9
        exact ⟨permIn_trans _ _ _ a b HP.out this.1,this.2⟩
       go_wp2
       all_goals
        go_end0
        exact ⟨rfl,d8,HD.out.1,HD.out.2,S8.out⟩
      ·have HD:Hid (PermIn a b d d8∧SortedIn tB a b d8):=by
        have:=merge_end (by omega) (by omega) (by omega) HA.out p8 s8 (permIn_refl d8 mid b) s9
        exact ⟨permIn_trans _ _ _ a b HP.out this.1,this.2⟩
       go_wp2
       all_goals
        go_end0
        exact ⟨rfl,d8,HD.out.1,HD.out.2,S8.out⟩
    ·have s8:SortedIn tB a mid d7:=by
      by_cases q:a < r
      ·obtain rfl:r=mid:=by omega
       exact M1.out.l
      ·obtain rfl:r=a:=by omega
       exact M1.out.r
     by_cases v1:(a:Int) < (r:Int)
     ·have v2:¬ (r:Int) < (mid:Int):=by omega
      by_cases hq2:mid < e∧e < b
      ·have u1:(mid:Int) < (e:Int):=by omega
       have u2:(e:Int) < (b:Int):=by omega
       have HW:=HI.out mid e b d7 w7 (by omega) (by omega) S7.out (M2.out.kept (by omega) (permIn_refl d7 a mid)) (by omega) (by omega) (by omega) (by omega)
       rw [z7] at HW
       go_wp2_with fail
       all_goals
        refine HW.mono ?_
        rintro e9 w9 ⟨rfl,d9,p9,s9,S9'⟩
        have S9:=Hd S9'
        clear HW S9'
        have HD:Hid (PermIn a b d d9∧SortedIn tB a b d9):=by
         have:=merge_end (by omega) (by omega) (by omega) HA.out (permIn_refl d7 a mid) s8 p9 s9
         exact ⟨permIn_trans _ _ _ a b HP.out this.1,this.2⟩
        go_wp2
        all_goals
         go_end0
         exact ⟨rfl,d9,HD.out.1,HD.out.2,S9.out⟩
      ·have u0:¬ ((mid:Int) < (e:Int)∧(e:Int) < (b:Int)):=by omega
       have s9:SortedIn tB mid b d7:=by
        have hk:=M2.out.kept (by omega) (permIn_refl d7 a mid)
        by_cases q:mid < e
        ·obtain rfl:e=b:=by omega
         exact hk.l
        ·obtain rfl:e=mid:=by omega
         exact hk.r
       by_cases u1:(mid:Int) < (e:Int)
       ·have u2:¬ (e:Int) < (b:Int):=by omega
        have HD:Hid (PermIn a b d d7∧SortedIn tB a b d7):=by
         have:=merge_end (by omega) (by omega) (by omega) HA.out (permIn_refl d7 a mid) s8 (permIn_refl d7 mid b) s9
         exact ⟨permIn_trans _ _ _ a b HP.out this.1,this.2⟩
        go_wp2
        all_goals
         go_end0
         exact ⟨rfl,d7,HD.out.1,HD.out.2,S7.out⟩
       ·have HD:Hid (PermIn a b d d7∧SortedIn tB a b d7):=by
         have:=merge_end (by omega) (by omega) (by omega) HA.out (permIn_refl d7 a mid) s8 (permIn_refl d7 mid b) s9
         exact ⟨permIn_trans _ _ _ a b HP.out this.1,this.2⟩
        go_wp2
        all_goals
         go_end0
         exact ⟨rfl,d7,HD.out.1,HD.out.2,S7.out⟩
     ·by_cases hq2:mid < e∧e < b
      ·have u1:(mid:Int) < (e:Int):=by omega
       have u2:(e:Int) < (b:Int):=by omega
       have HW:=HI.out mid e b d7 w7 (by omega) (by omega) S7.out (M2.out.kept (by omega) (permIn_refl d7 a mid)) (by omega) (by omega) (by omega) (by omega)
       rw [z7] at HW
       go_wp2_with fail
       all_goals
        refine HW.mono ?_
        rintro e9 w9 ⟨rfl,d9,p9,s9,S9'⟩
        have S9:=Hd S9'
        clear HW S9'
        have HD:Hid (PermIn a b d d9∧SortedIn tB a b d9):=by
         have:=merge_end (by omega) (by omega) (by omega) HA.out (permIn_refl d7 a mid) s8 p9 s9
         exact ⟨permIn_trans _ _ _ a b HP.out this.1,this.2⟩
        go_wp2
        all_goals
         go_end0
         exact ⟨rfl,d9,HD.out.1,HD.out.2,S9.out⟩
      ·have u0:¬ ((mid:Int) < (e:Int)∧(e:Int) < (b:Int)):=by omega
       have s9:SortedIn tB mid b d7:=by
        have hk:=M2.out.kept (by omega) (permIn_refl d7 a mid)
        by_cases q:mid < e
        ·obtain rfl:e=b:=by omega
         exact hk.l
        ·obtain rfl:e=mid:=by omega
         exact hk.r
       by_cases u1:(mid:Int) < (e:Int)
       ·have u2:¬ (e:Int) < (b:Int):=by omega
        have HD:Hid (PermIn a b d d7∧SortedIn tB a b d7):=by
         have:=merge_end (by omega) (by omega) (by omega) HA.out (permIn_refl d7 a mid) s8 (permIn_refl d7 mid b) s9
         exact ⟨permIn_trans _ _ _ a b HP.out this.1,this.2⟩
        go_wp2
        all_goals
         go_end0
         exact ⟨rfl,d7,HD.out.1,HD.out.2,S7.out⟩
       ·have HD:Hid (PermIn a b d d7∧SortedIn tB a b d7):=by
         have:=merge_end (by omega) (by omega) (by omega) HA.out (permIn_refl d7 a mid) s8 (permIn_refl d7 mid b) s9
         exact ⟨permIn_trans _ _ _ a b HP.out this.1,this.2⟩
        go_wp2
        all_goals
         go_end0
         exact ⟨rfl,d7,HD.out.1,HD.out.2,S7.out⟩
   ·have HRD:Hid (RotD r m e d d):=by
     show RotD r m e d d
     by_cases q:r < m
     ·obtain rfl:e=m:=by omega
      exact RotD.right_none _ _ _
     ·obtain rfl:r=m:=by omega
      exact RotD.left_none _ _ _
    have HP:=Hd (permIn_refl d a b)
    by_cases x1:(r:Int) < (m:Int)
    ·have x2:¬ (m:Int) < (e:Int):=by omega
     obtain ⟨M1',M2',HA'⟩:=HAR.out d HRD.out
     have M1:=Hd M1'
     have M2:=Hd M2'
     have HA:=Hd HA'
     clear M1' M2' HA' HAR
     by_cases hq1:a < r∧r < mid
     ·have v1:(a:Int) < (r:Int):=by omega
      have v2:(r:Int) < (mid:Int):=by omega
      have HW:=HI.out a r mid d wr (by omega) (by omega) S1.out M1.out hq1.1 hq1.2 (by omega) (by omega)
      skip
      go_wp2_with fail
      refine HW.mono ?_
      rintro e8 w8 ⟨rfl,d8,p8,s8,S8'⟩
      have S8:=Hd S8'
      have z8:d8.size=d.size:=p8.1
      clear HW S8'
      by_cases hq2:mid < e∧e < b
      ·have u1:(mid:Int) < (e:Int):=by omega
       have u2:(e:Int) < (b:Int):=by omega
       have HW:=HI.out mid e b d8 w8 (by omega) (by omega) S8.out (M2.out.kept (by omega) p8) (by omega) (by omega) (by omega) (by omega)
       rw [z8] at HW
       go_wp2_with fail
       all_goals
        refine HW.mono ?_
        rintro e9 w9 ⟨rfl,d9,p9,s9,S9'⟩
        have S9:=Hd S9'
        clear HW S9'
        have HD:Hid (PermIn a b d d9∧SortedIn tB a b d9):=by
         have:=merge_end (by omega) (by omega) (by omega) HA.out p8 s8 p9 s9
         exact ⟨permIn_trans _ _ _ a b HP.out this.1,this.2⟩
        go_wp2
        all_goals
         go_end0
         exact ⟨rfl,d9,HD.out.1,HD.out.2,S9.out⟩
      ·have u0:¬ ((mid:Int) < (e:Int)∧(e:Int) < (b:Int)):=by omega
       have s9:SortedIn tB mid b d8:=by
        have hk:=M2.out.kept (by omega) p8
        by_cases q:mid < e
        ·obtain rfl:e=b:=by omega
         exact hk.l
        ·obtain rfl:e=mid:=by omega
         exact hk.r
       by_cases u1:(mid:Int) < (e:Int)
       ·have u2:¬ (e:Int) < (b:Int):=by omega
        have HD:Hid (PermIn a b d d8∧SortedIn tB a b d8):=by
         have:=merge_end (by omega) (by omega) (by omega) HA.out p8 s8 (permIn_refl d8 mid b) s9
         exact ⟨permIn_trans _ _ _ a b HP.out this.1,this.2⟩
        go_wp2
        all_goals
         go_end0
         exact ⟨rfl,d8,HD.out.1,HD.out.2,S8.out⟩
       ·have HD:Hid (PermIn a b d d8∧SortedIn tB a b d8):=by
         have:=merge_end (by omega) (by omega) (by omega) HA.out p8 s8 (permIn_refl d8 mid b) s9
         exact ⟨permIn_trans _ _ _ a b HP.out this.1,this.2⟩
        go_wp2
        all_goals
         go_end0
         exact ⟨rfl,d8,HD.out.1,HD.out.2,S8.out⟩
     ·have s8:SortedIn tB a mid d:=by
       by_cases q:a < r
       ·obtain rfl:r=mid:=by omega
        exact M1.out.l
       ·obtain rfl:r=a:=by omega
        exact M1.out.r
      by_cases v1:(a:Int) < (r:Int)
      ·have v2:¬ (r:Int) < (mid:Int):=by omega
       by_cases hq2:mid < e∧e < b
       ·have u1:(mid:Int) < (e:Int):=by omega
        have u2:(e:Int) < (b:Int):=by omega
        have HW:=HI.out mid e b d wr (by omega) (by omega) S1.out (M2.out.kept (by omega) (permIn_refl d a mid)) (by omega) (by omega) (by omega) (by omega)
        skip
        go_wp2_with fail
        all_goals
         refine HW.mono ?_
         rintro e9 w9 ⟨rfl,d9,p9,s9,S9'⟩
         have S9:=Hd S9'
         clear HW S9'
         have HD:Hid (PermIn a b d d9∧SortedIn tB a b d9):=by
          have:=merge_end (by omega) (by omega) (by omega) HA.out (permIn_refl d a mid) s8 p9 s9
          exact ⟨permIn_trans _ _ _ a b HP.out this.1,this.2⟩
         go_wp2
         all_goals
          go_end0
          exact ⟨rfl,d9,HD.out.1,HD.out.2,S9.out⟩
       ·have u0:¬ ((mid:Int) < (e:Int)∧(e:Int) < (b:Int)):=by omega
        have s9:SortedIn tB mid b d:=by
         have hk:=M2.out.kept (by omega) (permIn_refl d a mid)
         by_cases q:mid < e
         ·obtain rfl:e=b:=by omega
          exact hk.l
         ·obtain rfl:e=mid:=by omega
          exact hk.r
        by_cases u1:(mid:Int) < (e:Int)
        ·have u2:¬ (e:Int) < (b:Int):=by omega
         have HD:Hid (PermIn a b d d∧SortedIn tB a b d):=by
          have:=merge_end (by omega) (by omega) (by omega) HA.out (permIn_refl d a mid) s8 (permIn_refl d mid b) s9
          exact ⟨permIn_trans _ _ _ a b HP.out this.1,this.2⟩
         go_wp2
         all_goals
          go_end0
          exact ⟨rfl,d,HD.out.1,HD.out.2,S1.out⟩
        ·have HD:Hid (PermIn a b d d∧SortedIn tB a b d):=by
          have:=merge_end (by omega) (by omega) (by omega) HA.out (permIn_refl d a mid) s8 (permIn_refl d mid b) s9
          exact ⟨permIn_trans _ _ _ a b HP.out this.1,this.2⟩
         go_wp2
         all_goals
          go_end0
          exact ⟨rfl,d,HD.out.1,HD.out.2,S1.out⟩
      ·by_cases hq2:mid < e∧e < b
       ·have u1:(mid:Int) < (e:Int):=by omega
        have u2:(e:Int) < (b:Int):=by omega
        have HW:=HI.out mid e b d wr (by omega) (by omega) S1.out (M2.out.kept (by omega) (permIn_refl d a mid)) (by omega) (by omega) (by omega) (by omega)
        skip
        go_wp2_with fail
        all_goals
         refine HW.mono ?_
         rintro e9 w9 ⟨rfl,d9,p9,s9,S9'⟩
         have S9:=Hd S9'
         clear HW S9'
         have HD:Hid (PermIn a b d d9∧SortedIn tB a b d9):=by
          have:=merge_end (by omega) (by omega) (by omega) HA.out (permIn_refl d a mid) s8 p9 s9
          exact ⟨permIn_trans _ _ _ a b HP.out this.1,this.2⟩
         go_wp2
         all_goals
          go_end0
          exact ⟨rfl,d9,HD.out.1,HD.out.2,S9.out⟩
       ·have u0:¬ ((mid:Int) < (e:Int)∧(e:Int) < (b:Int)):=by omega
        have s9:SortedIn tB mid b d:=by
         have hk:=M2.out.kept (by omega) (permIn_refl d a mid)
         by_cases q:mid < e
         ·obtain rfl:e=b:=by omega
          exact hk.l
         ·obtain rfl:e=mid:=by omega
          exact hk.r
        by_cases u1:(mid:Int) < (e:Int)
        ·have u2:¬ (e:Int) < (b:Int):=by omega
         have HD:Hid (PermIn a b d d∧SortedIn tB a b d):=by
          have:=merge_end (by omega) (by omega) (by omega) HA.out (permIn_refl d a mid) s8 (permIn_refl d mid b) s9
          exact ⟨permIn_trans _ _ _ a b HP.out this.1,this.2⟩
         go_wp2
         all_goals
          go_end0
          exact ⟨rfl,d,HD.out.1,HD.out.2,S1.out⟩
        ·have HD:Hid (PermIn a b d d∧SortedIn tB a b d):=by
          have:=merge_end (by omega) (by omega) (by omega) HA.out (permIn_refl d a mid) s8 (permIn_refl d mid b) s9
          exact ⟨permIn_trans _ _ _ a b HP.out this.1,this.2⟩
         go_wp2
         all_goals
          go_end0
          exact ⟨rfl,d,HD.out.1,HD.out.2,S1.out⟩
    ·obtain ⟨M1',M2',HA'⟩:=HAR.out d HRD.out
     have M1:=Hd M1'
     have M2:=Hd M2'
     have HA:=Hd HA'
     clear M1' M2' HA' HAR
     by_cases hq1:a < r∧r < mid
     ·have v1:(a:Int) < (r:Int):=by omega
      have v2:(r:Int) < (mid:Int):=by omega
      have HW:=HI.out a r mid d wr (by omega) (by omega) S1.out M1.out hq1.1 hq1.2 (by omega) (by omega)
      skip
      go_wp2_with fail
      refine HW.mono ?_
      rintro e8 w8 ⟨rfl,d8,p8,s8,S8'⟩
      have S8:=Hd S8'
      have z8:d8.size=d.size:=p8.1
      clear HW S8'
      by_cases hq2:mid < e∧e < b
      ·have u1:(mid:Int) < (e:Int):=by omega
       have u2:(e:Int) < (b:Int):=by omega
       have HW:=HI.out mid e b d8 w8 (by omega) (by omega) S8.out (M2.out.kept (by omega) p8) (by omega) (by omega) (by omega) (by omega)
       rw [z8] at HW
       go_wp2_with fail
       all_goals
        refine HW.mono ?_
        rintro e9 w9 ⟨rfl,d9,p9,s9,S9'⟩
        have S9:=Hd S9'
        clear HW S9'
        have HD:Hid (PermIn a b d d9∧SortedIn tB a b d9):=by
         have:=merge_end (by omega) (by omega) (by omega) HA.out p8 s8 p9 s9
         exact ⟨permIn_trans _ _ _ a b HP.out this.1,this.2⟩
        go_wp2
        all_goals
         go_end0
         exact ⟨rfl,d9,HD.out.1,HD.out.2,S9.out⟩
      ·have u0:¬ ((mid:Int) < (e:Int)∧(e:Int) < (b:Int)):=by omega
       have s9:SortedIn tB mid b d8:=by
        have hk:=M2.out.kept (by omega) p8
        by_cases q:mid < e
        ·obtain rfl:e=b:=by omega
         exact hk.l
        ·obtain rfl:e=mid:=by omega
         exact hk.r
       by_cases u1:(mid:Int) < (e:Int)
       ·have u2:¬ (e:Int) < (b:Int):=by omega
        have HD:Hid (PermIn a b d d8∧SortedIn tB a b d8):=by
         have:=merge_end (by omega) (by omega) (by omega) HA.out p8 s8 (permIn_refl d8 mid b) s9
         exact ⟨permIn_trans _ _ _ a b HP.out this.1,this.2⟩
        go_wp2
        all_goals
         go_end0
         exact ⟨rfl,d8,HD.out.1,HD.out.2,S8.out⟩
       ·have HD:Hid (PermIn a b d d8∧SortedIn tB a b d8):=by
         have:=merge_end (by omega) (by omega) (by omega) HA.out p8 s8 (permIn_refl d8 mid b) s9
         exact ⟨permIn_trans _ _ _ a b HP.out this.1,this.2⟩
        go_wp2
        all_goals
         go_end0
         exact ⟨rfl,d8,HD.out.1,HD.out.2,S8.out⟩
     ·have s8:SortedIn tB a mid d:=by
       by_cases q:a < r
       ·obtain rfl:r=mid:=by omega
        exact M1.out.l
       ·obtain rfl:r=a:=by omega
        exact M1.out.r
      by_cases v1:(a:Int) < (r:Int)
      ·have v2:¬ (r:Int) < (mid:Int):=by omega
       by_cases hq2:mid < e∧e < b
       ·have u1:(mid:Int) < (e:Int):=by omega
        have u2:(e:Int) < (b:Int):=by omega
        have HW:=HI.out mid e b d wr (by omega) (by omega) S1.out (M2.out.kept (by omega) (permIn_refl d a mid)) (by omega) (by omega) (by omega) (by omega)
        skip
        go_wp2_with fail
        all_goals
         refine HW.mono ?_
         rintro e9 w9 ⟨rfl,d9,p9,s9,S9'⟩
         have S9:=Hd S9'
         clear HW S9'
         have HD:Hid (PermIn a b d d9∧SortedIn tB a b d9):=by
          have:=merge_end (by omega) (by omega) (by omega) HA.out (permIn_refl d a mid) s8 p9 s9
          exact ⟨permIn_trans _ _ _ a b HP.out this.1,this.2⟩
         go_wp2
         all_goals
          go_end0
          exact ⟨rfl,d9,HD.out.1,HD.out.2,S9.out⟩
       ·have u0:¬ ((mid:Int) < (e:Int)∧(e:Int) < (b:Int)):=by omega
        have s9:SortedIn tB mid b d:=by
         have hk:=M2.out.kept (by omega) (permIn_refl d a mid)
         by_cases q:mid < e
         ·obtain rfl:e=b:=by omega
          exact hk.l
         ·obtain rfl:e=mid:=by omega
          exact hk.r
        by_cases u1:(mid:Int) < (e:Int)
        ·have u2:¬ (e:Int) < (b:Int):=by omega
         have HD:Hid (PermIn a b d d∧SortedIn tB a b d):=by
          have:=merge_end (by omega) (by omega) (by omega) HA.out (permIn_refl d a mid) s8 (permIn_refl d mid b) s9
          exact ⟨permIn_trans _ _ _ a b HP.out this.1,this.2⟩
         go_wp2
         all_goals
          go_end0
          exact ⟨rfl,d,HD.out.1,HD.out.2,S1.out⟩
        ·have HD:Hid (PermIn a b d d∧SortedIn tB a b d):=by
          have:=merge_end (by omega) (by omega) (by omega) HA.out (permIn_refl d a mid) s8 (permIn_refl d mid b) s9
          exact ⟨permIn_trans _ _ _ a b HP.out this.1,this.2⟩
         go_wp2
         all_goals
          go_end0
          exact ⟨rfl,d,HD.out.1,HD.out.2,S1.out⟩
      ·by_cases hq2:mid < e∧e < b
       ·have u1:(mid:Int) < (e:Int):=by omega
        have u2:(e:Int) < (b:Int):=by omega
        have HW:=HI.out mid e b d wr (by omega) (by omega) S1.out (M2.out.kept (by omega) (permIn_refl d a mid)) (by omega) (by omega) (by omega) (by omega)
        skip
        go_wp2_with fail
        all_goals
         refine HW.mono ?_
         rintro e9 w9 ⟨rfl,d9,p9,s9,S9'⟩
         have S9:=Hd S9'
         clear HW S9'
         have HD:Hid (PermIn a b d d9∧SortedIn tB a b d9):=by
          have:=merge_end (by omega) (by omega) (by omega) HA.out (permIn_refl d a mid) s8 p9 s9
          exact ⟨permIn_trans _ _ _ a b HP.out this.1,this.2⟩
         go_wp2
         all_goals
          go_end0
          exact ⟨rfl,d9,HD.out.1,HD.out.2,S9.out⟩
       ·have u0:¬ ((mid:Int) < (e:Int)∧(e:Int) < (b:Int)):=by omega
        have s9:SortedIn tB mid b d:=by
         have hk:=M2.out.kept (by omega) (permIn_refl d a mid)
         by_cases q:mid < e
         ·obtain rfl:e=b:=by omega
          exact hk.l
         ·obtain rfl:e=mid:=by omega
          exact hk.r
        by_cases u1:(mid:Int) < (e:Int)
        ·have u2:¬ (e:Int) < (b:Int):=by omega
         have HD:Hid (PermIn a b d d∧SortedIn tB a b d):=by
          have:=merge_end (by omega) (by omega) (by omega) HA.out (permIn_refl d a mid) s8 (permIn_refl d mid b) s9
          exact ⟨permIn_trans _ _ _ a b HP.out this.1,this.2⟩
         go_wp2
         all_goals
          go_end0
          exact ⟨rfl,d,HD.out.1,HD.out.2,S1.out⟩
        ·have HD:Hid (PermIn a b d d∧SortedIn tB a b d):=by
          have:=merge_end (by omega) (by omega) (by omega) HA.out (permIn_refl d a mid) s8 (permIn_refl d mid b) s9
          exact ⟨permIn_trans _ _ _ a b HP.out this.1,this.2⟩
         go_wp2
         all_goals
          go_end0
          exact ⟨rfl,d,HD.out.1,HD.out.2,S1.out⟩
end Go.Proofs.YtggmjiddadjilaeGreat
namespace Go.Proofs.YtggmjiddadjilaeGreat
open Go.Sort
def Seg (n:Nat) (T:Nat→Nat→Prop) (d:Array Cl):Prop:=∀ x y,x < y→y < n→(T x y→tB d[y]! d[x]! = false)∧(¬ T x y→d[x]!.p < d[y]!.p)
theorem Seg.iff {n:Nat} {T U:Nat→Nat→Prop} {d:Array Cl} (h:Seg n T d) (hh:∀ x y,x < y→y < n→(T x y ↔ U x y)):Seg n U d:=fun x y g1 g2 =>
 ⟨fun q=>(h x y g1 g2).1 ((hh x y g1 g2).2 q),fun q=>(h x y g1 g2).2 (fun r=>q ((hh x y g1 g2).1 r))⟩
theorem Seg.join {n a b:Nat} {T:Nat→Nat→Prop} {d d':Array Cl} (h:Seg n T d) (hn:n≤d.size) (hb:b≤n) (hp:PermIn a b d d') (hs:SortedIn tB a b d')
  (h1:∀ x y,x < a→a≤y→y < b→¬ T x y) (h2:∀ x y,a≤x→x < b→b≤y→y < n→¬ T x y):Seg n (fun x y=>T x y∨(a≤x∧y < b)) d':=by
 intro x y g1 g2
 have out:∀ t,t < a∨b≤t→d'[t]! = d[t]! := hp.2.1
 by_cases c1:a≤x
 ·by_cases c2:y < b
  ·exact ⟨fun _=>hs x y c1 g1 c2,fun q=>absurd (Or.inr ⟨c1,c2⟩) q⟩
  ·by_cases c3:x < b
   ·refine ⟨fun q=>?_,fun _=>?_⟩
    ·rcases q with q | q
     ·exact absurd q (h2 x y c1 c3 (by omega) g2)
     ·exact absurd q.2 c2
    ·rw [out y (by omega)]
     exact permIn_all d d' a b (fun z=>z.p < d[y]!.p) (by omega) hp (fun r r1 r2=>(h r y (by omega) g2).2 (h2 r y r1 r2 (by omega) g2)) x c1 c3
   ·rw [out x (by omega),out y (by omega)]
    exact ⟨fun q=>(h x y g1 g2).1 (by rcases q with q | q;exact q;omega),fun q=>(h x y g1 g2).2 (fun r=>q (Or.inl r))⟩
 ·by_cases c2:a≤y∧y < b
  ·refine ⟨fun q=>?_,fun _=>?_⟩
   ·rcases q with q | q
    ·exact absurd q (h1 x y (by omega) c2.1 c2.2)
    ·omega
   ·rw [out x (by omega)]
    exact permIn_all d d' a b (fun z=>d[x]!.p < z.p) (by omega) hp (fun r r1 r2=>(h x r (by omega) (by omega)).2 (h1 x r (by omega) r1 r2)) y c2.1 c2.2
  ·rw [out x (by omega),out y (by omega)]
   exact ⟨fun q=>(h x y g1 g2).1 (by rcases q with q | q;exact q;omega),fun q=>(h x y g1 g2).2 (fun r=>q (Or.inl r))⟩
def T1 (a:Nat) (x y:Nat):Prop:=y < a∧x / 20=y / 20
def T2 (s a:Nat) (x y:Nat):Prop:=(y < a∧x / (2 * s)=y / (2 * s))∨(a≤x∧x / s=y / s)
theorem seg_start {n:Nat} {d:Array Cl} (h:Asc 0 n d):Seg n (T1 0) d:=fun x y g1 g2=>⟨fun q=>absurd q.1 (Nat.not_lt_zero _),fun _=>h x y (Nat.zero_le _) g1 g2⟩
theorem asc_of_seg {n a b:Nat} {d:Array Cl} (h:Seg n (T1 a) d) (hb:b≤n):Asc a b d:=fun x y g1 g2 g3=>(h x y g2 (by omega)).2 (fun q=>by have:=q.1;omega)
theorem seg_ins {n a:Nat} {d d':Array Cl} (h:Seg n (T1 a) d) (hn:n≤d.size) (ha:a % 20=0) (hb:a+20≤n) (hp:PermIn a (a+20) d d') (hs:SortedIn tB a (a+20) d'):Seg n (T1 (a+20)) d' :=
 (h.join hn hb hp hs (fun x y _ g2 _ q=>by have:=q.1;omega) (fun x y g1 g2 g3 _ q=>by have:=q.1;omega)).iff (fun x y g1 g2=>by unfold T1;omega)
theorem seg_ins_end {n a:Nat} {d d':Array Cl} (h:Seg n (T1 a) d) (hn:n≤d.size) (ha:a % 20=0) (han:a≤n) (hb:n < a+20) (hp:PermIn a n d d') (hs:SortedIn tB a n d'):Seg n (T2 20 0) d' :=
 (h.join hn (Nat.le_refl _) hp hs (fun x y _ g2 _ q=>by have:=q.1;omega) (fun x y g1 g2 g3 _ q=>by have:=q.1;omega)).iff (fun x y g1 g2=>by unfold T1 T2;omega)
theorem pre_of_seg {n s a m b:Nat} {d:Array Cl} (hs:s=20∨s=40∨s=80) (h:Seg n (T2 s a) d) (ha:a % (2 * s)=0) (hm:m=a+s) (hmb:m≤b) (hb:b≤n) (hb2:b≤a+2 * s):MPre a m b d:=by
 subst hm
 rcases hs with rfl | rfl | rfl
 all_goals
  refine ⟨fun x y g1 g2 g3=>?_,fun x y g1 g2 g3=>?_,fun x y g1 g2 g3 g4=>?_⟩
  ·exact (h x y g2 (by omega)).1 (by unfold T2;omega)
  ·exact (h x y g2 (by omega)).1 (by unfold T2;omega)
  ·exact (h x y (by omega) (by omega)).2 (by unfold T2;omega)
theorem seg_merge {n s a b:Nat} {d d':Array Cl} (hs:s=20∨s=40∨s=80) (h:Seg n (T2 s a) d) (hn:n≤d.size) (ha:a % (2 * s)=0) (hb:b=a+2 * s) (hbn:b≤n) (hp:PermIn a b d d') (hq:SortedIn tB a b d'):Seg n (T2 s b) d':=by
 subst hb
 rcases hs with rfl | rfl | rfl
 all_goals exact (h.join hn hbn hp hq (fun x y g1 g2 g3 q=>by unfold T2 at q;omega) (fun x y g1 g2 g3 g4 q=>by unfold T2 at q;omega)).iff (fun x y g1 g2=>by unfold T2;omega)
theorem seg_merge_end {n s a:Nat} {d d':Array Cl} (hs:s=20∨s=40∨s=80) (h:Seg n (T2 s a) d) (hn:n≤d.size) (ha:a % (2 * s)=0) (h1:a≤n) (hbn:n < a+2 * s) (hp:PermIn a n d d') (hq:SortedIn tB a n d'):Seg n (T2 (2 * s) 0) d':=by
 rcases hs with rfl | rfl | rfl
 all_goals exact (h.join hn (Nat.le_refl _) hp hq (fun x y g1 g2 g3 q=>by unfold T2 at q;omega) (fun x y g1 g2 g3 g4 q=>by unfold T2 at q;omega)).iff (fun x y g1 g2=>by unfold T2;omega)
theorem seg_pass {n s a:Nat} {d:Array Cl} (hs:s=20∨s=40∨s=80) (h:Seg n (T2 s a) d) (ha:a % (2 * s)=0) (h1:a≤n) (h2:n≤a+s):Seg n (T2 (2 * s) 0) d:=by
 rcases hs with rfl | rfl | rfl
 all_goals exact h.iff (fun x y g1 g2=>by unfold T2;omega)
theorem seg_sorted {n s:Nat} {d:Array Cl} (hs:s=20∨s=40∨s=80∨s=160) (h:Seg n (T2 s 0) d) (hn:n≤s):SortedIn tB 0 n d:=by
 intro x y g1 g2 g3
 refine (h x y g2 g3).1 ?_
 rcases hs with rfl | rfl | rfl | rfl
 all_goals (unfold T2;omega)
end Go.Proofs.YtggmjiddadjilaeGreat
namespace Go.Proofs.YtggmjiddadjilaeGreat
open Go.RowKit Go.Shelf Go.Lib Go.Sort
theorem sym_any (blk off cap:Nat) (d0:Array Cl) (w0:World) (R:RowK encC 3 w0 blk off d0):∀ (n a m b:Nat) (d:Array Cl) (w:World),b - a≤n→d0.size=d.size→SWK encC 3 w0 blk off d w→MPre a m b d→a < m→m < b→b≤d.size→d.size < 4611686018427387904 →
  Calls Tryz.prog 127 #[.slice (some ⟨blk,off,none⟩) d.size cap,.int .i64 a,.int .i64 m,.int .i64 b,.func (.func 110) #[] #[]] w fun e w'=>e=.returned (.tuple #[])∧∃ d',PermIn a b d d'∧SortedIn tB a b d'∧SWK encC 3 w0 blk off d' w'
 | 0,a,m,b,d,w,hn,_,_,_,h1,h2,_,_=>by omega
 | n+1,a,m,b,d,w,hn,hs,S,M,h1,h2,hb,hsz=>by
  by_cases c1:m=a+1
  ·exact sym_left 3 Tryz.sizeOf140 encC 110 #[] blk off cap a m b d0 d w0 w egC (cmpC _ _ _ _) R hs S M h1 h2 hb hsz c1
  ·by_cases c2:b=m+1
   ·exact sym_right 3 Tryz.sizeOf140 encC 110 #[] blk off cap a m b d0 d w0 w egC (cmpC _ _ _ _) R hs S M h1 h2 hb hsz c1 c2
   ·by_cases c3:(a+b) / 2 < m
    ·exact sym_hi 3 Tryz.sizeOf140 encC 110 #[] blk off cap a m b d0 d w0 w egC (cmpC _ _ _ _) R hs S M h1 h2 hb hsz c1 c2
      (fun a' m' b' d' W q1 q2 q3 q4 q5 q6 q7 q8=>sym_any blk off cap d0 w0 R n a' m' b' d' W (by omega) q2 q3 q4 q5 q6 q7 q8) ((a+b) / 2) (by omega) (by omega) c3
    ·exact sym_lo 3 Tryz.sizeOf140 encC 110 #[] blk off cap a m b d0 d w0 w egC (cmpC _ _ _ _) R hs S M h1 h2 hb hsz c1 c2
      (fun a' m' b' d' W q1 q2 q3 q4 q5 q6 q7 q8=>sym_any blk off cap d0 w0 R n a' m' b' d' W (by omega) q2 q3 q4 q5 q6 q7 q8) ((a+b) / 2) (by omega) (by omega) c3
set_option maxHeartbeats 8000000 in
set_option maxRecDepth 1000000 in
theorem stable_any (blk off cap:Nat) (d0:Array Cl) (w0:World) (R:RowK encC 3 w0 blk off d0) (hA:Asc 0 d0.size d0) (h100:d0.size≤100) :
  Calls Tryz.prog 120 #[.slice (some ⟨blk,off,none⟩) d0.size cap,.int .i64 d0.size,.func (.func 110) #[] #[]] w0 fun e w'=>e=.returned (.tuple #[])∧∃ d',PermIn 0 d0.size d0 d'∧SortedIn tB 0 d0.size d'∧SWK encC 3 w0 blk off d' w':=by
 have HI:=Hd (fun a b d w h1 h2 h3 h4 h5=>ins_any blk off cap a b d0 d w0 w R h1 h2 h3 h4 h5)
 have HY:=Hd (fun a m b d w=>sym_any blk off cap d0 w0 R (b - a) a m b d w (Nat.le_refl _))
 have S0:=Hd (SWK.start R.hH)
 have G0:=Hd (seg_start hA)
 obtain ⟨n,hn⟩:∃ n,n=d0.size:=⟨_,rfl⟩
 rw [← hn] at G0 h100
 have HN:=Hd hn
 rw [← hn]
 clear hA hn
 go_enter Tryz.func120,Tryz.ntmps120
 go_wp2_with fail
 go_loopw [7,8] (fun s7 s8 W=>∃ (a:Nat) (d:Array Cl),s7=.int .i64 a∧s8=.int .i64 ((a:Int)+20)∧a % 20=0∧a≤n∧Hid (SWK encC 3 w0 blk off d W)∧Hid (Seg n (T1 a) d∧PermIn 0 n d0 d)) (fun s7 _ _=>n - (intOf s7).toNat)
 case atStart=>exact ⟨0,d0,rfl,rfl,rfl,Nat.zero_le _,S0,G0.out,permIn_refl _ _ _⟩
 case round =>
  clear S0 G0
  obtain ⟨a,d,rfl,rfl,ha,han,HS,HG⟩:=hrel
  have hz:d.size=n:=HG.out.2.1.trans HN.out.symm
  have HZ:=Hd hz
  clear hz
  by_cases hlt:a+20≤n
  ·have hltz:(a:Int)+20≤(n:Int):=by omega
   have HW:=HI.out a (a+20) d wr (by rw [← HN.out];exact HZ.out.symm) HS.out (by omega) (by rw [HZ.out];exact hlt) (by rw [HZ.out];omega)
   have e1:((a+20:Nat):Int)=(a:Int)+20:=by omega
   rw [HZ.out,e1] at HW
   go_wp2_with fail
   refine HW.mono ?_
   rintro e w2 ⟨rfl,S2⟩
   obtain ⟨p2,s2⟩:=ins_sorts d a (a+20) (by omega) (by rw [HZ.out];exact hlt) (asc_of_seg HG.out.1 hlt)
   have G2:Hid (Seg n (T1 (a+20)) (Sort.insertionSort (ltOf cfC) d a (a+20))∧PermIn 0 n d0 (Sort.insertionSort (ltOf cfC) d a (a+20))) :=
    ⟨seg_ins HG.out.1 (by rw [HZ.out];exact Nat.le_refl _) ha hlt p2 s2,permIn_trans _ _ _ 0 n HG.out.2 (permIn_mono _ _ a (a+20) 0 n (Nat.zero_le _) hlt (by rw [HZ.out];exact Nat.le_refl _) p2)⟩
   have HS2:=Hd S2
   clear p2 s2 S2 HW
   generalize Sort.insertionSort (ltOf cfC) d a (a+20)=d2 at G2 HS2
   go_wp2
   go_roundw
   case rel=>exact ⟨a+20,d2,by go_num,by go_num,by omega,hlt,HS2,G2⟩
   case measure=>simp [intOf];omega
  ·have hltz:¬ (a:Int)+20≤(n:Int):=by omega
   have HW:=HI.out a n d wr (by rw [← HN.out];exact HZ.out.symm) HS.out han (by rw [HZ.out];exact Nat.le_refl _) (by rw [HZ.out];omega)
   rw [HZ.out] at HW
   go_wp2_with fail
   refine HW.mono ?_
   rintro e w2 ⟨rfl,S2⟩
   obtain ⟨p2,s2⟩:=ins_sorts d a n han (by rw [HZ.out];exact Nat.le_refl _) (asc_of_seg HG.out.1 (Nat.le_refl _))
   have G2:Hid (Seg n (T2 20 0) (Sort.insertionSort (ltOf cfC) d a n)∧PermIn 0 n d0 (Sort.insertionSort (ltOf cfC) d a n)) :=
    ⟨seg_ins_end HG.out.1 (by rw [HZ.out];exact Nat.le_refl _) ha han (by omega) p2 s2,permIn_trans _ _ _ 0 n HG.out.2 (permIn_mono _ _ a n 0 n (Nat.zero_le _) (Nat.le_refl _) (by rw [HZ.out];exact Nat.le_refl _) p2)⟩
   have HS2:=Hd S2
   clear p2 s2 S2 HW HS HG HZ
   generalize Sort.insertionSort (ltOf cfC) d a n=d2 at G2 HS2
   go_wp2_with fail
   go_loopw [6] (fun s6 W=>∃ (s:Nat) (d:Array Cl),s6=.int .i64 s∧20≤s∧s≤160∧Hid (s=20∨s=40∨s=80∨s=160)∧Hid (SWK encC 3 w0 blk off d W)∧Hid (Seg n (T2 s 0) d∧PermIn 0 n d0 d)) (fun s6 _=>200 - (intOf s6).toNat)
   case atStart=>exact ⟨20,d2,rfl,by omega,by omega,Or.inl rfl,HS2,G2⟩
   case round =>
    clear HS2 G2
    obtain ⟨s,d,rfl,hs1,hs2,HO,HS,HG⟩:=hrel
    by_cases hsn:s < n
    ·have hsz:(s:Int) < (n:Int):=by omega
     have HO3:Hid (s=20∨s=40∨s=80):=by have h1:=HO.out;show _∨_;omega
     have hs3:s≤80:=by have h1:=HO3.out;omega
     have HM:Hid (∀ a:Nat,a % (2 * s)=0→(a+2 * s) % (2 * s)=0):=fun a h=>by rw [Nat.add_mod_right];exact h
     go_wp2_with fail
     go_loopw [7,8] (fun s7 s8 W=>∃ (a:Nat) (d:Array Cl),s7=.int .i64 a∧s8=.int .i64 ((a:Int)+2 * (s:Int))∧a≤n∧Hid (a % (2 * s)=0)∧Hid (SWK encC 3 w0 blk off d W)∧Hid (Seg n (T2 s a) d∧PermIn 0 n d0 d)) (fun s7 _ _=>n - (intOf s7).toNat)
     case atStart=>exact ⟨0,d,rfl,by go_num,Nat.zero_le _,Nat.zero_mod _,HS,HG⟩
     case round =>
      clear HS HG
      obtain ⟨a,d,rfl,rfl,han,HA,HS,HG⟩:=hrel
      have HZ:Hid (d.size=n):=HG.out.2.1.trans HN.out.symm
      by_cases hlt:a+2 * s≤n
      ·have hltz:(a:Int)+2 * (s:Int)≤(n:Int):=by omega
       have HW:=HY.out a (a+s) (a+2 * s) d wr (by rw [← HN.out];exact HZ.out.symm) HS.out (pre_of_seg HO3.out HG.out.1 HA.out rfl (by omega) hlt (Nat.le_refl _)) (by omega) (by omega) (by rw [HZ.out];exact hlt) (by rw [HZ.out];omega)
       have e1:((a+2 * s:Nat):Int)=(a:Int)+2 * (s:Int):=by omega
       have e2:((a+s:Nat):Int)=(a:Int)+(s:Int):=by omega
       rw [HZ.out,e1,e2] at HW
       go_wp2_with fail
       refine HW.mono ?_
       rintro e w3 ⟨rfl,d3,p3,s3,S3'⟩
       have G3:Hid (Seg n (T2 s (a+2 * s)) d3∧PermIn 0 n d0 d3):=⟨seg_merge HO3.out HG.out.1 (by rw [HZ.out];exact Nat.le_refl _) HA.out rfl hlt p3 s3,permIn_trans _ _ _ 0 n HG.out.2 (permIn_mono _ _ a (a+2 * s) 0 n (Nat.zero_le _) hlt (by rw [HZ.out];exact Nat.le_refl _) p3)⟩
       have S3:=Hd S3'
       have HA3:=Hd (HM.out a HA.out)
       clear p3 s3 S3' HW
       go_wp2
       go_roundw
       case rel=>exact ⟨a+2 * s,d3,by rw [e1],by rw [e1],hlt,HA3,S3,G3⟩
       case measure=>simp [intOf];omega
      ·have hltz:¬ (a:Int)+2 * (s:Int)≤(n:Int):=by omega
       by_cases hmn:a+s < n
       ·have hmz:(a:Int)+(s:Int) < (n:Int):=by omega
        have HW:=HY.out a (a+s) n d wr (by rw [← HN.out];exact HZ.out.symm) HS.out (pre_of_seg HO3.out HG.out.1 HA.out rfl (by omega) (Nat.le_refl _) (by omega)) (by omega) (by omega) (by rw [HZ.out];exact Nat.le_refl _) (by rw [HZ.out];omega)
        have e2:((a+s:Nat):Int)=(a:Int)+(s:Int):=by omega
        rw [HZ.out,e2] at HW
        go_wp2_with fail
        refine HW.mono ?_
        rintro e w3 ⟨rfl,d3,p3,s3,S3'⟩
        have G3:Hid (Seg n (T2 (2 * s) 0) d3∧PermIn 0 n d0 d3):=⟨seg_merge_end HO3.out HG.out.1 (by rw [HZ.out];exact Nat.le_refl _) HA.out han (by omega) p3 s3,permIn_trans _ _ _ 0 n HG.out.2 (permIn_mono _ _ a n 0 n (Nat.zero_le _) (Nat.le_refl _) (by rw [HZ.out];exact Nat.le_refl _) p3)⟩
        have S3:=Hd S3'
        have HO4:Hid (2 * s=20∨2 * s=40∨2 * s=80∨2 * s=160):=by have h1:=HO3.out;show _∨_;omega
        clear p3 s3 S3' HW
        go_wp2
        go_roundw
        case rel=>exact ⟨2 * s,d3,by go_num,by omega,by omega,HO4,S3,G3⟩
        case measure=>simp [intOf];omega
       ·have hmz:¬ (a:Int)+(s:Int) < (n:Int):=by omega
        have G3:Hid (Seg n (T2 (2 * s) 0) d∧PermIn 0 n d0 d):=⟨seg_pass HO3.out HG.out.1 HA.out han (by omega),HG.out.2⟩
        have HO4:Hid (2 * s=20∨2 * s=40∨2 * s=80∨2 * s=160):=by have h1:=HO3.out;show _∨_;omega
        go_wp2
        go_roundw
        case rel=>exact ⟨2 * s,d,by go_num,by omega,by omega,HO4,HS,G3⟩
        case measure=>simp [intOf];omega
    ·have hsz:¬ (s:Int) < (n:Int):=by omega
     have HE:Hid (PermIn 0 n d0 d∧SortedIn tB 0 n d):=⟨HG.out.2,seg_sorted HO.out HG.out.1 (by omega)⟩
     go_wp2
     go_end0
     exact ⟨rfl,d,HE.out.1,HE.out.2,HS.out⟩
theorem sortStable_any (blk off cap:Nat) (d0:Array Cl) (w0:World) (R:RowK encC 3 w0 blk off d0) (hA:Asc 0 d0.size d0) (h100:d0.size≤100) :
  Calls Tryz.prog 109 #[.slice (some ⟨blk,off,none⟩) d0.size cap,.func (.func 110) #[] #[]] w0 fun e w'=>e=.returned (.tuple #[])∧∃ d',PermIn 0 d0.size d0 d'∧SortedIn tB 0 d0.size d'∧SWK encC 3 w0 blk off d' w':=by
 have HW:=Hd (stable_any blk off cap d0 w0 R hA h100)
 clear hA R
 go_enter Tryz.func109,Tryz.ntmps109
 go_wp2_with fail
 refine HW.out.mono ?_
 rintro e w1 ⟨rfl,h⟩
 have H:=Hd h
 clear h
 go_wp2
 go_end0
 exact ⟨rfl,H.out⟩
end Go.Proofs.YtggmjiddadjilaeGreat
