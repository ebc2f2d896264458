/-
  PROVED HERE: what the library's symMergeCmpFunc does with a row of claims: two sorted parts, side by side, become one.
-/
import Derived.Test.YtggmjiddadjilaeGreatC25
namespace Go.Proofs.YtggmjiddadjilaeGreat
open Go.RowKit Go.Shelf Go.Lib Go.Sort
set_option maxHeartbeats 8000000 in
set_option maxRecDepth 1000000 in
theorem sym_hi (k:Nat) (zE:∀ w,(Go.sizeOf 140).run Tryz.prog w=.ok k w) (enc:Cl→List Value) (g:Nat) (cb:Array Value) (blk off cap a m b:Nat) (d0 d:Array Cl) (w0 w:World)
  (eg:∀ args w,(callFunc g args).run Tryz.prog w=.ok (.enter g args) w) (hcmp:CmpLays Tryz.prog g cb enc k cfC blk off d0.size w0) (R:RowK enc k w0 blk off d0) (hs:d0.size=d.size) (S:SWK enc k w0 blk off d w) (M:MPre a m b d) (ham:a < m) (hmb:m < b) (hb:b≤d.size) (hsz:d.size < 4611686018427387904) (h0:m ≠ a+1) (h1:b ≠ m+1)
  (IH:∀ (a' m' b':Nat) (d':Array Cl) (W:World),b' - a' < b - a→d0.size=d'.size→SWK enc k w0 blk off d' W→MPre a' m' b' d'→a' < m'→m' < b'→b'≤d'.size→d'.size < 4611686018427387904 →
   Calls Tryz.prog 127 #[.slice (some ⟨blk,off,none⟩) d'.size cap,.int .i64 a',.int .i64 m',.int .i64 b',.func (.func g) #[] cb] W fun e w'=>e=.returned (.tuple #[])∧∃ d'',PermIn a' b' d' d''∧SortedIn tB a' b' d''∧SWK enc k w0 blk off d'' w') (mid:Nat) (hmd1:2 * mid≤a+b) (hmd2:a+b≤2 * mid+1) (hmm:mid < m) :
  Calls Tryz.prog 127 #[.slice (some ⟨blk,off,none⟩) d.size cap,.int .i64 a,.int .i64 m,.int .i64 b,.func (.func g) #[] cb] w fun e w'=>e=.returned (.tuple #[])∧∃ d',PermIn a b d d'∧SortedIn tB a b d'∧SWK enc k w0 blk off d' w':=by
 have mixed:Tryz.prog.follows Departure.mixedOrders=true:=by kernel_rfl
 have HC:Aside _:=hcmp
 have S0:Aside (SWK enc k w0 blk off d w):=S
 have HM:Hid (MPre a m b d):=M
 clear S hcmp M
 have HI:=Hd IH
 have HRo:=Hd (fun s e dk W h1 h2 h3 h4 h5 h6=>rot_k k zE enc g cb blk off cap s m e d0 dk w0 W R h1 h2 h3 h4 h5 h6)
 clear IH
 have t0:(((m:Int) - (a:Int)) == 1)=false:=by simp;omega
 have t1:(((b:Int) - (m:Int)) == 1)=false:=by simp;omega
 have em:((a:Int)+(b:Int)) / 2=(mid:Int):=by omega
 have hmz:(mid:Int) < (m:Int):=by omega
 have en:(mid:Int)+(m:Int) - (b:Int)=((mid+m - b:Nat):Int):=by omega
 go_enter Tryz.func127,Tryz.ntmps127
 go_wp2_with fail
 go_loopg [20,21] (b - a) (fun kx s20 s21 wr=>∃ s r:Nat,s20=.int .i64 s∧s21=.int .i64 r∧(mid+m - b)≤s∧s≤r∧r≤mid∧r - s≤kx∧Aside (SWK enc k w0 blk off d wr) ∧
  Hid (((mid+m - b) < s→tB d[mid+m - 1 - (s - 1)]! d[s - 1]! = false)∧(r < mid→tB d[mid+m - 1 - r]! d[r]! = true)))
 case atStart=>exact ⟨(mid+m - b),mid,by first | rfl | (rw [show (((mid+m - b):Nat):Int)=(mid:Int)+(m:Int) - (b:Int) by omega]),rfl,Nat.le_refl _,by omega,Nat.le_refl _,by omega,S0,fun h=>absurd h (Nat.lt_irrefl _),fun h=>absurd h (Nat.lt_irrefl _)⟩
 case round =>
  clear S0
  obtain ⟨s,r,rfl,rfl,h2,h3,h4,h5,S1,I⟩:=hrel
  by_cases hlt:s < r
  ·obtain ⟨mi,hmi⟩:∃ mi,mi=(s+r) / 2:=⟨_,rfl⟩
   have em2:((s:Int)+(r:Int)) / 2=(mi:Int):=by omega
   have m1:s≤mi:=by omega
   have m2:mi < r:=by omega
   clear hmi
   obtain ⟨pc,hpc⟩:∃ pc,pc=mid+m - 1 - mi:=⟨_,rfl⟩
   have epc:(mid:Int)+(m:Int) - 1 - (mi:Int)=(pc:Int):=by omega
   have pc1:m≤pc:=by omega
   have pc2:pc < b:=by omega
   have hcv:ltOf cfC d[pc]! d[mi]! = tB d[pc]! d[mi]! := lt_tB (HM.out.c mi pc (by omega) (by omega) pc1 pc2)
   by_cases hv:cfC d[pc]! d[mi]! < 0
   ·have I2:Hid (((mid+m - b) < s→tB d[mid+m - 1 - (s - 1)]! d[s - 1]! = false)∧(mi < mid→tB d[mid+m - 1 - mi]! d[mi]! = true)):=⟨I.out.1,fun _=>by rw [← hpc,← hcv];exact decide_eq_true hv⟩
    clear hcv hpc
    have ea:((pc:Int)).toNat=pc:=by omega
    have pa:(0:Int)≤(pc:Int):=by omega
    have ba:(pc:Int) < (d.size:Int):=by omega
    have ra:IntKind.i64.wrap ((pc:Int))=(pc:Int):=by rw [IntKind.wrap_i64];omega
    have ec:((mi:Int)).toNat=mi:=by omega
    have pcz:(0:Int)≤(mi:Int):=by omega
    have bc:(mi:Int) < (d.size:Int):=by omega
    have rc:IntKind.i64.wrap ((mi:Int))=(mi:Int):=by rw [IntKind.wrap_i64];omega
    have la:=S1.out.ld R (by omega) Tryz.prog (pc) (by omega)
    have lb:=S1.out.ld R (by omega) Tryz.prog (mi) (by omega)
    have hc:=S1.out.cmp HC.out (by omega) d[pc]! d[mi]!
    generalize d[pc]! = x at hc la hv
    generalize d[mi]! = y at hc lb hv
    have hd:decide (cfC x y < 0)=true:=by simpa using hv
    go_wp2_with fail
    go_quiet_grown (first | (go_at_fn g;refine Calls.grown_of (hc _ _)))
    have S2:Aside (SWK enc k w0 blk off d (grow (wr.drewN nq) osq)):=S1.out.grown nq osq
    clear la lb hc S1 hd hv
    generalize grow (wr.drewN nq) osq=w2 at S2 ⊢
    clear nq osq
    go_wp2
    go_roundg (mi - s)
    case measure=>omega
    case rel=>exact ⟨s,mi,rfl,rfl,h2,m1,by omega,Nat.le_refl _,S2,I2⟩
   ·have I2:Hid (((mid+m - b) < mi+1→tB d[mid+m - 1 - (mi+1 - 1)]! d[mi+1 - 1]! = false)∧(r < mid→tB d[mid+m - 1 - r]! d[r]! = true)):=⟨fun _=>by rw [Nat.add_sub_cancel,← hpc,← hcv];exact decide_eq_false hv,I.out.2⟩
    clear hcv hpc
    have ea:((pc:Int)).toNat=pc:=by omega
    have pa:(0:Int)≤(pc:Int):=by omega
    have ba:(pc:Int) < (d.size:Int):=by omega
    have ra:IntKind.i64.wrap ((pc:Int))=(pc:Int):=by rw [IntKind.wrap_i64];omega
    have ec:((mi:Int)).toNat=mi:=by omega
    have pcz:(0:Int)≤(mi:Int):=by omega
    have bc:(mi:Int) < (d.size:Int):=by omega
    have rc:IntKind.i64.wrap ((mi:Int))=(mi:Int):=by rw [IntKind.wrap_i64];omega
    have la:=S1.out.ld R (by omega) Tryz.prog (pc) (by omega)
    have lb:=S1.out.ld R (by omega) Tryz.prog (mi) (by omega)
    have hc:=S1.out.cmp HC.out (by omega) d[pc]! d[mi]!
    generalize d[pc]! = x at hc la hv
    generalize d[mi]! = y at hc lb hv
    have hd:decide (cfC x y < 0)=false:=by simpa using hv
    go_wp2_with fail
    go_quiet_grown (first | (go_at_fn g;refine Calls.grown_of (hc _ _)))
    have S2:Aside (SWK enc k w0 blk off d (grow (wr.drewN nq) osq)):=S1.out.grown nq osq
    clear la lb hc S1 hd hv
    generalize grow (wr.drewN nq) osq=w2 at S2 ⊢
    clear nq osq
    go_wp2
    go_roundg (r - (mi+1))
    case measure=>omega
    case rel=>exact ⟨mi+1,r,by go_num,rfl,by omega,by omega,h4,Nat.le_refl _,S2,I2⟩
  ·obtain rfl:r=s:=by omega
   clear hlt h5
   obtain ⟨e,he⟩:∃ e,e=mid+m - r:=⟨_,rfl⟩
   have ee:(mid:Int)+(m:Int) - (r:Int)=(e:Int):=by omega
   have he1:e+r≤mid+m:=by omega
   have he2:mid+m≤e+r:=by omega
   clear he
   have hLo:a < r→e < b→tB d[e]! d[r - 1]! = false:=fun q1 q2=>by
    have:=I.out.1 (by omega)
    rwa [show mid+m - 1 - (r - 1)=e by omega] at this
   have hHi:r < m→m < e→tB d[e - 1]! d[r]! = true:=fun q1 q2=>by
    have:=I.out.2 (by omega)
    rwa [show mid+m - 1 - r=e - 1 by omega] at this
   have HAR:=Hd (fun d1 (hr:RotD r m e d d1)=>after_rot (mid:=mid) HM.out hr (by omega) (by omega) (by omega) (by omega) (by omega) hLo hHi)
   clear hLo hHi I
   by_cases hq0:r < m∧m < e
   ·have x1:(r:Int) < (m:Int):=by omega
    have x2:(m:Int) < (e:Int):=by omega
    have HW:=HRo.out r e d wr hs S1.out hq0.1 hq0.2 (by omega) hsz
    go_wp2_with fail
    refine HW.mono ?_
    rintro e7 w7 ⟨rfl,d7,r7,S7'⟩
    have S7:=Hd S7'
    have z7:d7.size=d.size:=r7.size
    have HP:=Hd (permIn_mono _ _ r e a b (by omega) (by omega) (by omega) (r7.perm (by omega) (by omega) (by omega)))
    have HRD:=Hd r7
    clear HW S7' r7 S1
    obtain ⟨M1',M2',HA'⟩:=HAR.out d7 HRD.out
    have M1:=Hd M1'
    have M2:=Hd M2'
    have HA:=Hd HA'
    clear M1' M2' HA' HAR
    by_cases hq1:a < r∧r < mid
    ·have v1:(a:Int) < (r:Int):=by omega
     have v2:(r:Int) < (mid:Int):=by omega
     have HW:=HI.out a r mid d7 w7 (by omega) (by omega) S7.out M1.out hq1.1 hq1.2 (by omega) (by omega)
     rw [z7] at HW
     go_wp2_with fail
     refine HW.mono ?_
     rintro e8 w8 ⟨rfl,d8,p8,s8,S8'⟩
     have S8:=Hd S8'
     have z8:d8.size=d.size:=p8.1.trans z7
     clear HW S8'
     by_cases hq2:mid < e∧e < b
     ·have u1:(mid:Int) < (e:Int):=by omega
      have u2:(e:Int) < (b:Int):=by omega
      have HW:=HI.out mid e b d8 w8 (by omega) (by omega) S8.out (M2.out.kept (by omega) p8) (by omega) (by omega) (by omega) (by omega)
      rw [z8] at HW
      go_wp2_with fail
      all_goals
       refine HW.mono ?_
       rintro e9 w9 ⟨rfl,d9,p9,s9,S9'⟩
       have S9:=Hd S9'
       clear HW S9'
       have HD:Hid (PermIn a b d d9∧SortedIn tB a b d9):=by
        have:=merge_end (by omega) (by omega) (by omega) HA.out p8 s8 p9 s9
        exact ⟨permIn_trans _ _ _ a b HP.out this.1,this.2⟩
       go_wp2
       all_goals
        go_end0
        exact ⟨rfl,d9,HD.out.1,HD.out.2,S9.out⟩
     ·have u0:¬ ((mid:Int) < (e:Int)∧(e:Int) < (b:Int)):=by omega
      have s9:SortedIn tB mid b d8:=by
       have hk:=M2.out.kept (by omega) p8
       by_cases q:mid < e
       ·obtain rfl:e=b:=by omega
        exact hk.l
       ·obtain rfl:e=mid:=by omega
        exact hk.r
      by_cases u1:(mid:Int) < (e:Int)
      ·have u2:¬ (e:Int) < (b:Int):=by omega
       have HD:Hid (PermIn a b d d8∧SortedIn tB a b d8):=by
        have:=merge_end (by omega) (by omega) (by omega) HA.out p8 s8 (permIn_refl d8 mid b) s9
        exact ⟨permIn_trans _ _ _ a b HP.out this.1,this.2⟩
       go_wp2
       all_goals
        go_end0
        exact ⟨rfl,d8,HD.out.1,HD.out.2,S8.out⟩
      ·have HD:Hid (PermIn a b d d8∧SortedIn tB a b d8):=by
        have:=merge_end (by omega) (by omega) (by omega) HA.out p8 s8 (permIn_refl d8 mid b) s9
        exact ⟨permIn_trans _ _ _ a b HP.out this.1,this.2⟩
       go_wp2
       all_goals
        go_end0
        exact ⟨rfl,d8,HD.out.1,HD.out.2,S8.out⟩
    ·have s8:SortedIn tB a mid d7:=by
      by_cases q:a < r
      ·obtain rfl:r=mid:=by omega
       exact M1.out.l
      ·obtain rfl:r=a:=by omega
       exact M1.out.r
     by_cases v1:(a:Int) < (r:Int)
     ·have v2:¬ (r:Int) < (mid:Int):=by omega
      by_cases hq2:mid < e∧e < b
      ·have u1:(mid:Int) < (e:Int):=by omega
       have u2:(e:Int) < (b:Int):=by omega
       have HW:=HI.out mid e b d7 w7 (by omega) (by omega) S7.out (M2.out.kept (by omega) (permIn_refl d7 a mid)) (by omega) (by omega) (by omega) (by omega)
       rw [z7] at HW
       go_wp2_with fail
       all_goals
        refine HW.mono ?_
        rintro e9 w9 ⟨rfl,d9,p9,s9,S9'⟩
        have S9:=Hd S9'
        clear HW S9'
        have HD:Hid (PermIn a b d d9∧SortedIn tB a b d9):=by
         have:=merge_end (by omega) (by omega) (by omega) HA.out (permIn_refl d7 a mid) s8 p9 s9
         exact ⟨permIn_trans _ _ _ a b HP.out this.1,this.2⟩
        go_wp2
        all_goals
         go_end0
         exact ⟨rfl,d9,HD.out.1,HD.out.2,S9.out⟩
      ·have u0:¬ ((mid:Int) < (e:Int)∧(e:Int) < (b:Int)):=by omega
       have s9:SortedIn tB mid b d7:=by
        have hk:=M2.out.kept (by omega) (permIn_refl d7 a mid)
        by_cases q:mid < e
        ·obtain rfl:e=b:=by omega
         exact hk.l
        ·obtain rfl:e=mid:=by omega
         exact hk.r
       by_cases u1:(mid:Int) < (e:Int)
       ·have u2:¬ (e:Int) < (b:Int):=by omega
        have HD:Hid (PermIn a b d d7∧SortedIn tB a b d7):=by
         have:=merge_end (by omega) (by omega) (by omega) HA.out (permIn_refl d7 a mid) s8 (permIn_refl d7 mid b) s9
         exact ⟨permIn_trans _ _ _ a b HP.out this.1,this.2⟩
        go_wp2
        all_goals
         go_end0
         exact ⟨rfl,d7,HD.out.1,HD.out.2,S7.out⟩
       ·have HD:Hid (PermIn a b d d7∧SortedIn tB a b d7):=by
         have:=merge_end (by omega) (by omega) (by omega) HA.out (permIn_refl d7 a mid) s8 (permIn_refl d7 mid b) s9
         exact ⟨permIn_trans _ _ _ a b HP.out this.1,this.2⟩
        go_wp2
        all_goals
         go_end0
         exact ⟨rfl,d7,HD.out.1,HD.out.2,S7.out⟩
     ·by_cases hq2:mid < e∧e < b
      ·have u1:(mid:Int) < (e:Int):=by omega
       have u2:(e:Int) < (b:Int):=by omega
       have HW:=HI.out mid e b d7 w7 (by omega) (by omega) S7.out (M2.out.kept (by omega) (permIn_refl d7 a mid)) (by omega) (by omega) (by omega) (by omega)
       rw [z7] at HW
       go_wp2_with fail
       all_goals
        refine HW.mono ?_
        rintro e9 w9 ⟨rfl,d9,p9,s9,S9'⟩
        have S9:=Hd S9'
        clear HW S9'
        have HD:Hid (PermIn a b d d9∧SortedIn tB a b d9):=by
         have:=merge_end (by omega) (by omega) (by omega) HA.out (permIn_refl d7 a mid) s8 p9 s9
         exact ⟨permIn_trans _ _ _ a b HP.out this.1,this.2⟩
        go_wp2
        all_goals
         go_end0
         exact ⟨rfl,d9,HD.out.1,HD.out.2,S9.out⟩
      ·have u0:¬ ((mid:Int) < (e:Int)∧(e:Int) < (b:Int)):=by omega
       have s9:SortedIn tB mid b d7:=by
        have hk:=M2.out.kept (by omega) (permIn_refl d7 a mid)
        by_cases q:mid < e
        ·obtain rfl:e=b:=by omega
         exact hk.l
        ·obtain rfl:e=mid:=by omega
         exact hk.r
       by_cases u1:(mid:Int) < (e:Int)
       ·have u2:¬ (e:Int) < (b:Int):=by omega
        have HD:Hid (PermIn a b d d7∧SortedIn tB a b d7):=by
         have:=merge_end (by omega) (by omega) (by omega) HA.out (permIn_refl d7 a mid) s8 (permIn_refl d7 mid b) s9
         exact ⟨permIn_trans _ _ _ a b HP.out this.1,this.2⟩
        go_wp2
        all_goals
         go_end0
         exact ⟨rfl,d7,HD.out.1,HD.out.2,S7.out⟩
       ·have HD:Hid (PermIn a b d d7∧SortedIn tB a b d7):=by
         have:=merge_end (by omega) (by omega) (by omega) HA.out (permIn_refl d7 a mid) s8 (permIn_refl d7 mid b) s9
         exact ⟨permIn_trans _ _ _ a b HP.out this.1,this.2⟩
        go_wp2
        all_goals
         go_end0
         exact ⟨rfl,d7,HD.out.1,HD.out.2,S7.out⟩
   ·have HRD:Hid (RotD r m e d d):=by
     show RotD r m e d d
     by_cases q:r < m
     ·obtain rfl:e=m:=by omega
      exact RotD.right_none _ _ _
     ·obtain rfl:r=m:=by omega
      exact RotD.left_none _ _ _
    have HP:=Hd (permIn_refl d a b)
    by_cases x1:(r:Int) < (m:Int)
    ·have x2:¬ (m:Int) < (e:Int):=by omega
     obtain ⟨M1',M2',HA'⟩:=HAR.out d HRD.out
     have M1:=Hd M1'
     have M2:=Hd M2'
     have HA:=Hd HA'
     clear M1' M2' HA' HAR
     by_cases hq1:a < r∧r < mid
     ·have v1:(a:Int) < (r:Int):=by omega
      have v2:(r:Int) < (mid:Int):=by omega
      have HW:=HI.out a r mid d wr (by omega) (by omega) S1.out M1.out hq1.1 hq1.2 (by omega) (by omega)
      skip
      go_wp2_with fail
      refine HW.mono ?_
      rintro e8 w8 ⟨rfl,d8,p8,s8,S8'⟩
      have S8:=Hd S8'
      have z8:d8.size=d.size:=p8.1
      clear HW S8'
      by_cases hq2:mid < e∧e < b
      ·have u1:(mid:Int) < (e:Int):=by omega
       have u2:(e:Int) < (b:Int):=by omega
       have HW:=HI.out mid e b d8 w8 (by omega) (by omega) S8.out (M2.out.kept (by omega) p8) (by omega) (by omega) (by omega) (by omega)
       rw [z8] at HW
       go_wp2_with fail
       all_goals
        refine HW.mono ?_
        rintro e9 w9 ⟨rfl,d9,p9,s9,S9'⟩
        have S9:=Hd S9'
        clear HW S9'
        have HD:Hid (PermIn a b d d9∧SortedIn tB a b d9):=by
         have:=merge_end (by omega) (by omega) (by omega) HA.out p8 s8 p9 s9
         exact ⟨permIn_trans _ _ _ a b HP.out this.1,this.2⟩
        go_wp2
        all_goals
         go_end0
         exact ⟨rfl,d9,HD.out.1,HD.out.2,S9.out⟩
      ·have u0:¬ ((mid:Int) < (e:Int)∧(e:Int) < (b:Int)):=by omega
       have s9:SortedIn tB mid b d8:=by
        have hk:=M2.out.kept (by omega) p8
        by_cases q:mid < e
        ·obtain rfl:e=b:=by omega
         exact hk.l
        ·obtain rfl:e=mid:=by omega
         exact hk.r
       by_cases u1:(mid:Int) < (e:Int)
       ·have u2:¬ (e:Int) < (b:Int):=by omega
        have HD:Hid (PermIn a b d d8∧SortedIn tB a b d8):=by
         have:=merge_end (by omega) (by omega) (by omega) HA.out p8 s8 (permIn_refl d8 mid b) s9
         exact ⟨permIn_trans _ _ _ a b HP.out this.1,this.2⟩
        go_wp2
        all_goals
         go_end0
         exact ⟨rfl,d8,HD.out.1,HD.out.2,S8.out⟩
       ·have HD:Hid (PermIn a b d d8∧SortedIn tB a b d8):=by
         have:=merge_end (by omega) (by omega) (by omega) HA.out p8 s8 (permIn_refl d8 mid b) s9
         exact ⟨permIn_trans _ _ _ a b HP.out this.1,this.2⟩
        go_wp2
        all_goals
         go_end0
         exact ⟨rfl,d8,HD.out.1,HD.out.2,S8.out⟩
     ·have s8:SortedIn tB a mid d:=by
       by_cases q:a < r
       ·obtain rfl:r=mid:=by omega
        exact M1.out.l
       ·obtain rfl:r=a:=by omega
        exact M1.out.r
      by_cases v1:(a:Int) < (r:Int)
      ·have v2:¬ (r:Int) < (mid:Int):=by omega
       by_cases hq2:mid < e∧e < b
       ·have u1:(mid:Int) < (e:Int):=by omega
        have u2:(e:Int) < (b:Int):=by omega
        have HW:=HI.out mid e b d wr (by omega) (by omega) S1.out (M2.out.kept (by omega) (permIn_refl d a mid)) (by omega) (by omega) (by omega) (by omega)
        skip
        go_wp2_with fail
        all_goals
         refine HW.mono ?_
         rintro e9 w9 ⟨rfl,d9,p9,s9,S9'⟩
         have S9:=Hd S9'
         clear HW S9'
         have HD:Hid (PermIn a b d d9∧SortedIn tB a b d9):=by
          have:=merge_end (by omega) (by omega) (by omega) HA.out (permIn_refl d a mid) s8 p9 s9
          exact ⟨permIn_trans _ _ _ a b HP.out this.1,this.2⟩
         go_wp2
         all_goals
          go_end0
          exact ⟨rfl,d9,HD.out.1,HD.out.2,S9.out⟩
       ·have u0:¬ ((mid:Int) < (e:Int)∧(e:Int) < (b:Int)):=by omega
        have s9:SortedIn tB mid b d:=by
         have hk:=M2.out.kept (by omega) (permIn_refl d a mid)
         by_cases q:mid < e
         ·obtain rfl:e=b:=by omega
          exact hk.l
         ·obtain rfl:e=mid:=by omega
          exact hk.r
        by_cases u1:(mid:Int) < (e:Int)
        ·have u2:¬ (e:Int) < (b:Int):=by omega
         have HD:Hid (PermIn a b d d∧SortedIn tB a b d):=by
          have:=merge_end (by omega) (by omega) (by omega) HA.out (permIn_refl d a mid) s8 (permIn_refl d mid b) s9
          exact ⟨permIn_trans _ _ _ a b HP.out this.1,this.2⟩
         go_wp2
         all_goals
          go_end0
          exact ⟨rfl,d,HD.out.1,HD.out.2,S1.out⟩
        ·have HD:Hid (PermIn a b d d∧SortedIn tB a b d):=by
          have:=merge_end (by omega) (by omega) (by omega) HA.out (permIn_refl d a mid) s8 (permIn_refl d mid b) s9
          exact ⟨permIn_trans _ _ _ a b HP.out this.1,this.2⟩
         go_wp2
         all_goals
          go_end0
          exact ⟨rfl,d,HD.out.1,HD.out.2,S1.out⟩
      ·by_cases hq2:mid < e∧e < b
       ·have u1:(mid:Int) < (e:Int):=by omega
        have u2:(e:Int) < (b:Int):=by omega
        have HW:=HI.out mid e b d wr (by omega) (by omega) S1.out (M2.out.kept (by omega) (permIn_refl d a mid)) (by omega) (by omega) (by omega) (by omega)
        skip
        go_wp2_with fail
        all_goals
         refine HW.mono ?_
         rintro e9 w9 ⟨rfl,d9,p9,s9,S9'⟩
         have S9:=Hd S9'
         clear HW S9'
         have HD:Hid (PermIn a b d d9∧SortedIn tB a b d9):=by
          have:=merge_end (by omega) (by omega) (by omega) HA.out (permIn_refl d a mid) s8 p9 s9
          exact ⟨permIn_trans _ _ _ a b HP.out this.1,this.2⟩
         go_wp2
         all_goals
          go_end0
          exact ⟨rfl,d9,HD.out.1,HD.out.2,S9.out⟩
       ·have u0:¬ ((mid:Int) < (e:Int)∧(e:Int) < (b:Int)):=by omega
        have s9:SortedIn tB mid b d:=by
         have hk:=M2.out.kept (by omega) (permIn_refl d a mid)
         by_cases q:mid < e
         ·obtain rfl:e=b:=by omega
          exact hk.l
         ·obtain rfl:e=mid:=by omega
          exact hk.r
        by_cases u1:(mid:Int) < (e:Int)
        ·have u2:¬ (e:Int) < (b:Int):=by omega
         have HD:Hid (PermIn a b d d∧SortedIn tB a b d):=by
          have:=merge_end (by omega) (by omega) (by omega) HA.out (permIn_refl d a mid) s8 (permIn_refl d mid b) s9
          exact ⟨permIn_trans _ _ _ a b HP.out this.1,this.2⟩
         go_wp2
         all_goals
          go_end0
          exact ⟨rfl,d,HD.out.1,HD.out.2,S1.out⟩
        ·have HD:Hid (PermIn a b d d∧SortedIn tB a b d):=by
          have:=merge_end (by omega) (by omega) (by omega) HA.out (permIn_refl d a mid) s8 (permIn_refl d mid b) s9
          exact ⟨permIn_trans _ _ _ a b HP.out this.1,this.2⟩
         go_wp2
         all_goals
          go_end0
          exact ⟨rfl,d,HD.out.1,HD.out.2,S1.out⟩
    ·obtain ⟨M1',M2',HA'⟩:=HAR.out d HRD.out
     have M1:=Hd M1'
     have M2:=Hd M2'
     have HA:=Hd HA'
     clear M1' M2' HA' HAR
     by_cases hq1:a < r∧r < mid
     ·have v1:(a:Int) < (r:Int):=by omega
      have v2:(r:Int) < (mid:Int):=by omega
      have HW:=HI.out a r mid d wr (by omega) (by omega) S1.out M1.out hq1.1 hq1.2 (by omega) (by omega)
      skip
      go_wp2_with fail
      refine HW.mono ?_
      rintro e8 w8 ⟨rfl,d8,p8,s8,S8'⟩
      have S8:=Hd S8'
      have z8:d8.size=d.size:=p8.1
      clear HW S8'
      by_cases hq2:mid < e∧e < b
      ·have u1:(mid:Int) < (e:Int):=by omega
       have u2:(e:Int) < (b:Int):=by omega
       have HW:=HI.out mid e b d8 w8 (by omega) (by omega) S8.out (M2.out.kept (by omega) p8) (by omega) (by omega) (by omega) (by omega)
       rw [z8] at HW
       go_wp2_with fail
       all_goals
        refine HW.mono ?_
        rintro e9 w9 ⟨rfl,d9,p9,s9,S9'⟩
        have S9:=Hd S9'
        clear HW S9'
        have HD:Hid (PermIn a b d d9∧SortedIn tB a b d9):=by
         have:=merge_end (by omega) (by omega) (by omega) HA.out p8 s8 p9 s9
         exact ⟨permIn_trans _ _ _ a b HP.out this.1,this.2⟩
        go_wp2
        all_goals
         go_end0
         exact ⟨rfl,d9,HD.out.1,HD.out.2,S9.out⟩
      ·have u0:¬ ((mid:Int) < (e:Int)∧(e:Int) < (b:Int)):=by omega
       have s9:SortedIn tB mid b d8:=by
        have hk:=M2.out.kept (by omega) p8
        by_cases q:mid < e
        ·obtain rfl:e=b:=by omega
         exact hk.l
        ·obtain rfl:e=mid:=by omega
         exact hk.r
       by_cases u1:(mid:Int) < (e:Int)
       ·have u2:¬ (e:Int) < (b:Int):=by omega
        have HD:Hid (PermIn a b d d8∧SortedIn tB a b d8):=by
         have:=merge_end (by omega) (by omega) (by omega) HA.out p8 s8 (permIn_refl d8 mid b) s9
         exact ⟨permIn_trans _ _ _ a b HP.out this.1,this.2⟩
        go_wp2
        all_goals
         go_end0
         exact ⟨rfl,d8,HD.out.1,HD.out.2,S8.out⟩
       ·have HD:Hid (PermIn a b d d8∧SortedIn tB a b d8):=by
         have:=merge_end (by omega) (by omega) (by omega) HA.out p8 s8 (permIn_refl d8 mid b) s9
         exact ⟨permIn_trans _ _ _ a b HP.out this.1,this.2⟩
        go_wp2
        all_goals
         go_end0
         exact ⟨rfl,d8,HD.out.1,HD.out.2,S8.out⟩
     ·have s8:SortedIn tB a mid d:=by
       by_cases q:a < r
       ·obtain rfl:r=mid:=by omega
        exact M1.out.l
       ·obtain rfl:r=a:=by omega
        exact M1.out.r
      by_cases v1:(a:Int) < (r:Int)
      ·have v2:¬ (r:Int) < (mid:Int):=by omega
       by_cases hq2:mid < e∧e < b
       ·have u1:(mid:Int) < (e:Int):=by omega
        have u2:(e:Int) < (b:Int):=by omega
        have HW:=HI.out mid e b d wr (by omega) (by omega) S1.out (M2.out.kept (by omega) (permIn_refl d a mid)) (by omega) (by omega) (by omega) (by omega)
        skip
        go_wp2_with fail
        all_goals
         refine HW.mono ?_
         rintro e9 w9 ⟨rfl,d9,p9,s9,S9'⟩
         have S9:=Hd S9'
         clear HW S9'
         have HD:Hid (PermIn a b d d9∧SortedIn tB a b d9):=by
          have:=merge_end (by omega) (by omega) (by omega) HA.out (permIn_refl d a mid) s8 p9 s9
          exact ⟨permIn_trans _ _ _ a b HP.out this.1,this.2⟩
         go_wp2
         all_goals
          go_end0
          exact ⟨rfl,d9,HD.out.1,HD.out.2,S9.out⟩
       ·have u0:¬ ((mid:Int) < (e:Int)∧(e:Int) < (b:Int)):=by omega
        have s9:SortedIn tB mid b d:=by
         have hk:=M2.out.kept (by omega) (permIn_refl d a mid)
         by_cases q:mid < e
         ·obtain rfl:e=b:=by omega
          exact hk.l
         ·obtain rfl:e=mid:=by omega
          exact hk.r
        by_cases u1:(mid:Int) < (e:Int)
        ·have u2:¬ (e:Int) < (b:Int):=by omega
         have HD:Hid (PermIn a b d d∧SortedIn tB a b d):=by
          have:=merge_end (by omega) (by omega) (by omega) HA.out (permIn_refl d a mid) s8 (permIn_refl d mid b) s9
          exact ⟨permIn_trans _ _ _ a b HP.out this.1,this.2⟩
         go_wp2
         all_goals
          go_end0
          exact ⟨rfl,d,HD.out.1,HD.out.2,S1.out⟩
        ·have HD:Hid (PermIn a b d d∧SortedIn tB a b d):=by
          have:=merge_end (by omega) (by omega) (by omega) HA.out (permIn_refl d a mid) s8 (permIn_refl d mid b) s9
          exact ⟨permIn_trans _ _ _ a b HP.out this.1,this.2⟩
         go_wp2
         all_goals
          go_end0
          exact ⟨rfl,d,HD.out.1,HD.out.2,S1.out⟩
      ·by_cases hq2:mid < e∧e < b
       ·have u1:(mid:Int) < (e:Int):=by omega
        have u2:(e:Int) < (b:Int):=by omega
        have HW:=HI.out mid e b d wr (by omega) (by omega) S1.out (M2.out.kept (by omega) (permIn_refl d a mid)) (by omega) (by omega) (by omega) (by omega)
        skip
        go_wp2_with fail
        all_goals
         refine HW.mono ?_
         rintro e9 w9 ⟨rfl,d9,p9,s9,S9'⟩
         have S9:=Hd S9'
         clear HW S9'
         have HD:Hid (PermIn a b d d9∧SortedIn tB a b d9):=by
          have:=merge_end (by omega) (by omega) (by omega) HA.out (permIn_refl d a mid) s8 p9 s9
          exact ⟨permIn_trans _ _ _ a b HP.out this.1,this.2⟩
         go_wp2
         all_goals
          go_end0
          exact ⟨rfl,d9,HD.out.1,HD.out.2,S9.out⟩
       ·have u0:¬ ((mid:Int) < (e:Int)∧(e:Int) < (b:Int)):=by omega
        have s9:SortedIn tB mid b d:=by
         have hk:=M2.out.kept (by omega) (permIn_refl d a mid)
         by_cases q:mid < e
         ·obtain rfl:e=b:=by omega
          exact hk.l
         ·obtain rfl:e=mid:=by omega
          exact hk.r
        by_cases u1:(mid:Int) < (e:Int)
        ·have u2:¬ (e:Int) < (b:Int):=by omega
         have HD:Hid (PermIn a b d d∧SortedIn tB a b d):=by
          have:=merge_end (by omega) (by omega) (by omega) HA.out (permIn_refl d a mid) s8 (permIn_refl d mid b) s9
          exact ⟨permIn_trans _ _ _ a b HP.out this.1,this.2⟩
         go_wp2
         all_goals
          go_end0
          exact ⟨rfl,d,HD.out.1,HD.out.2,S1.out⟩
        ·have HD:Hid (PermIn a b d d∧SortedIn tB a b d):=by
          have:=merge_end (by omega) (by omega) (by omega) HA.out (permIn_refl d a mid) s8 (permIn_refl d mid b) s9
          exact ⟨permIn_trans _ _ _ a b HP.out this.1,this.2⟩
         go_wp2
         all_goals
          go_end0
          exact ⟨rfl,d,HD.out.1,HD.out.2,S1.out⟩
end Go.Proofs.YtggmjiddadjilaeGreat
