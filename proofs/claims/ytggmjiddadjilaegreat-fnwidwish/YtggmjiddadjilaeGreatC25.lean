/-
  PROVED HERE: what the library's swapRangeCmpFunc does with a row of claims. Also: 4 more texts of the same proof.
-/
import Derived.Test.YtggmjiddadjilaeGreatC24
import Derived.Deep.LoopGhost
import Derived.Sort.WalkB2
import Derived.Sort.WalkB12
namespace Go.Proofs.YtggmjiddadjilaeGreat
open Go.RowKit Go.Shelf Go.Lib Go.Sort
set_option maxHeartbeats 4000000 in
set_option maxRecDepth 1000000 in
theorem swapR_k (k:Nat) (zE:∀ w,(Go.sizeOf 140).run Tryz.prog w=.ok k w) (enc:Cl→List Value) (fv:Value) (blk off cap a b n:Nat) (d0 d:Array Cl) (w0 w:World)
  (R:RowK enc k w0 blk off d0) (hs:d0.size=d.size) (S:SWK enc k w0 blk off d w) (hab:a+n≤b) (hb:b+n≤d.size) (hsz:d.size < 4611686018427387904) :
  Calls Tryz.prog 132 #[.slice (some ⟨blk,off,none⟩) d.size cap,.int .i64 a,.int .i64 b,.int .i64 n,fv] w fun e w'=>e=.returned (.tuple #[])∧∃ d',SwR a b n d d'∧SWK enc k w0 blk off d' w':=by
 have mixed:Tryz.prog.follows Departure.mixedOrders=true:=by kernel_rfl
 have S0:Aside (SWK enc k w0 blk off d w):=S
 clear S
 go_enter Tryz.func132,Tryz.ntmps132
 go_wp2_with fail
 go_loopg [10] n (fun kx s10 wr=>∃ (i:Nat) (dk:Array Cl),s10=.int .i64 i∧i≤n∧n - i≤kx∧dk.size=d.size∧Aside (SWK enc k w0 blk off dk wr)∧Hid (SwR a b i d dk))
 case atStart=>exact ⟨0,d,rfl,Nat.zero_le _,Nat.le_refl _,rfl,S0,SwR.zero a b d⟩
 case round =>
  clear S0
  obtain ⟨i,dk,rfl,hin,hkx,hds,S1,HE⟩:=hrel
  by_cases hlt:i < n
  ·have hltz:(i:Int) < (n:Int):=by omega
   have ea:((a:Int)+(i:Int)).toNat=a+i:=by omega
   have pa:(0:Int)≤(a:Int)+(i:Int):=by omega
   have ba:(a:Int)+(i:Int) < (d.size:Int):=by omega
   have ra:IntKind.i64.wrap ((a:Int)+(i:Int))=(a:Int)+(i:Int):=by rw [IntKind.wrap_i64];omega
   have ec:((b:Int)+(i:Int)).toNat=b+i:=by omega
   have pc:(0:Int)≤(b:Int)+(i:Int):=by omega
   have bc:(b:Int)+(i:Int) < (d.size:Int):=by omega
   have rc:IntKind.i64.wrap ((b:Int)+(i:Int))=(b:Int)+(i:Int):=by rw [IntKind.wrap_i64];omega
   have S2:Aside (SWK enc k w0 blk off (swp dk (a+i) (b+i)) ((wr.drew.setCells blk (off+(a+i) * k) (enc dk[b+i]!)).setCells blk (off+(b+i) * k) (enc dk[a+i]!))):=S1.out.swapped R (a+i) (b+i) (by omega) (by omega)
   have la:=S1.out.ld1 R (by omega) Tryz.prog (a+i) (by omega)
   have lb:=S1.out.ld1 R (by omega) Tryz.prog (b+i) (by omega)
   have sa:=S1.out.st1 R (by omega) Tryz.prog (a+i) (by omega) dk[b+i]!
   have sb:=S1.out.st2 R (by omega) Tryz.prog (a+i) (b+i) (by omega) (by omega) dk[b+i]! dk[a+i]!
   have na:(enc dk[a+i]!).length=k:=R.hk _
   have nb:(enc dk[b+i]!).length=k:=R.hk _
   have HN:=Hd (HE.out.next (show a+i < b by omega) (by omega))
   generalize enc dk[a+i]! = cI at S2 la sb na
   generalize enc dk[b+i]! = cJ at S2 lb sa sb nb
   clear S1
   go_wp2_with fail
   go_big_region_o
   clear la lb sa sb
   generalize (wr.drew.setCells blk (off+(a+i) * k) cJ).setCells blk (off+(b+i) * k) cI=w2 at S2 ⊢
   go_wp2
   go_roundg (n - (i+1))
   case measure=>omega
   case rel=>exact ⟨i+1,swp dk (a+i) (b+i),by go_num,by omega,Nat.le_refl _,by rw [size_swp];exact hds,S2,HN⟩
  ·obtain rfl:i=n:=by omega
   go_wp2
   go_end0
   exact ⟨rfl,dk,HE.out,S1.out⟩
set_option maxHeartbeats 4000000 in
set_option maxRecDepth 1000000 in
theorem rot_k (k:Nat) (zE:∀ w,(Go.sizeOf 140).run Tryz.prog w=.ok k w) (enc:Cl→List Value) (g:Nat) (cb:Array Value) (blk off cap a m b:Nat) (d0 d:Array Cl) (w0 w:World)
  (R:RowK enc k w0 blk off d0) (hs:d0.size=d.size) (S:SWK enc k w0 blk off d w) (ham:a < m) (hmb:m < b) (hb:b≤d.size) (hsz:d.size < 4611686018427387904) :
  Calls Tryz.prog 131 #[.slice (some ⟨blk,off,none⟩) d.size cap,.int .i64 a,.int .i64 m,.int .i64 b,.func (.func g) #[] cb] w fun e w'=>e=.returned (.tuple #[])∧∃ d',RotD a m b d d'∧SWK enc k w0 blk off d' w':=by
 have HS:Hid (SWK enc k w0 blk off d w):=S
 have HC:=Hd (fun a b n dk W h1 h2 h3 h4=>swapR_k k zE enc (.func (.func g) #[] cb) blk off cap a b n d0 dk w0 W R h1 h2 h3 h4)
 clear S zE
 have e0:((m - a:Nat):Int)=(m:Int) - (a:Int):=by omega
 have e1:((b - m:Nat):Int)=(b:Int) - (m:Int):=by omega
 go_enter Tryz.func131,Tryz.ntmps131
 go_wp2_with fail
 go_loopw [10,11] (fun s10 s11 W=>∃ (i j:Nat) (dk:Array Cl),s10=.int .i64 i∧s11=.int .i64 j∧0 < i∧i≤m - a∧0 < j∧j≤b - m∧dk.size=d.size∧Hid (SWK enc k w0 blk off dk W)∧Hid (∀ f,RotD (m - i) m (m+j) dk f→RotD a m b d f)) (fun s10 s11 _=>(intOf s10).toNat+(intOf s11).toNat)
 case atStart=>exact ⟨m - a,b - m,d,by rw [e0],by rw [e1],by omega,Nat.le_refl _,by omega,Nat.le_refl _,rfl,HS,fun f hf=>by rw [show m - (m - a)=a by omega,show m+(b - m)=b by omega] at hf;exact hf⟩
 case round =>
  obtain ⟨i,j,dk,rfl,rfl,hi0,hi,hj0,hj,hds,HK,HF⟩:=hrel
  by_cases hij:i=j
  ·subst hij
   have hne:((i:Int) != (i:Int))=false:=by simp
   have HW:=HC.out (m - i) m i dk wr (by omega) HK.out (by omega) (by omega) (by omega)
   have e2:((m - i:Nat):Int)=(m:Int) - (i:Int):=by omega
   rw [e2,hds] at HW
   go_wp2_with fail
   refine HW.mono ?_
   rintro e w2 ⟨rfl,d2,h2,S2⟩
   have HE:=Hd (HF.out d2 (RotD.even (by omega) h2))
   have HS2:=Hd S2
   clear h2 S2
   go_wp2
   go_end0
   exact ⟨rfl,d2,HE.out,HS2.out⟩
  ·have hne:((i:Int) != (j:Int))=true:=by simp;omega
   by_cases hlt:j < i
   ·have hltz:(j:Int) < (i:Int):=by omega
    have HW:=HC.out (m - i) m j dk wr (by omega) HK.out (by omega) (by omega) (by omega)
    have e2:((m - i:Nat):Int)=(m:Int) - (i:Int):=by omega
    rw [e2,hds] at HW
    go_wp2_with fail
    refine HW.mono ?_
    rintro e w2 ⟨rfl,d2,h2,S2⟩
    have hd2:=h2.size
    have HE:Hid (∀ f,RotD (m - (i - j)) m (m+j) d2 f→RotD a m b d f):=fun f hf=>HF.out f (RotD.more hlt (by omega) h2 (by rw [show m - i+j=m - (i - j) by omega];exact hf))
    have HS2:=Hd S2
    clear h2 S2
    go_wp2
    go_roundw
    case rel=>exact ⟨i - j,j,d2,by rw [show ((i - j:Nat):Int)=(i:Int) - (j:Int) by omega],rfl,by omega,by omega,hj0,hj,by omega,HS2,HE⟩
    case measure=>simp [intOf];omega
   ·have hltz:¬ (j:Int) < (i:Int):=by omega
    have HW:=HC.out (m - i) (m+j - i) i dk wr (by omega) HK.out (by omega) (by omega) (by omega)
    have e2:((m - i:Nat):Int)=(m:Int) - (i:Int):=by omega
    have e3:((m+j - i:Nat):Int)=(m:Int)+(j:Int) - (i:Int):=by omega
    rw [e2,e3,hds] at HW
    go_wp2_with fail
    refine HW.mono ?_
    rintro e w2 ⟨rfl,d2,h2,S2⟩
    have hd2:=h2.size
    have HE:Hid (∀ f,RotD (m - i) m (m+(j - i)) d2 f→RotD a m b d f):=fun f hf=>HF.out f (RotD.less (by omega) (by omega) h2 (by rw [show m+j - i=m+(j - i) by omega];exact hf))
    have HS2:=Hd S2
    clear h2 S2
    go_wp2
    go_roundw
    case rel=>exact ⟨i,j - i,d2,rfl,by rw [show ((j - i:Nat):Int)=(j:Int) - (i:Int) by omega],hi0,hi,by omega,by omega,by omega,HS2,HE⟩
    case measure=>simp [intOf];omega
end Go.Proofs.YtggmjiddadjilaeGreat
namespace Go.Proofs.YtggmjiddadjilaeGreat
open Go.Sort
theorem after_rot {a m b s e mid:Nat} {d d1:Array Cl} (h:MPre a m b d) (hr:RotD s m e d d1) (ha:a≤s) (hs:s≤m) (hm:m≤e) (he:e≤b) (hmid:s+e=mid+m)
  (hLo:a < s→e < b→tB d[e]! d[s - 1]! = false) (hHi:s < m→m < e→tB d[e - 1]! d[s]! = true) :
  MPre a s mid d1∧MPre mid e b d1∧∀ x y,a≤x→x < mid→mid≤y→y < b→tB d1[y]! d1[x]! = false:=by
 have p1:∀ t,t < s→d1[t]! = d[t]! := fun t q=>hr.rest t (by omega)
 have p2:∀ t,s≤t→t < mid→d1[t]! = d[t+(m - s)]! := fun t q1 q2=>hr.low t q1 (by omega)
 have p3:∀ t,mid≤t→t < e→d1[t]! = d[t - (e - m)]! := fun t q1 q2=>hr.high t (by omega) q2
 have p4:∀ t,e≤t→d1[t]! = d[t]! := fun t q=>hr.rest t (by omega)
 refine ⟨⟨?_,?_,?_⟩,⟨?_,?_,?_⟩,?_⟩
 ·intro x y g1 g2 g3
  rw [p1 x (by omega),p1 y g3]
  exact h.l x y g1 g2 (by omega)
 ·intro x y g1 g2 g3
  rw [p2 x g1 (by omega),p2 y (by omega) g3]
  exact h.r _ _ (by omega) (by omega) (by omega)
 ·intro x y g1 g2 g3 g4
  rw [p1 x g2,p2 y g3 g4]
  exact h.c _ _ g1 (by omega) (by omega) (by omega)
 ·intro x y g1 g2 g3
  rw [p3 x g1 (by omega),p3 y (by omega) g3]
  exact h.l _ _ (by omega) (by omega) (by omega)
 ·intro x y g1 g2 g3
  rw [p4 x g1,p4 y (by omega)]
  exact h.r _ _ (by omega) g2 g3
 ·intro x y g1 g2 g3 g4
  rw [p3 x g1 g2,p4 y g3]
  exact h.c _ _ (by omega) (by omega) (by omega) g4
 ·intro x y g1 g2 g3 g4
  by_cases e1:x < s
  ·rw [p1 x e1]
   by_cases e2:y < e
   ·rw [p3 y g3 e2]
    exact h.l _ _ g1 (by omega) (by omega)
   ·rw [p4 y (by omega)]
    exact swoT.ntrans _ d[e]! _ (le_of h.r hm (by omega) g4) (swoT.ntrans _ d[s - 1]! _ (hLo (by omega) (by omega)) (le_of h.l g1 (by omega) (by omega)))
  ·rw [p2 x (by omega) g2]
   by_cases e2:y < e
   ·rw [p3 y g3 e2]
    have t1:=hHi (by omega) (by omega)
    have t2:=le_of h.r (show m≤x+(m - s) by omega) (show x+(m - s)≤e - 1 by omega) (by omega)
    have t3:=le_of h.l (show a≤s by omega) (show s≤y - (e - m) by omega) (by omega)
    cases e3:tB d[y - (e - m)]! d[x+(m - s)]!
    ·rfl
    ·exfalso
     have t4:=swoT.ntrans _ _ _ t2 (tB_asymm e3)
     have t5:=swoT.ntrans _ _ _ t4 t3
     rw [t1] at t5
     cases t5
   ·rw [p4 y (by omega)]
    exact h.r _ _ (by omega) (by omega) g4
theorem MPre.kept {a m b c:Nat} {d d':Array Cl} (h:MPre a m b d) (ham:a≤m) (hp:PermIn c a d d'):MPre a m b d':=by
 have e:∀ t,a≤t→d'[t]! = d[t]! := fun t q=>hp.2.1 t (Or.inr q)
 refine ⟨fun x y g1 g2 g3=>?_,fun x y g1 g2 g3=>?_,fun x y g1 g2 g3 g4=>?_⟩
 ·rw [e x g1,e y (by omega)];exact h.l x y g1 g2 g3
 ·rw [e x (by omega),e y (by omega)];exact h.r x y g1 g2 g3
 ·rw [e x g1,e y (by omega)];exact h.c x y g1 g2 g3 g4
theorem merge_end {a mid b:Nat} {d1 d2 d3:Array Cl} (h1:a≤mid) (h2:mid≤b) (hb:b≤d1.size) (hA:∀ x y,a≤x→x < mid→mid≤y→y < b→tB d1[y]! d1[x]! = false)
  (p2:PermIn a mid d1 d2) (s2:SortedIn tB a mid d2) (p3:PermIn mid b d2 d3) (s3:SortedIn tB mid b d3):PermIn a b d1 d3∧SortedIn tB a b d3:=by
 have z2:=p2.1
 refine ⟨permIn_trans _ _ _ a b (permIn_mono _ _ a mid a b (Nat.le_refl _) h2 hb p2) (permIn_mono _ _ mid b a b h1 (Nat.le_refl _) (by omega) p3),fun x y g1 g2 g3=>?_⟩
 by_cases e1:y < mid
 ·rw [p3.2.1 x (by omega),p3.2.1 y (by omega)]
  exact s2 x y g1 g2 e1
 ·by_cases e2:mid≤x
  ·exact s3 x y e2 g2 g3
  ·rw [p3.2.1 x (by omega)]
   refine permIn_all d2 d3 mid b (fun z=>tB z d2[x]! = false) (by omega) p3 (fun q q1 q2=>?_) y (by omega) g3
   show tB d2[q]! d2[x]! = false
   rw [p2.2.1 q (by omega)]
   exact permIn_all d1 d2 a mid (fun z=>tB d1[q]! z=false) (by omega) p2 (fun r r1 r2=>hA r q r1 r2 q1 q2) x g1 (by omega)
end Go.Proofs.YtggmjiddadjilaeGreat
namespace Go.Proofs.YtggmjiddadjilaeGreat
open Go.RowKit Go.Shelf Go.Lib Go.Sort
set_option maxHeartbeats 8000000 in
set_option maxRecDepth 1000000 in
theorem sym_left (k:Nat) (zE:∀ w,(Go.sizeOf 140).run Tryz.prog w=.ok k w) (enc:Cl→List Value) (g:Nat) (cb:Array Value) (blk off cap a m b:Nat) (d0 d:Array Cl) (w0 w:World)
  (eg:∀ args w,(callFunc g args).run Tryz.prog w=.ok (.enter g args) w) (hcmp:CmpLays Tryz.prog g cb enc k cfC blk off d0.size w0) (R:RowK enc k w0 blk off d0) (hs:d0.size=d.size) (S:SWK enc k w0 blk off d w) (M:MPre a m b d) (ham:a < m) (hmb:m < b) (hb:b≤d.size) (hsz:d.size < 4611686018427387904) (h1:m=a+1) :
  Calls Tryz.prog 127 #[.slice (some ⟨blk,off,none⟩) d.size cap,.int .i64 a,.int .i64 m,.int .i64 b,.func (.func g) #[] cb] w fun e w'=>e=.returned (.tuple #[])∧∃ d',PermIn a b d d'∧SortedIn tB a b d'∧SWK enc k w0 blk off d' w':=by
 have mixed:Tryz.prog.follows Departure.mixedOrders=true:=by kernel_rfl
 have HC:Aside _:=hcmp
 have S0:Aside (SWK enc k w0 blk off d w):=S
 have HM:Hid (MPre a m b d):=M
 clear S hcmp M
 have t1:(((m:Int) - (a:Int)) == 1)=true:=by simp;omega
 have hle:m≤a+1:=by omega
 have H1:=Hd h1
 clear h1
 go_enter Tryz.func127,Tryz.ntmps127
 go_wp2_with fail
 go_loopg [10,11] (b - m) (fun kx s10 s11 wr=>∃ lo hi:Nat,s10=.int .i64 lo∧s11=.int .i64 hi∧m≤lo∧lo≤hi∧hi≤b∧hi - lo≤kx∧Aside (SWK enc k w0 blk off d wr) ∧
  Hid ((m < lo→tB d[lo - 1]! d[a]! = true)∧(hi < b→tB d[hi]! d[a]! = false)))
 case atStart=>exact ⟨m,b,rfl,rfl,Nat.le_refl _,by omega,Nat.le_refl _,Nat.le_refl _,S0,fun h=>absurd h (Nat.lt_irrefl _),fun h=>absurd h (Nat.lt_irrefl _)⟩
 case round =>
  clear S0
  obtain ⟨lo,hi,rfl,rfl,h2,h3,h4,h5,S1,I⟩:=hrel
  by_cases hlt:lo < hi
  ·obtain ⟨mi,hmi⟩:∃ mi,mi=(lo+hi) / 2:=⟨_,rfl⟩
   have em:((lo:Int)+(hi:Int)) / 2=(mi:Int):=by omega
   have m1:lo≤mi:=by omega
   have m2:mi < hi:=by omega
   clear hmi
   have hcv:ltOf cfC d[mi]! d[a]! = tB d[mi]! d[a]! := lt_tB (HM.out.c a mi (Nat.le_refl _) ham (by omega) (by omega))
   by_cases hv:cfC d[mi]! d[a]! < 0
   ·have I2:Hid ((m < mi+1→tB d[mi+1 - 1]! d[a]! = true)∧(hi < b→tB d[hi]! d[a]! = false)):=⟨fun _=>by rw [Nat.add_sub_cancel,← hcv];exact decide_eq_true hv,I.out.2⟩
    clear hcv
    have ea:((mi:Int)).toNat=mi:=by omega
    have pa:(0:Int)≤(mi:Int):=by omega
    have ba:(mi:Int) < (d.size:Int):=by omega
    have ra:IntKind.i64.wrap ((mi:Int))=(mi:Int):=by rw [IntKind.wrap_i64];omega
    have ec:((a:Int)).toNat=a:=by omega
    have pc:(0:Int)≤(a:Int):=by omega
    have bc:(a:Int) < (d.size:Int):=by omega
    have rc:IntKind.i64.wrap ((a:Int))=(a:Int):=by rw [IntKind.wrap_i64];omega
    have la:=S1.out.ld R (by omega) Tryz.prog (mi) (by omega)
    have lb:=S1.out.ld R (by omega) Tryz.prog (a) (by omega)
    have hc:=S1.out.cmp HC.out (by omega) d[mi]! d[a]!
    generalize d[mi]! = x at hc la hv
    generalize d[a]! = y at hc lb hv
    have hd:decide (cfC x y < 0)=true:=by simpa using hv
    go_wp2_with fail
    go_quiet_grown (first | (go_at_fn g;refine Calls.grown_of (hc _ _)))
    have S2:Aside (SWK enc k w0 blk off d (grow (wr.drewN nq) osq)):=S1.out.grown nq osq
    clear la lb hc S1 hd hv
    generalize grow (wr.drewN nq) osq=w2 at S2 ⊢
    clear nq osq
    go_wp2
    go_roundg (hi - (mi+1))
    case measure=>omega
    case rel=>exact ⟨mi+1,hi,by go_num,rfl,by omega,by omega,h4,Nat.le_refl _,S2,I2⟩
   ·have I2:Hid ((m < lo→tB d[lo - 1]! d[a]! = true)∧(mi < b→tB d[mi]! d[a]! = false)):=⟨I.out.1,fun _=>by rw [← hcv];exact decide_eq_false hv⟩
    clear hcv
    have ea:((mi:Int)).toNat=mi:=by omega
    have pa:(0:Int)≤(mi:Int):=by omega
    have ba:(mi:Int) < (d.size:Int):=by omega
    have ra:IntKind.i64.wrap ((mi:Int))=(mi:Int):=by rw [IntKind.wrap_i64];omega
    have ec:((a:Int)).toNat=a:=by omega
    have pc:(0:Int)≤(a:Int):=by omega
    have bc:(a:Int) < (d.size:Int):=by omega
    have rc:IntKind.i64.wrap ((a:Int))=(a:Int):=by rw [IntKind.wrap_i64];omega
    have la:=S1.out.ld R (by omega) Tryz.prog (mi) (by omega)
    have lb:=S1.out.ld R (by omega) Tryz.prog (a) (by omega)
    have hc:=S1.out.cmp HC.out (by omega) d[mi]! d[a]!
    generalize d[mi]! = x at hc la hv
    generalize d[a]! = y at hc lb hv
    have hd:decide (cfC x y < 0)=false:=by simpa using hv
    go_wp2_with fail
    go_quiet_grown (first | (go_at_fn g;refine Calls.grown_of (hc _ _)))
    have S2:Aside (SWK enc k w0 blk off d (grow (wr.drewN nq) osq)):=S1.out.grown nq osq
    clear la lb hc S1 hd hv
    generalize grow (wr.drewN nq) osq=w2 at S2 ⊢
    clear nq osq
    go_wp2
    go_roundg (mi - lo)
    case measure=>omega
    case rel=>exact ⟨lo,mi,rfl,rfl,h2,m1,by omega,Nat.le_refl _,S2,I2⟩
  ·obtain rfl:hi=lo:=by omega
   clear hlt h5
   go_wp2_with fail
   go_loopg [13] (hi - 1 - a) (fun kx s13 wr2=>∃ (q:Nat) (dk:Array Cl),s13=.int .i64 q∧a≤q∧q≤hi - 1∧hi - 1 - q≤kx∧dk.size=d.size∧Aside (SWK enc k w0 blk off dk wr2)∧Hid (RotD a (a+1) (q+1) d dk))
   case atStart=>exact ⟨a,d,rfl,Nat.le_refl _,by omega,Nat.le_refl _,rfl,S1,RotD.right_none a (a+1) d⟩
   case round =>
    clear S1
    obtain ⟨q,dk,rfl,g1,g2,g3,hds,S1,HE⟩:=hrel
    by_cases hlt:q < hi - 1
    ·have hltz:(q:Int) < (hi:Int) - 1:=by omega
     have HN:=Hd (HE.out.up g1 (by omega))
     have ea:((q:Int)).toNat=q:=by omega
     have pa:(0:Int)≤(q:Int):=by omega
     have ba:(q:Int) < (d.size:Int):=by omega
     have ra:IntKind.i64.wrap ((q:Int))=(q:Int):=by rw [IntKind.wrap_i64];omega
     have ec:((q:Int)+1).toNat=q+1:=by omega
     have pc:(0:Int)≤(q:Int)+1:=by omega
     have bc:(q:Int)+1 < (d.size:Int):=by omega
     have rc:IntKind.i64.wrap ((q:Int)+1)=(q:Int)+1:=by rw [IntKind.wrap_i64];omega
     have S2:Aside (SWK enc k w0 blk off (swp dk (q) (q+1)) ((wr.drew.setCells blk (off+(q) * k) (enc dk[q+1]!)).setCells blk (off+(q+1) * k) (enc dk[q]!))):=S1.out.swapped R (q) (q+1) (by omega) (by omega)
     have la:=S1.out.ld1 R (by omega) Tryz.prog (q) (by omega)
     have lb:=S1.out.ld1 R (by omega) Tryz.prog (q+1) (by omega)
     have sa:=S1.out.st1 R (by omega) Tryz.prog (q) (by omega) dk[q+1]!
     have sb:=S1.out.st2 R (by omega) Tryz.prog (q) (q+1) (by omega) (by omega) dk[q+1]! dk[q]!
     have na:(enc dk[q]!).length=k:=R.hk _
     have nb:(enc dk[q+1]!).length=k:=R.hk _
     generalize enc dk[q]! = cI at S2 la sb na
     generalize enc dk[q+1]! = cJ at S2 lb sa sb nb
     clear S1
     go_wp2_with fail
     go_big_region_o
     clear la lb sa sb
     generalize (wr.drew.setCells blk (off+(q) * k) cJ).setCells blk (off+(q+1) * k) cI=w2 at S2 ⊢
     go_wp2
     go_roundg (hi - 1 - (q+1))
     case measure=>omega
     case rel=>exact ⟨q+1,swp dk q (q+1),by go_num,by omega,by omega,Nat.le_refl _,by rw [size_swp];exact hds,S2,HN⟩
    ·have hltz:¬ (q:Int) < (hi:Int) - 1:=by omega
     obtain rfl:q=hi - 1:=by omega
     have HR:RotD a (a+1) hi d dk:=by have:=HE.out;rwa [show hi - 1+1=hi by omega] at this
     have HD:Hid (PermIn a b d dk∧SortedIn tB a b dk):=by
      refine ⟨permIn_mono _ _ a hi a b (Nat.le_refl _) h4 (by omega) (HR.perm (by omega) (by omega) (by omega)),?_⟩
      have h1:=H1.out
      subst h1
      exact merge_one_left HM.out HR (by omega) h4 I.out.1 I.out.2
     clear HR
     go_wp2
     (try simp only [Exit.inBlock,Exit.then])
     refine bodyPost_ret (results_none rfl _ _ _) rfl ?_
     exact ⟨rfl,dk,HD.out.1,HD.out.2,S1.out⟩
set_option maxHeartbeats 8000000 in
set_option maxRecDepth 1000000 in
theorem sym_right (k:Nat) (zE:∀ w,(Go.sizeOf 140).run Tryz.prog w=.ok k w) (enc:Cl→List Value) (g:Nat) (cb:Array Value) (blk off cap a m b:Nat) (d0 d:Array Cl) (w0 w:World)
  (eg:∀ args w,(callFunc g args).run Tryz.prog w=.ok (.enter g args) w) (hcmp:CmpLays Tryz.prog g cb enc k cfC blk off d0.size w0) (R:RowK enc k w0 blk off d0) (hs:d0.size=d.size) (S:SWK enc k w0 blk off d w) (M:MPre a m b d) (ham:a < m) (hmb:m < b) (hb:b≤d.size) (hsz:d.size < 4611686018427387904) (h0:m ≠ a+1) (h1:b=m+1) :
  Calls Tryz.prog 127 #[.slice (some ⟨blk,off,none⟩) d.size cap,.int .i64 a,.int .i64 m,.int .i64 b,.func (.func g) #[] cb] w fun e w'=>e=.returned (.tuple #[])∧∃ d',PermIn a b d d'∧SortedIn tB a b d'∧SWK enc k w0 blk off d' w':=by
 have mixed:Tryz.prog.follows Departure.mixedOrders=true:=by kernel_rfl
 have HC:Aside _:=hcmp
 have S0:Aside (SWK enc k w0 blk off d w):=S
 have HM:Hid (MPre a m b d):=M
 clear S hcmp M
 have t0:(((m:Int) - (a:Int)) == 1)=false:=by simp;omega
 have t1:(((b:Int) - (m:Int)) == 1)=true:=by simp;omega
 have hle:b≤m+1:=by omega
 have H1:=Hd h1
 clear h1
 go_enter Tryz.func127,Tryz.ntmps127
 go_wp2_with fail
 go_loopg [14,15] (m - a) (fun kx s14 s15 wr=>∃ lo hi:Nat,s14=.int .i64 lo∧s15=.int .i64 hi∧a≤lo∧lo≤hi∧hi≤m∧hi - lo≤kx∧Aside (SWK enc k w0 blk off d wr) ∧
  Hid ((a < lo→tB d[m]! d[lo - 1]! = false)∧(hi < m→tB d[m]! d[hi]! = true)))
 case atStart=>exact ⟨a,m,rfl,rfl,Nat.le_refl _,by omega,Nat.le_refl _,Nat.le_refl _,S0,fun h=>absurd h (Nat.lt_irrefl _),fun h=>absurd h (Nat.lt_irrefl _)⟩
 case round =>
  clear S0
  obtain ⟨lo,hi,rfl,rfl,h2,h3,h4,h5,S1,I⟩:=hrel
  by_cases hlt:lo < hi
  ·obtain ⟨mi,hmi⟩:∃ mi,mi=(lo+hi) / 2:=⟨_,rfl⟩
   have em:((lo:Int)+(hi:Int)) / 2=(mi:Int):=by omega
   have m1:lo≤mi:=by omega
   have m2:mi < hi:=by omega
   clear hmi
   have hcv:ltOf cfC d[m]! d[mi]! = tB d[m]! d[mi]! := lt_tB (HM.out.c mi m (by omega) (by omega) (Nat.le_refl _) hmb)
   by_cases hv:cfC d[m]! d[mi]! < 0
   ·have I2:Hid ((a < lo→tB d[m]! d[lo - 1]! = false)∧(mi < m→tB d[m]! d[mi]! = true)):=⟨I.out.1,fun _=>by rw [← hcv];exact decide_eq_true hv⟩
    clear hcv
    have ea:((m:Int)).toNat=m:=by omega
    have pa:(0:Int)≤(m:Int):=by omega
    have ba:(m:Int) < (d.size:Int):=by omega
    have ra:IntKind.i64.wrap ((m:Int))=(m:Int):=by rw [IntKind.wrap_i64];omega
    have ec:((mi:Int)).toNat=mi:=by omega
    have pc:(0:Int)≤(mi:Int):=by omega
    have bc:(mi:Int) < (d.size:Int):=by omega
    have rc:IntKind.i64.wrap ((mi:Int))=(mi:Int):=by rw [IntKind.wrap_i64];omega
    have la:=S1.out.ld R (by omega) Tryz.prog (m) (by omega)
    have lb:=S1.out.ld R (by omega) Tryz.prog (mi) (by omega)
    have hc:=S1.out.cmp HC.out (by omega) d[m]! d[mi]!
    generalize d[m]! = x at hc la hv
    generalize d[mi]! = y at hc lb hv
    have hd:decide (cfC x y < 0)=true:=by simpa using hv
    go_wp2_with fail
    go_quiet_grown (first | (go_at_fn g;refine Calls.grown_of (hc _ _)))
    have S2:Aside (SWK enc k w0 blk off d (grow (wr.drewN nq) osq)):=S1.out.grown nq osq
    clear la lb hc S1 hd hv
    generalize grow (wr.drewN nq) osq=w2 at S2 ⊢
    clear nq osq
    go_wp2
    go_roundg (mi - lo)
    case measure=>omega
    case rel=>exact ⟨lo,mi,rfl,rfl,h2,m1,by omega,Nat.le_refl _,S2,I2⟩
   ·have I2:Hid ((a < mi+1→tB d[m]! d[mi+1 - 1]! = false)∧(hi < m→tB d[m]! d[hi]! = true)):=⟨fun _=>by rw [Nat.add_sub_cancel,← hcv];exact decide_eq_false hv,I.out.2⟩
    clear hcv
    have ea:((m:Int)).toNat=m:=by omega
    have pa:(0:Int)≤(m:Int):=by omega
    have ba:(m:Int) < (d.size:Int):=by omega
    have ra:IntKind.i64.wrap ((m:Int))=(m:Int):=by rw [IntKind.wrap_i64];omega
    have ec:((mi:Int)).toNat=mi:=by omega
    have pc:(0:Int)≤(mi:Int):=by omega
    have bc:(mi:Int) < (d.size:Int):=by omega
    have rc:IntKind.i64.wrap ((mi:Int))=(mi:Int):=by rw [IntKind.wrap_i64];omega
    have la:=S1.out.ld R (by omega) Tryz.prog (m) (by omega)
    have lb:=S1.out.ld R (by omega) Tryz.prog (mi) (by omega)
    have hc:=S1.out.cmp HC.out (by omega) d[m]! d[mi]!
    generalize d[m]! = x at hc la hv
    generalize d[mi]! = y at hc lb hv
    have hd:decide (cfC x y < 0)=false:=by simpa using hv
    go_wp2_with fail
    go_quiet_grown (first | (go_at_fn g;refine Calls.grown_of (hc _ _)))
    have S2:Aside (SWK enc k w0 blk off d (grow (wr.drewN nq) osq)):=S1.out.grown nq osq
    clear la lb hc S1 hd hv
    generalize grow (wr.drewN nq) osq=w2 at S2 ⊢
    clear nq osq
    go_wp2
    go_roundg (hi - (mi+1))
    case measure=>omega
    case rel=>exact ⟨mi+1,hi,by go_num,rfl,by omega,by omega,h4,Nat.le_refl _,S2,I2⟩
  ·obtain rfl:hi=lo:=by omega
   clear hlt h5
   go_wp2_with fail
   go_loopg [17] (m - hi) (fun kx s17 wr2=>∃ (q:Nat) (dk:Array Cl),s17=.int .i64 q∧hi≤q∧q≤m∧q - hi≤kx∧dk.size=d.size∧Aside (SWK enc k w0 blk off dk wr2)∧Hid (RotD q m (m+1) d dk))
   case atStart=>exact ⟨m,d,rfl,h4,Nat.le_refl _,Nat.le_refl _,rfl,S1,RotD.left_none m (m+1) d⟩
   case round =>
    clear S1
    obtain ⟨q,dk,rfl,g1,g2,g3,hds,S1,HE⟩:=hrel
    by_cases hlt:hi < q
    ·obtain ⟨jp,rfl⟩:∃ jp,q=jp+1:=⟨q - 1,by omega⟩
     have hltz:(hi:Int) < (jp:Int)+1:=by omega
     have HN:=Hd (HE.out.down g2 (by omega))
     have ea:((jp:Int)+1).toNat=jp+1:=by omega
     have pa:(0:Int)≤(jp:Int)+1:=by omega
     have ba:(jp:Int)+1 < (d.size:Int):=by omega
     have ra:IntKind.i64.wrap ((jp:Int)+1)=(jp:Int)+1:=by rw [IntKind.wrap_i64];omega
     have ec:((jp:Int)).toNat=jp:=by omega
     have pc:(0:Int)≤(jp:Int):=by omega
     have bc:(jp:Int) < (d.size:Int):=by omega
     have rc:IntKind.i64.wrap ((jp:Int))=(jp:Int):=by rw [IntKind.wrap_i64];omega
     have S2:Aside (SWK enc k w0 blk off (swp dk (jp+1) (jp)) ((wr.drew.setCells blk (off+(jp+1) * k) (enc dk[jp]!)).setCells blk (off+(jp) * k) (enc dk[jp+1]!))):=S1.out.swapped R (jp+1) (jp) (by omega) (by omega)
     have la:=S1.out.ld1 R (by omega) Tryz.prog (jp+1) (by omega)
     have lb:=S1.out.ld1 R (by omega) Tryz.prog (jp) (by omega)
     have sa:=S1.out.st1 R (by omega) Tryz.prog (jp+1) (by omega) dk[jp]!
     have sb:=S1.out.st2 R (by omega) Tryz.prog (jp+1) (jp) (by omega) (by omega) dk[jp]! dk[jp+1]!
     have na:(enc dk[jp+1]!).length=k:=R.hk _
     have nb:(enc dk[jp]!).length=k:=R.hk _
     generalize enc dk[jp+1]! = cI at S2 la sb na
     generalize enc dk[jp]! = cJ at S2 lb sa sb nb
     clear S1
     go_wp2_with fail
     go_big_region_o
     clear la lb sa sb
     generalize (wr.drew.setCells blk (off+(jp+1) * k) cJ).setCells blk (off+(jp) * k) cI=w2 at S2 ⊢
     go_wp2
     go_roundg (jp - hi)
     case measure=>omega
     case rel=>exact ⟨jp,swp dk (jp+1) jp,by go_num,by omega,by omega,Nat.le_refl _,by rw [size_swp];exact hds,S2,HN⟩
    ·have hltz:¬ (hi:Int) < (q:Int):=by omega
     obtain rfl:q=hi:=by omega
     have HD:Hid (PermIn a b d dk∧SortedIn tB a b dk):=by
      have h1:=H1.out
      subst h1
      exact ⟨permIn_mono _ _ q (m+1) a (m+1) h2 (Nat.le_refl _) (by omega) (HE.out.perm (by omega) (by omega) (by omega)),merge_one_right HM.out HE.out h2 h4 I.out.1 I.out.2⟩
     go_wp2
     (try simp only [Exit.inBlock,Exit.then])
     refine bodyPost_ret (results_none rfl _ _ _) rfl ?_
     exact ⟨rfl,dk,HD.out.1,HD.out.2,S1.out⟩
end Go.Proofs.YtggmjiddadjilaeGreat
