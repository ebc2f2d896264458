/-
  PROVED HERE: plain theory of rotations and of merges in place, of claims; no program. Also: 8 more texts of the same proof.
-/
import Derived.Test.YtggmjiddadjilalGreatB26
set_option maxRecDepth 1000000
set_option maxHeartbeats 40000000
namespace Go.Proofs.YtggmjiddadjilalGreat
open Value (int)
open IntKind (i64)
section
open Go.Sort
structure SwR (a b n:Nat) (d d':Array Cl):Prop where
 size:d'.size=d.size
 left:∀ t,t < n->d'[a+t]! = d[b+t]!
 right:∀ t,t < n->d'[b+t]! = d[a+t]!
 rest:∀ t,(t < a\/a+n<=t)->(t < b\/b+n<=t)->d'[t]! = d[t]!
theorem SwR.zero (a b:Nat) (d:Array Cl):SwR a b 0 d d:=⟨rfl,fun _ h=>absurd h (Nat.not_lt_zero _),fun _ h=>absurd h (Nat.not_lt_zero _),fun _ _ _=>rfl⟩
theorem SwR.next {a b i:Nat} {d dk:Array Cl} (h:SwR a b i d dk) (hab:a+i < b) (hb:b+i < d.size):SwR a b (i+1) d (swp dk (a+i) (b+i)):=by
 have hs:=h.size;refine ⟨by rw [size_swp];exact hs,fun t ht=>?_,fun t ht=>?_,fun t h1 h2=>?_⟩
 ·by_cases e:t=i
  ·subst e;rw [swp_left _ _ _ (by omega) (by omega)];exact h.rest _ (by omega) (by omega)
  ·rw [swp_other _ _ _ _ (by omega) (by omega)];exact h.left t (by omega)
 ·by_cases e:t=i
  ·subst e;rw [swp_right _ _ _ (by omega)];exact h.rest _ (by omega) (by omega)
  ·rw [swp_other _ _ _ _ (by omega) (by omega)];exact h.right t (by omega)
 ·rw [swp_other _ _ _ _ (by omega) (by omega)];exact h.rest t (by omega) (by omega)
theorem ix {d:Array Cl} {i j:Nat} (h:i=j):d[i]! = d[j]! := by rw [h]
structure z0s (a m b:Nat) (d d':Array Cl):Prop where
 size:d'.size=d.size
 low:∀ t,a<=t->t < a+(b - m)->d'[t]! = d[t+(m - a)]!
 high:∀ t,a+(b - m)<=t->t < b->d'[t]! = d[t - (b - m)]!
 rest:∀ t,t < a\/b<=t->d'[t]! = d[t]!
theorem z0s.left_none (m b:Nat) (d:Array Cl):z0s m m b d d :=
 ⟨rfl,fun t _ _=>ix (by omega),fun t h1 h2=>by omega,fun _ _=>rfl⟩
theorem z0s.right_none (a m:Nat) (d:Array Cl):z0s a m m d d :=
 ⟨rfl,fun t h1 h2=>by omega,fun t _ _=>ix (by omega),fun _ _=>rfl⟩
theorem z0s.more {m i j:Nat} {d dk f:Array Cl} (hj:j < i) (hi:i<=m) (h:SwR (m - i) m j d dk) (k:z0s (m - i+j) m (m+j) dk f):z0s (m - i) m (m+j) d f:=by
 refine ⟨k.size.trans h.size,fun t h1 h2=>?_,fun t h1 h2=>?_,fun t h1=>?_⟩
 ·rw [k.rest t (by omega),ix (show t=m - i+(t - (m - i)) by omega),h.left _ (by omega)];exact ix (by omega)
 ·by_cases e:t < m - i+j+j
  ·rw [k.low t (by omega) (by omega),ix (show t+(m - (m - i+j))=m+(t+i - j - m) by omega),h.right _ (by omega)];exact ix (by omega)
  ·rw [k.high t (by omega) (by omega),h.rest _ (by omega) (by omega)]
 ·rw [k.rest t (by omega),h.rest t (by omega) (by omega)]
theorem z0s.less {m i j:Nat} {d dk f:Array Cl} (hj:i < j) (hi:i<=m) (h:SwR (m - i) (m+j - i) i d dk) (k:z0s (m - i) m (m+j - i) dk f):z0s (m - i) m (m+j) d f:=by
 refine ⟨k.size.trans h.size,fun t h1 h2=>?_,fun t h1 h2=>?_,fun t h1=>?_⟩
 ·by_cases e:t < m - i+(j - i)
  ·rw [k.low t (by omega) (by omega),h.rest _ (by omega) (by omega)]
  ·rw [k.high t (by omega) (by omega),ix (show t - (m+j - i - m)=m - i+(t - (j - i) - (m - i)) by omega),h.left _ (by omega)];exact ix (by omega)
 ·rw [k.rest t (by omega),ix (show t=m+j - i+(t - (m+j - i)) by omega),h.right _ (by omega)];exact ix (by omega)
 ·rw [k.rest t (by omega),h.rest t (by omega) (by omega)]
theorem z0s.even {m i:Nat} {d f:Array Cl} (hi:i<=m) (h:SwR (m - i) m i d f):z0s (m - i) m (m+i) d f:=by
 refine ⟨h.size,fun t h1 h2=>?_,fun t h1 h2=>?_,fun t h1=>h.rest t (by omega) (by omega)⟩
 ·rw [ix (show t=m - i+(t - (m - i)) by omega),h.left _ (by omega)];exact ix (by omega)
 ·rw [ix (show t=m+(t - m) by omega),h.right _ (by omega)];exact ix (by omega)
theorem z0s.up {a k:Nat} {d dk:Array Cl} (h:z0s a (a+1) (k+1) d dk) (hk:a<=k) (hs:k+1 < d.size):z0s a (a+1) (k+2) d (swp dk k (k+1)):=by
 have hz:=h.size;refine ⟨by rw [size_swp];exact hz,fun t h1 h2=>?_,fun t h1 h2=>?_,fun t h1=>?_⟩
 ·by_cases e:t=k
  ·subst e;rw [swp_left _ _ _ (by omega) (by omega),h.rest _ (by omega)];exact ix (by omega)
  ·rw [swp_other _ _ _ _ (by omega) (by omega),h.low t (by omega) (by omega)]
 ·obtain rfl:t=k+1:=by omega
  rw [swp_right _ _ _ (by omega),h.high k (by omega) (by omega)];exact ix (by omega)
 ·rw [swp_other _ _ _ _ (by omega) (by omega),h.rest t (by omega)]
theorem z0s.down {m k:Nat} {d dk:Array Cl} (h:z0s (k+1) m (m+1) d dk) (hk:k+1<=m) (hs:m < d.size):z0s k m (m+1) d (swp dk (k+1) k):=by
 have hz:=h.size;refine ⟨by rw [size_swp];exact hz,fun t h1 h2=>?_,fun t h1 h2=>?_,fun t h1=>?_⟩
 ·obtain rfl:t=k:=by omega
  rw [swp_right _ _ _ (by omega),h.low (t+1) (by omega) (by omega)];exact ix (by omega)
 ·by_cases e:t=k+1
  ·subst e;rw [swp_left _ _ _ (by omega) (by omega),h.rest k (by omega)];exact ix (by omega)
  ·rw [swp_other _ _ _ _ (by omega) (by omega),h.high t (by omega) (by omega)]
 ·rw [swp_other _ _ _ _ (by omega) (by omega),h.rest t (by omega)]
theorem z0s.perm {a m b:Nat} {d d':Array Cl} (h:z0s a m b d d') (h1:a<=m) (h2:m<=b) (hb:b<=d.size):PermIn a b d d':=by
 refine ⟨h.size,h.rest,?_⟩;rw [extract_toList _ _ _ (by rw [h.size];exact hb),extract_toList _ _ _ hb]
 have e1:(List.range' a (b - a)).map (fun i=>d'[i]!)=(List.range' m (b - m)).map (fun i=>d[i]!) ++ (List.range' a (m - a)).map (fun i=>d[i]!):=by
  apply List.ext_getElem
  ·simp;omega
  ·intro i g1 g2;simp only [List.length_map,List.length_range'] at g1;by_cases e:i < b - m
   ·rw [List.getElem_append_left (by simpa using e)];simp only [List.getElem_map,List.getElem_range'];rw [h.low _ (by omega) (by omega)];exact ix (by omega)
   ·rw [List.getElem_append_right (by simp;omega)];simp only [List.getElem_map,List.getElem_range',List.length_map,List.length_range'];rw [h.high _ (by omega) (by omega)];exact ix (by omega)
 have e2:(List.range' a (b - a)).map (fun i=>d[i]!)=(List.range' a (m - a)).map (fun i=>d[i]!) ++ (List.range' m (b - m)).map (fun i=>d[i]!):=by
  rw [<-List.map_append]
  have e3:List.range' a (b - a)=List.range' a (m - a) ++ List.range' m (b - m):=by
   have:=List.range'_append (s:=a) (m:=m - a) (n:=b - m) (step:=1);rw [show a+1 * (m - a)=m by omega,show m - a+(b - m)=b - a by omega] at this;exact this.symm
  rw [e3]
 rw [e1,e2];exact List.perm_append_comm
def zfZ (a m b:Nat) (d:Array Cl):Prop:=∀ x y,a<=x->x < m->m<=y->y < b->d[x]!.p < d[y]!.p
structure z2N (a m b:Nat) (d:Array Cl):Prop where
 l:SortedIn tB a m d
 r:SortedIn tB m b d
 c:zfZ a m b d
theorem z4o {d:Array Cl} {a b i j:Nat} (h:SortedIn tB a b d) (h1:a<=i) (h2:i<=j) (h3:j < b):tB d[j]! d[i]! = false:=by
 rcases Nat.lt_or_eq_of_le h2 with h4 | rfl
 ·exact h i j h1 h4 h3
 ·exact z30.irrefl _
theorem z8e {a i b:Nat} {d d':Array Cl} (h:z2N a (a+1) b d) (hr:z0s a (a+1) i d d') (hi:a+1<=i) (hib:i<=b)
  (h1:a+1 < i->tB d[i - 1]! d[a]! = true) (h2:i < b->tB d[i]! d[a]! = false):SortedIn tB a b d':=by
 have hx:∀ q,a+1<=q->q < i->tB d[a]! d[q]! = false:=fun q g1 g2 =>
  z30.ntrans _ d[i - 1]! _ (z4D (h1 (by omega))) (z4o h.r g1 (by omega) (by omega))
 have hy:∀ q,i<=q->q < b->tB d[q]! d[a]! = false:=fun q g1 g2 =>
  z30.ntrans _ d[i]! _ (z4o h.r (by omega) g1 g2) (h2 (by omega))
 intro x y g1 g2 g3;have lo:∀ t,a<=t->t < i - 1->d'[t]! = d[t+1]! := fun t q1 q2=>by rw [hr.low t q1 (by omega)];exact ix (by omega)
 have mi:d'[i - 1]! = d[a]! := by rw [hr.high (i - 1) (by omega) (by omega)];exact ix (by omega)
 have hh:∀ t,i<=t->d'[t]! = d[t]! := fun t q=>hr.rest t (by omega);by_cases e1:y < i - 1
 ·rw [lo x g1 (by omega),lo y (by omega) e1];exact h.r _ _ (by omega) (by omega) (by omega)
 ·by_cases e2:y=i - 1
  ·rw [e2,mi,lo x g1 (by omega)];exact hx _ (by omega) (by omega)
  ·rw [hh y (by omega)];by_cases e3:x < i - 1
   ·rw [lo x g1 e3];exact h.r _ _ (by omega) (by omega) g3
   ·by_cases e4:x=i - 1
    ·rw [e4,mi];exact hy y (by omega) g3
    ·rw [hh x (by omega)];exact h.r _ _ (by omega) g2 g3
theorem z7D {a i m:Nat} {d d':Array Cl} (h:z2N a m (m+1) d) (hr:z0s i m (m+1) d d') (hi:a<=i) (hib:i<=m)
  (h1:a < i->tB d[m]! d[i - 1]! = false) (h2:i < m->tB d[m]! d[i]! = true):SortedIn tB a (m+1) d':=by
 have hx:∀ q,a<=q->q < i->tB d[m]! d[q]! = false:=fun q g1 g2 =>
  z30.ntrans _ d[i - 1]! _ (h1 (by omega)) (z4o h.l g1 (by omega) (by omega))
 have hy:∀ q,i<=q->q < m->tB d[q]! d[m]! = false:=fun q g1 g2 =>
  z30.ntrans _ d[i]! _ (z4o h.l hi g1 g2) (z4D (h2 (by omega))) |> fun _=>by
   have t1:=z4D (h2 (by omega))
   cases e:tB d[q]! d[m]!
   ·rfl
   ·have:=z30.trans _ _ _ e (h2 (by omega));rw [z4o h.l hi g1 g2] at this
    cases this
 intro x y g1 g2 g3;have lo:∀ t,t < i->d'[t]! = d[t]! := fun t q=>hr.rest t (by omega);have mi:d'[i]! = d[m]! := by rw [hr.low i (by omega) (by omega)];exact ix (by omega)
 have hh:∀ t,i < t->t < m+1->d'[t]! = d[t - 1]! := fun t q1 q2=>by rw [hr.high t (by omega) (by omega)];exact ix (by omega)
 by_cases e1:y < i
 ·rw [lo x (by omega),lo y e1];exact h.l _ _ g1 g2 (by omega)
 ·by_cases e2:y=i
  ·rw [e2,mi,lo x (by omega)];exact hx x g1 (by omega)
  ·rw [hh y (by omega) g3];by_cases e3:x < i
   ·rw [lo x e3];exact h.l _ _ g1 (by omega) (by omega)
   ·by_cases e4:x=i
    ·rw [e4,mi];exact hy _ (by omega) (by omega)
    ·rw [hh x (by omega) (by omega)];exact h.l _ _ (by omega) (by omega) (by omega)
end
section
open Go.RowKit Go.Shelf Go.Lib Go.Sort
theorem zf4 (k:Nat) (zE:∀ w,(Go.sizeOf 150).run Tryz.prog w=.ok k w) (enc:Cl->List Value) (fv:Value) (blk off cap a b n:Nat) (d0 d:Array Cl) (w0 w:World)
  (R:RowK enc k w0 blk off d0) (hs:d0.size=d.size) (S:SWK enc k w0 blk off d w) (hab:a+n<=b) (hb:b+n<=d.size) (hsz:d.size < 4611686018427387904) :
  Calls Tryz.prog 106 #[.slice (some ⟨blk,off,none⟩) d.size cap,int i64 a,int i64 b,int i64 n,fv] w fun e w'=>e=.returned (.tuple #[])/\∃ d',SwR a b n d d'/\SWK enc k w0 blk off d' w':=by
 have mixed:Tryz.prog.follows Departure.mixedOrders=true:=(by kernel_rfl);have S0:Aside (SWK enc k w0 blk off d w):=S;clear S;go_enter Tryz.func106,Tryz.ntmps106;go_wp2_with fail
 go_loopg [10] n (fun kx s10 wr=>∃ (i:Nat) (dk:Array Cl),s10=int i64 i/\i<=n/\n - i<=kx/\dk.size=d.size/\Aside (SWK enc k w0 blk off dk wr)/\Hid (SwR a b i d dk))
 case atStart=>exact ⟨0,d,rfl,Nat.zero_le _,Nat.le_refl _,rfl,S0,SwR.zero a b d⟩
 case round =>
  clear S0;obtain ⟨i,dk,rfl,hin,hkx,hds,S1,HE⟩:=hrel;by_cases hlt:i < n
  ·have hltz:(i:Int) < (n:Int):=(by omega);have ea:((a:Int)+(i:Int)).toNat=a+i:=(by omega);have pa:(0:Int)<=(a:Int)+(i:Int):=(by omega);have ba:(a:Int)+(i:Int) < (d.size:Int):=(by omega);have ra:IntKind.i64.wrap ((a:Int)+(i:Int))=(a:Int)+(i:Int):=(by rw [IntKind.wrap_i64];omega);have ec:((b:Int)+(i:Int)).toNat=b+i:=(by omega);have pc:(0:Int)<=(b:Int)+(i:Int):=(by omega);have bc:(b:Int)+(i:Int) < (d.size:Int):=(by omega);have rc:IntKind.i64.wrap ((b:Int)+(i:Int))=(b:Int)+(i:Int):=(by rw [IntKind.wrap_i64];omega);have S2:Aside (SWK enc k w0 blk off (swp dk (a+i) (b+i)) ((wr.drew.setCells blk (off+(a+i) * k) (enc dk[b+i]!)).setCells blk (off+(b+i) * k) (enc dk[a+i]!))):=S1.out.swapped R (a+i) (b+i) (by omega) (by omega);have la:=S1.out.ld1 R (by omega) Tryz.prog (a+i) (by omega);have lb:=S1.out.ld1 R (by omega) Tryz.prog (b+i) (by omega);have sa:=S1.out.st1 R (by omega) Tryz.prog (a+i) (by omega) dk[b+i]!;have sb:=S1.out.st2 R (by omega) Tryz.prog (a+i) (b+i) (by omega) (by omega) dk[b+i]! dk[a+i]!;have na:(enc dk[a+i]!).length=k:=R.hk _;have nb:(enc dk[b+i]!).length=k:=R.hk _;have HN:=Hd (HE.out.next (show a+i < b by omega) (by omega));generalize enc dk[a+i]! = cI at S2 la sb na;generalize enc dk[b+i]! = cJ at S2 lb sa sb nb;clear S1;go_wp2_with fail
   go_big_region_o
   clear la lb sa sb;generalize (wr.drew.setCells blk (off+(a+i) * k) cJ).setCells blk (off+(b+i) * k) cI=w2 at S2 |-;go_wp2;go_roundg (n - (i+1))
   case measure=>omega
   case rel=>exact ⟨i+1,swp dk (a+i) (b+i),by go_num,by omega,Nat.le_refl _,by rw [size_swp];exact hds,S2,HN⟩
  ·obtain rfl:i=n:=by omega
   go_wp2
   go_end0
   exact ⟨rfl,dk,HE.out,S1.out⟩
theorem zg0 (k:Nat) (zE:∀ w,(Go.sizeOf 150).run Tryz.prog w=.ok k w) (enc:Cl->List Value) (g:Nat) (cb:Array Value) (blk off cap a m b:Nat) (d0 d:Array Cl) (w0 w:World)
  (R:RowK enc k w0 blk off d0) (hs:d0.size=d.size) (S:SWK enc k w0 blk off d w) (ham:a < m) (hmb:m < b) (hb:b<=d.size) (hsz:d.size < 4611686018427387904) :
  Calls Tryz.prog 105 #[.slice (some ⟨blk,off,none⟩) d.size cap,int i64 a,int i64 m,int i64 b,.func (.func g) #[] cb] w fun e w'=>e=.returned (.tuple #[])/\∃ d',z0s a m b d d'/\SWK enc k w0 blk off d' w':=by
 have HS:Hid (SWK enc k w0 blk off d w):=S;have HC:=Hd (fun a b n dk W h1 h2 h3 h4=>zf4 k zE enc (.func (.func g) #[] cb) blk off cap a b n d0 dk w0 W R h1 h2 h3 h4);clear S zE;have e0:((m - a:Nat):Int)=(m:Int) - (a:Int):=(by omega);have e1:((b - m:Nat):Int)=(b:Int) - (m:Int):=(by omega);go_enter Tryz.func105,Tryz.ntmps105;go_wp2_with fail
 go_loopw [10,11] (fun s10 s11 W=>∃ (i j:Nat) (dk:Array Cl),s10=int i64 i/\s11=int i64 j/\0 < i/\i<=m - a/\0 < j/\j<=b - m/\dk.size=d.size/\Hid (SWK enc k w0 blk off dk W)/\Hid (∀ f,z0s (m - i) m (m+j) dk f->z0s a m b d f)) (fun s10 s11 _=>(intOf s10).toNat+(intOf s11).toNat)
 case atStart=>exact ⟨m - a,b - m,d,by rw [e0],by rw [e1],by omega,Nat.le_refl _,by omega,Nat.le_refl _,rfl,HS,fun f hf=>by rw [show m - (m - a)=a by omega,show m+(b - m)=b by omega] at hf;exact hf⟩
 case round =>
  obtain ⟨i,j,dk,rfl,rfl,hi0,hi,hj0,hj,hds,HK,HF⟩:=hrel;by_cases hij:i=j
  ·subst hij;have hne:((i:Int) != (i:Int))=false:=(by simp);have HW:=HC.out (m - i) m i dk wr (by omega) HK.out (by omega) (by omega) (by omega);have e2:((m - i:Nat):Int)=(m:Int) - (i:Int):=(by omega);rw [e2,hds] at HW;go_wp2_with fail
   refine HW.mono ?_;rintro e w2 ⟨rfl,d2,h2,S2⟩;have HE:=Hd (HF.out d2 (z0s.even (by omega) h2));have HS2:=Hd S2;clear h2 S2;go_wp2
   go_end0
   exact ⟨rfl,d2,HE.out,HS2.out⟩
  ·have hne:((i:Int) != (j:Int))=true:=(by simp;omega);by_cases hlt:j < i
   ·have hltz:(j:Int) < (i:Int):=(by omega);have HW:=HC.out (m - i) m j dk wr (by omega) HK.out (by omega) (by omega) (by omega);have e2:((m - i:Nat):Int)=(m:Int) - (i:Int):=(by omega);rw [e2,hds] at HW;go_wp2_with fail
    refine HW.mono ?_;rintro e w2 ⟨rfl,d2,h2,S2⟩;have hd2:=h2.size;have HE:Hid (∀ f,z0s (m - (i - j)) m (m+j) d2 f->z0s a m b d f):=fun f hf=>HF.out f (z0s.more hlt (by omega) h2 (by rw [show m - i+j=m - (i - j) by omega];exact hf));have HS2:=Hd S2;clear h2 S2;go_wp2;go_roundw
    case rel=>exact ⟨i - j,j,d2,by rw [show ((i - j:Nat):Int)=(i:Int) - (j:Int) by omega],rfl,by omega,by omega,hj0,hj,by omega,HS2,HE⟩
    case measure=>simp [intOf];omega
   ·have hltz:¬ (j:Int) < (i:Int):=(by omega);have HW:=HC.out (m - i) (m+j - i) i dk wr (by omega) HK.out (by omega) (by omega) (by omega);have e2:((m - i:Nat):Int)=(m:Int) - (i:Int):=(by omega);have e3:((m+j - i:Nat):Int)=(m:Int)+(j:Int) - (i:Int):=(by omega);rw [e2,e3,hds] at HW;go_wp2_with fail
    refine HW.mono ?_;rintro e w2 ⟨rfl,d2,h2,S2⟩;have hd2:=h2.size;have HE:Hid (∀ f,z0s (m - i) m (m+(j - i)) d2 f->z0s a m b d f):=fun f hf=>HF.out f (z0s.less (by omega) (by omega) h2 (by rw [show m+j - i=m+(j - i) by omega];exact hf));have HS2:=Hd S2;clear h2 S2;go_wp2;go_roundw
    case rel=>exact ⟨i,j - i,d2,rfl,by rw [show ((j - i:Nat):Int)=(j:Int) - (i:Int) by omega],hi0,hi,by omega,by omega,by omega,HS2,HE⟩
    case measure=>simp [intOf];omega
end
section
open Go.Sort
theorem zcX {a m b s e mid:Nat} {d d1:Array Cl} (h:z2N a m b d) (hr:z0s s m e d d1) (ha:a<=s) (hs:s<=m) (hm:m<=e) (he:e<=b) (hmid:s+e=mid+m)
  (hLo:a < s->e < b->tB d[e]! d[s - 1]! = false) (hHi:s < m->m < e->tB d[e - 1]! d[s]! = true) :
  z2N a s mid d1/\z2N mid e b d1/\∀ x y,a<=x->x < mid->mid<=y->y < b->tB d1[y]! d1[x]! = false:=by
 have p1:∀ t,t < s->d1[t]! = d[t]! := fun t q=>hr.rest t (by omega);have p2:∀ t,s<=t->t < mid->d1[t]! = d[t+(m - s)]! := fun t q1 q2=>hr.low t q1 (by omega);have p3:∀ t,mid<=t->t < e->d1[t]! = d[t - (e - m)]! := fun t q1 q2=>hr.high t (by omega) q2;have p4:∀ t,e<=t->d1[t]! = d[t]! := fun t q=>hr.rest t (by omega);refine ⟨⟨?_,?_,?_⟩,⟨?_,?_,?_⟩,?_⟩
 ·intro x y g1 g2 g3;rw [p1 x (by omega),p1 y g3];exact h.l x y g1 g2 (by omega)
 ·intro x y g1 g2 g3;rw [p2 x g1 (by omega),p2 y (by omega) g3];exact h.r _ _ (by omega) (by omega) (by omega)
 ·intro x y g1 g2 g3 g4;rw [p1 x g2,p2 y g3 g4];exact h.c _ _ g1 (by omega) (by omega) (by omega)
 ·intro x y g1 g2 g3;rw [p3 x g1 (by omega),p3 y (by omega) g3];exact h.l _ _ (by omega) (by omega) (by omega)
 ·intro x y g1 g2 g3;rw [p4 x g1,p4 y (by omega)];exact h.r _ _ (by omega) g2 g3
 ·intro x y g1 g2 g3 g4;rw [p3 x g1 g2,p4 y g3];exact h.c _ _ (by omega) (by omega) (by omega) g4
 ·intro x y g1 g2 g3 g4;by_cases e1:x < s
  ·rw [p1 x e1];by_cases e2:y < e
   ·rw [p3 y g3 e2];exact h.l _ _ g1 (by omega) (by omega)
   ·rw [p4 y (by omega)];exact z30.ntrans _ d[e]! _ (z4o h.r hm (by omega) g4) (z30.ntrans _ d[s - 1]! _ (hLo (by omega) (by omega)) (z4o h.l g1 (by omega) (by omega)))
  ·rw [p2 x (by omega) g2];by_cases e2:y < e
   ·rw [p3 y g3 e2];have t1:=hHi (by omega) (by omega);have t2:=z4o h.r (show m<=x+(m - s) by omega) (show x+(m - s)<=e - 1 by omega) (by omega);have t3:=z4o h.l (show a<=s by omega) (show s<=y - (e - m) by omega) (by omega)
    cases e3:tB d[y - (e - m)]! d[x+(m - s)]!
    ·rfl
    ·exfalso
     have t4:=z30.ntrans _ _ _ t2 (z4D e3);have t5:=z30.ntrans _ _ _ t4 t3;rw [t1] at t5
     cases t5
   ·rw [p4 y (by omega)];exact h.r _ _ (by omega) (by omega) g4
theorem z2N.kept {a m b c:Nat} {d d':Array Cl} (h:z2N a m b d) (ham:a<=m) (hp:PermIn c a d d'):z2N a m b d':=by
 have e:∀ t,a<=t->d'[t]! = d[t]! := fun t q=>hp.2.1 t (Or.inr q);refine ⟨fun x y g1 g2 g3=>?_,fun x y g1 g2 g3=>?_,fun x y g1 g2 g3 g4=>?_⟩
 ·rw [e x g1,e y (by omega)];exact h.l x y g1 g2 g3
 ·rw [e x (by omega),e y (by omega)];exact h.r x y g1 g2 g3
 ·rw [e x g1,e y (by omega)];exact h.c x y g1 g2 g3 g4
theorem z8W {a mid b:Nat} {d1 d2 d3:Array Cl} (h1:a<=mid) (h2:mid<=b) (hb:b<=d1.size) (hA:∀ x y,a<=x->x < mid->mid<=y->y < b->tB d1[y]! d1[x]! = false)
  (p2:PermIn a mid d1 d2) (s2:SortedIn tB a mid d2) (p3:PermIn mid b d2 d3) (s3:SortedIn tB mid b d3):PermIn a b d1 d3/\SortedIn tB a b d3:=by
 have z2:=p2.1;refine ⟨permIn_trans _ _ _ a b (permIn_mono _ _ a mid a b (Nat.le_refl _) h2 hb p2) (permIn_mono _ _ mid b a b h1 (Nat.le_refl _) (by omega) p3),fun x y g1 g2 g3=>?_⟩;by_cases e1:y < mid
 ·rw [p3.2.1 x (by omega),p3.2.1 y (by omega)];exact s2 x y g1 g2 e1
 ·by_cases e2:mid<=x
  ·exact s3 x y e2 g2 g3
  ·rw [p3.2.1 x (by omega)];refine permIn_all d2 d3 mid b (fun z=>tB z d2[x]! = false) (by omega) p3 (fun q q1 q2=>?_) y (by omega) g3;show tB d2[q]! d2[x]! = false;rw [p2.2.1 q (by omega)];exact permIn_all d1 d2 a mid (fun z=>tB d1[q]! z=false) (by omega) p2 (fun r r1 r2=>hA r q r1 r2 q1 q2) x g1 (by omega)
end
section
open Go.RowKit Go.Shelf Go.Lib Go.Sort
theorem ze1 (k:Nat) (zE:∀ w,(Go.sizeOf 150).run Tryz.prog w=.ok k w) (enc:Cl->List Value) (g:Nat) (cb:Array Value) (blk off cap a m b:Nat) (d0 d:Array Cl) (w0 w:World)
  (eg:∀ args w,(callFunc g args).run Tryz.prog w=.ok (.enter g args) w) (hcmp:CmpLays Tryz.prog g cb enc k cfC blk off d0.size w0) (R:RowK enc k w0 blk off d0) (hs:d0.size=d.size) (S:SWK enc k w0 blk off d w) (M:z2N a m b d) (ham:a < m) (hmb:m < b) (hb:b<=d.size) (hsz:d.size < 4611686018427387904) (h1:m=a+1) :
  Calls Tryz.prog 101 #[.slice (some ⟨blk,off,none⟩) d.size cap,int i64 a,int i64 m,int i64 b,.func (.func g) #[] cb] w fun e w'=>e=.returned (.tuple #[])/\∃ d',PermIn a b d d'/\SortedIn tB a b d'/\SWK enc k w0 blk off d' w':=by
 have mixed:Tryz.prog.follows Departure.mixedOrders=true:=(by kernel_rfl);have HC:Aside _:=hcmp;have S0:Aside (SWK enc k w0 blk off d w):=S;have HM:Hid (z2N a m b d):=M;clear S hcmp M;have t1:(((m:Int) - (a:Int)) == 1)=true:=(by simp;omega);have hle:m<=a+1:=(by omega);have H1:=Hd h1;clear h1;go_enter Tryz.func101,Tryz.ntmps101;go_wp2_with fail
 go_loopg [10,11] (b - m) (fun kx s10 s11 wr=>∃ lo hi:Nat,s10=int i64 lo/\s11=int i64 hi/\m<=lo/\lo<=hi/\hi<=b/\hi - lo<=kx/\Aside (SWK enc k w0 blk off d wr) /\
  Hid ((m < lo->tB d[lo - 1]! d[a]! = true)/\(hi < b->tB d[hi]! d[a]! = false)))
 case atStart=>exact ⟨m,b,rfl,rfl,Nat.le_refl _,by omega,Nat.le_refl _,Nat.le_refl _,S0,fun h=>absurd h (Nat.lt_irrefl _),fun h=>absurd h (Nat.lt_irrefl _)⟩
 case round =>
  clear S0;obtain ⟨lo,hi,rfl,rfl,h2,h3,h4,h5,S1,I⟩:=hrel;by_cases hlt:lo < hi
  ·obtain ⟨mi,hmi⟩:∃ mi,mi=(lo+hi) / 2:=⟨_,rfl⟩;have em:((lo:Int)+(hi:Int)) / 2=(mi:Int):=(by omega);have m1:lo<=mi:=(by omega);have m2:mi < hi:=(by omega);clear hmi;have hcv:ltOf cfC d[mi]! d[a]! = tB d[mi]! d[a]! := z9f (HM.out.c a mi (Nat.le_refl _) ham (by omega) (by omega));by_cases hv:cfC d[mi]! d[a]! < 0
   ·have I2:Hid ((m < mi+1->tB d[mi+1 - 1]! d[a]! = true)/\(hi < b->tB d[hi]! d[a]! = false)):=⟨fun _=>by rw [Nat.add_sub_cancel,<-hcv];exact decide_eq_true hv,I.out.2⟩;clear hcv;have ea:((mi:Int)).toNat=mi:=(by omega);have pa:(0:Int)<=(mi:Int):=(by omega);have ba:(mi:Int) < (d.size:Int):=(by omega);have ra:IntKind.i64.wrap ((mi:Int))=(mi:Int):=(by rw [IntKind.wrap_i64];omega);have ec:((a:Int)).toNat=a:=(by omega);have pc:(0:Int)<=(a:Int):=(by omega);have bc:(a:Int) < (d.size:Int):=(by omega);have rc:IntKind.i64.wrap ((a:Int))=(a:Int):=(by rw [IntKind.wrap_i64];omega);have la:=S1.out.ld R (by omega) Tryz.prog (mi) (by omega);have lb:=S1.out.ld R (by omega) Tryz.prog (a) (by omega);have hc:=S1.out.cmp HC.out (by omega) d[mi]! d[a]!;generalize d[mi]! = x at hc la hv;generalize d[a]! = y at hc lb hv;have hd:decide (cfC x y < 0)=true:=(by simpa using hv);go_wp2_with fail
    go_quiet_grown (first | (go_at_fn g;refine Calls.grown_of (hc _ _)))
    have S2:Aside (SWK enc k w0 blk off d (grow (wr.drewN nq) osq)):=S1.out.grown nq osq;clear la lb hc S1 hd hv;generalize grow (wr.drewN nq) osq=w2 at S2 |-;clear nq osq;go_wp2;go_roundg (hi - (mi+1))
    case measure=>omega
    case rel=>exact ⟨mi+1,hi,by go_num,rfl,by omega,by omega,h4,Nat.le_refl _,S2,I2⟩
   ·have I2:Hid ((m < lo->tB d[lo - 1]! d[a]! = true)/\(mi < b->tB d[mi]! d[a]! = false)):=⟨I.out.1,fun _=>by rw [<-hcv];exact decide_eq_false hv⟩;clear hcv;have ea:((mi:Int)).toNat=mi:=(by omega);have pa:(0:Int)<=(mi:Int):=(by omega);have ba:(mi:Int) < (d.size:Int):=(by omega);have ra:IntKind.i64.wrap ((mi:Int))=(mi:Int):=(by rw [IntKind.wrap_i64];omega);have ec:((a:Int)).toNat=a:=(by omega);have pc:(0:Int)<=(a:Int):=(by omega);have bc:(a:Int) < (d.size:Int):=(by omega);have rc:IntKind.i64.wrap ((a:Int))=(a:Int):=(by rw [IntKind.wrap_i64];omega);have la:=S1.out.ld R (by omega) Tryz.prog (mi) (by omega);have lb:=S1.out.ld R (by omega) Tryz.prog (a) (by omega);have hc:=S1.out.cmp HC.out (by omega) d[mi]! d[a]!;generalize d[mi]! = x at hc la hv;generalize d[a]! = y at hc lb hv;have hd:decide (cfC x y < 0)=false:=(by simpa using hv);go_wp2_with fail
    go_quiet_grown (first | (go_at_fn g;refine Calls.grown_of (hc _ _)))
    have S2:Aside (SWK enc k w0 blk off d (grow (wr.drewN nq) osq)):=S1.out.grown nq osq;clear la lb hc S1 hd hv;generalize grow (wr.drewN nq) osq=w2 at S2 |-;clear nq osq;go_wp2;go_roundg (mi - lo)
    case measure=>omega
    case rel=>exact ⟨lo,mi,rfl,rfl,h2,m1,by omega,Nat.le_refl _,S2,I2⟩
  ·obtain rfl:hi=lo:=by omega
   clear hlt h5;go_wp2_with fail
   go_loopg [13] (hi - 1 - a) (fun kx s13 wr2=>∃ (q:Nat) (dk:Array Cl),s13=int i64 q/\a<=q/\q<=hi - 1/\hi - 1 - q<=kx/\dk.size=d.size/\Aside (SWK enc k w0 blk off dk wr2)/\Hid (z0s a (a+1) (q+1) d dk))
   case atStart=>exact ⟨a,d,rfl,Nat.le_refl _,by omega,Nat.le_refl _,rfl,S1,z0s.right_none a (a+1) d⟩
   case round =>
    clear S1;obtain ⟨q,dk,rfl,g1,g2,g3,hds,S1,HE⟩:=hrel;by_cases hlt:q < hi - 1
    ·have hltz:(q:Int) < (hi:Int) - 1:=(by omega);have HN:=Hd (HE.out.up g1 (by omega));have ea:((q:Int)).toNat=q:=(by omega);have pa:(0:Int)<=(q:Int):=(by omega);have ba:(q:Int) < (d.size:Int):=(by omega);have ra:IntKind.i64.wrap ((q:Int))=(q:Int):=(by rw [IntKind.wrap_i64];omega);have ec:((q:Int)+1).toNat=q+1:=(by omega);have pc:(0:Int)<=(q:Int)+1:=(by omega);have bc:(q:Int)+1 < (d.size:Int):=(by omega);have rc:IntKind.i64.wrap ((q:Int)+1)=(q:Int)+1:=(by rw [IntKind.wrap_i64];omega);have S2:Aside (SWK enc k w0 blk off (swp dk (q) (q+1)) ((wr.drew.setCells blk (off+(q) * k) (enc dk[q+1]!)).setCells blk (off+(q+1) * k) (enc dk[q]!))):=S1.out.swapped R (q) (q+1) (by omega) (by omega);have la:=S1.out.ld1 R (by omega) Tryz.prog (q) (by omega);have lb:=S1.out.ld1 R (by omega) Tryz.prog (q+1) (by omega);have sa:=S1.out.st1 R (by omega) Tryz.prog (q) (by omega) dk[q+1]!;have sb:=S1.out.st2 R (by omega) Tryz.prog (q) (q+1) (by omega) (by omega) dk[q+1]! dk[q]!;have na:(enc dk[q]!).length=k:=R.hk _;have nb:(enc dk[q+1]!).length=k:=R.hk _;generalize enc dk[q]! = cI at S2 la sb na;generalize enc dk[q+1]! = cJ at S2 lb sa sb nb;clear S1;go_wp2_with fail
     go_big_region_o
     clear la lb sa sb;generalize (wr.drew.setCells blk (off+(q) * k) cJ).setCells blk (off+(q+1) * k) cI=w2 at S2 |-;go_wp2;go_roundg (hi - 1 - (q+1))
     case measure=>omega
     case rel=>exact ⟨q+1,swp dk q (q+1),by go_num,by omega,by omega,Nat.le_refl _,by rw [size_swp];exact hds,S2,HN⟩
    ·have hltz:¬ (q:Int) < (hi:Int) - 1:=(by omega);obtain rfl:q=hi - 1:=by omega
     have HR:z0s a (a+1) hi d dk:=(by have:=HE.out;rwa [show hi - 1+1=hi by omega] at this)
     have HD:Hid (PermIn a b d dk/\SortedIn tB a b dk):=by
      refine ⟨permIn_mono _ _ a hi a b (Nat.le_refl _) h4 (by omega) (HR.perm (by omega) (by omega) (by omega)),?_⟩;have h1:=H1.out;subst h1;exact z8e HM.out HR (by omega) h4 I.out.1 I.out.2
     clear HR;go_wp2
     (try simp only [Exit.inBlock,Exit.then])
     refine bodyPost_ret (results_none rfl _ _ _) rfl ?_;exact ⟨rfl,dk,HD.out.1,HD.out.2,S1.out⟩
theorem zcY (k:Nat) (zE:∀ w,(Go.sizeOf 150).run Tryz.prog w=.ok k w) (enc:Cl->List Value) (g:Nat) (cb:Array Value) (blk off cap a m b:Nat) (d0 d:Array Cl) (w0 w:World)
  (eg:∀ args w,(callFunc g args).run Tryz.prog w=.ok (.enter g args) w) (hcmp:CmpLays Tryz.prog g cb enc k cfC blk off d0.size w0) (R:RowK enc k w0 blk off d0) (hs:d0.size=d.size) (S:SWK enc k w0 blk off d w) (M:z2N a m b d) (ham:a < m) (hmb:m < b) (hb:b<=d.size) (hsz:d.size < 4611686018427387904) (h0:m ≠ a+1) (h1:b=m+1) :
  Calls Tryz.prog 101 #[.slice (some ⟨blk,off,none⟩) d.size cap,int i64 a,int i64 m,int i64 b,.func (.func g) #[] cb] w fun e w'=>e=.returned (.tuple #[])/\∃ d',PermIn a b d d'/\SortedIn tB a b d'/\SWK enc k w0 blk off d' w':=by
 have mixed:Tryz.prog.follows Departure.mixedOrders=true:=(by kernel_rfl);have HC:Aside _:=hcmp;have S0:Aside (SWK enc k w0 blk off d w):=S;have HM:Hid (z2N a m b d):=M;clear S hcmp M;have t0:(((m:Int) - (a:Int)) == 1)=false:=(by simp;omega);have t1:(((b:Int) - (m:Int)) == 1)=true:=(by simp;omega);have hle:b<=m+1:=(by omega);have H1:=Hd h1;clear h1;go_enter Tryz.func101,Tryz.ntmps101;go_wp2_with fail
 go_loopg [14,15] (m - a) (fun kx s14 s15 wr=>∃ lo hi:Nat,s14=int i64 lo/\s15=int i64 hi/\a<=lo/\lo<=hi/\hi<=m/\hi - lo<=kx/\Aside (SWK enc k w0 blk off d wr) /\
  Hid ((a < lo->tB d[m]! d[lo - 1]! = false)/\(hi < m->tB d[m]! d[hi]! = true)))
 case atStart=>exact ⟨a,m,rfl,rfl,Nat.le_refl _,by omega,Nat.le_refl _,Nat.le_refl _,S0,fun h=>absurd h (Nat.lt_irrefl _),fun h=>absurd h (Nat.lt_irrefl _)⟩
 case round =>
  clear S0;obtain ⟨lo,hi,rfl,rfl,h2,h3,h4,h5,S1,I⟩:=hrel;by_cases hlt:lo < hi
  ·obtain ⟨mi,hmi⟩:∃ mi,mi=(lo+hi) / 2:=⟨_,rfl⟩;have em:((lo:Int)+(hi:Int)) / 2=(mi:Int):=(by omega);have m1:lo<=mi:=(by omega);have m2:mi < hi:=(by omega);clear hmi;have hcv:ltOf cfC d[m]! d[mi]! = tB d[m]! d[mi]! := z9f (HM.out.c mi m (by omega) (by omega) (Nat.le_refl _) hmb);by_cases hv:cfC d[m]! d[mi]! < 0
   ·have I2:Hid ((a < lo->tB d[m]! d[lo - 1]! = false)/\(mi < m->tB d[m]! d[mi]! = true)):=⟨I.out.1,fun _=>by rw [<-hcv];exact decide_eq_true hv⟩;clear hcv;have ea:((m:Int)).toNat=m:=(by omega);have pa:(0:Int)<=(m:Int):=(by omega);have ba:(m:Int) < (d.size:Int):=(by omega);have ra:IntKind.i64.wrap ((m:Int))=(m:Int):=(by rw [IntKind.wrap_i64];omega);have ec:((mi:Int)).toNat=mi:=(by omega);have pc:(0:Int)<=(mi:Int):=(by omega);have bc:(mi:Int) < (d.size:Int):=(by omega);have rc:IntKind.i64.wrap ((mi:Int))=(mi:Int):=(by rw [IntKind.wrap_i64];omega);have la:=S1.out.ld R (by omega) Tryz.prog (m) (by omega);have lb:=S1.out.ld R (by omega) Tryz.prog (mi) (by omega);have hc:=S1.out.cmp HC.out (by omega) d[m]! d[mi]!;generalize d[m]! = x at hc la hv;generalize d[mi]! = y at hc lb hv;have hd:decide (cfC x y < 0)=true:=(by simpa using hv);go_wp2_with fail
    go_quiet_grown (first | (go_at_fn g;refine Calls.grown_of (hc _ _)))
    have S2:Aside (SWK enc k w0 blk off d (grow (wr.drewN nq) osq)):=S1.out.grown nq osq;clear la lb hc S1 hd hv;generalize grow (wr.drewN nq) osq=w2 at S2 |-;clear nq osq;go_wp2;go_roundg (mi - lo)
    case measure=>omega
    case rel=>exact ⟨lo,mi,rfl,rfl,h2,m1,by omega,Nat.le_refl _,S2,I2⟩
   ·have I2:Hid ((a < mi+1->tB d[m]! d[mi+1 - 1]! = false)/\(hi < m->tB d[m]! d[hi]! = true)):=⟨fun _=>by rw [Nat.add_sub_cancel,<-hcv];exact decide_eq_false hv,I.out.2⟩;clear hcv;have ea:((m:Int)).toNat=m:=(by omega);have pa:(0:Int)<=(m:Int):=(by omega);have ba:(m:Int) < (d.size:Int):=(by omega);have ra:IntKind.i64.wrap ((m:Int))=(m:Int):=(by rw [IntKind.wrap_i64];omega);have ec:((mi:Int)).toNat=mi:=(by omega);have pc:(0:Int)<=(mi:Int):=(by omega);have bc:(mi:Int) < (d.size:Int):=(by omega);have rc:IntKind.i64.wrap ((mi:Int))=(mi:Int):=(by rw [IntKind.wrap_i64];omega);have la:=S1.out.ld R (by omega) Tryz.prog (m) (by omega);have lb:=S1.out.ld R (by omega) Tryz.prog (mi) (by omega);have hc:=S1.out.cmp HC.out (by omega) d[m]! d[mi]!;generalize d[m]! = x at hc la hv;generalize d[mi]! = y at hc lb hv;have hd:decide (cfC x y < 0)=false:=(by simpa using hv);go_wp2_with fail
    go_quiet_grown (first | (go_at_fn g;refine Calls.grown_of (hc _ _)))
    have S2:Aside (SWK enc k w0 blk off d (grow (wr.drewN nq) osq)):=S1.out.grown nq osq;clear la lb hc S1 hd hv;generalize grow (wr.drewN nq) osq=w2 at S2 |-;clear nq osq;go_wp2;go_roundg (hi - (mi+1))
    case measure=>omega
    case rel=>exact ⟨mi+1,hi,by go_num,rfl,by omega,by omega,h4,Nat.le_refl _,S2,I2⟩
  ·obtain rfl:hi=lo:=by omega
   clear hlt h5;go_wp2_with fail
   go_loopg [17] (m - hi) (fun kx s17 wr2=>∃ (q:Nat) (dk:Array Cl),s17=int i64 q/\hi<=q/\q<=m/\q - hi<=kx/\dk.size=d.size/\Aside (SWK enc k w0 blk off dk wr2)/\Hid (z0s q m (m+1) d dk))
   case atStart=>exact ⟨m,d,rfl,h4,Nat.le_refl _,Nat.le_refl _,rfl,S1,z0s.left_none m (m+1) d⟩
   case round =>
    clear S1;obtain ⟨q,dk,rfl,g1,g2,g3,hds,S1,HE⟩:=hrel;by_cases hlt:hi < q
    ·obtain ⟨jp,rfl⟩:∃ jp,q=jp+1:=⟨q - 1,by omega⟩;have hltz:(hi:Int) < (jp:Int)+1:=(by omega);have HN:=Hd (HE.out.down g2 (by omega));have ea:((jp:Int)+1).toNat=jp+1:=(by omega);have pa:(0:Int)<=(jp:Int)+1:=(by omega);have ba:(jp:Int)+1 < (d.size:Int):=(by omega);have ra:IntKind.i64.wrap ((jp:Int)+1)=(jp:Int)+1:=(by rw [IntKind.wrap_i64];omega);have ec:((jp:Int)).toNat=jp:=(by omega);have pc:(0:Int)<=(jp:Int):=(by omega);have bc:(jp:Int) < (d.size:Int):=(by omega);have rc:IntKind.i64.wrap ((jp:Int))=(jp:Int):=(by rw [IntKind.wrap_i64];omega);have S2:Aside (SWK enc k w0 blk off (swp dk (jp+1) (jp)) ((wr.drew.setCells blk (off+(jp+1) * k) (enc dk[jp]!)).setCells blk (off+(jp) * k) (enc dk[jp+1]!))):=S1.out.swapped R (jp+1) (jp) (by omega) (by omega);have la:=S1.out.ld1 R (by omega) Tryz.prog (jp+1) (by omega);have lb:=S1.out.ld1 R (by omega) Tryz.prog (jp) (by omega);have sa:=S1.out.st1 R (by omega) Tryz.prog (jp+1) (by omega) dk[jp]!;have sb:=S1.out.st2 R (by omega) Tryz.prog (jp+1) (jp) (by omega) (by omega) dk[jp]! dk[jp+1]!;have na:(enc dk[jp+1]!).length=k:=R.hk _;have nb:(enc dk[jp]!).length=k:=R.hk _;generalize enc dk[jp+1]! = cI at S2 la sb na;generalize enc dk[jp]! = cJ at S2 lb sa sb nb;clear S1;go_wp2_with fail
     go_big_region_o
     clear la lb sa sb;generalize (wr.drew.setCells blk (off+(jp+1) * k) cJ).setCells blk (off+(jp) * k) cI=w2 at S2 |-;go_wp2;go_roundg (jp - hi)
     case measure=>omega
     case rel=>exact ⟨jp,swp dk (jp+1) jp,by go_num,by omega,by omega,Nat.le_refl _,by rw [size_swp];exact hds,S2,HN⟩
    ·have hltz:¬ (hi:Int) < (q:Int):=(by omega);obtain rfl:q=hi:=by omega
     have HD:Hid (PermIn a b d dk/\SortedIn tB a b dk):=by
      have h1:=H1.out;subst h1;exact ⟨permIn_mono _ _ q (m+1) a (m+1) h2 (Nat.le_refl _) (by omega) (HE.out.perm (by omega) (by omega) (by omega)),z7D HM.out HE.out h2 h4 I.out.1 I.out.2⟩
     go_wp2
     (try simp only [Exit.inBlock,Exit.then])
     refine bodyPost_ret (results_none rfl _ _ _) rfl ?_;exact ⟨rfl,dk,HD.out.1,HD.out.2,S1.out⟩
theorem zac (k:Nat) (zE:∀ w,(Go.sizeOf 150).run Tryz.prog w=.ok k w) (enc:Cl->List Value) (g:Nat) (cb:Array Value) (blk off cap a m b:Nat) (d0 d:Array Cl) (w0 w:World)
  (eg:∀ args w,(callFunc g args).run Tryz.prog w=.ok (.enter g args) w) (hcmp:CmpLays Tryz.prog g cb enc k cfC blk off d0.size w0) (R:RowK enc k w0 blk off d0) (hs:d0.size=d.size) (S:SWK enc k w0 blk off d w) (M:z2N a m b d) (ham:a < m) (hmb:m < b) (hb:b<=d.size) (hsz:d.size < 4611686018427387904) (h0:m ≠ a+1) (h1:b ≠ m+1)
  (IH:∀ (a' m' b':Nat) (d':Array Cl) (W:World),b' - a' < b - a->d0.size=d'.size->SWK enc k w0 blk off d' W->z2N a' m' b' d'->a' < m'->m' < b'->b'<=d'.size->d'.size < 4611686018427387904 ->
   Calls Tryz.prog 101 #[.slice (some ⟨blk,off,none⟩) d'.size cap,int i64 a',int i64 m',int i64 b',.func (.func g) #[] cb] W fun e w'=>e=.returned (.tuple #[])/\∃ d'',PermIn a' b' d' d''/\SortedIn tB a' b' d''/\SWK enc k w0 blk off d'' w') (mid:Nat) (hmd1:2 * mid<=a+b) (hmd2:a+b<=2 * mid+1) (lo hi:Nat) (hc:(lo=mid+m - b/\hi=mid/\mid < m)\/(lo=a/\hi=m/\¬ mid < m)) :
  Calls Tryz.prog 101 #[.slice (some ⟨blk,off,none⟩) d.size cap,int i64 a,int i64 m,int i64 b,.func (.func g) #[] cb] w fun e w'=>e=.returned (.tuple #[])/\∃ d',PermIn a b d d'/\SortedIn tB a b d'/\SWK enc k w0 blk off d' w':=by
 rcases hc with ⟨e1,e2,hmm⟩ | ⟨e1,e2,hmm⟩
 case' inl =>
  have hmz:(mid:Int) < (m:Int):=(by omega);have en:(mid:Int)+(m:Int) - (b:Int)=((mid+m - b:Nat):Int):=by omega
 case' inr =>
  have hmz:¬ (mid:Int) < (m:Int):=by omega
 all_goals
  have l1:=Nat.le_of_eq e1;have l2:=Nat.le_of_eq e1.symm;have l3:=Nat.le_of_eq e2;have l4:=Nat.le_of_eq e2.symm;clear e1 e2;have mixed:Tryz.prog.follows Departure.mixedOrders=true:=(by kernel_rfl);have HC:Aside _:=hcmp;have S0:Aside (SWK enc k w0 blk off d w):=S;have HM:Hid (z2N a m b d):=M;clear S hcmp M;have HI:=Hd IH;have HRo:=Hd (fun s e dk W h1 h2 h3 h4 h5 h6=>zg0 k zE enc g cb blk off cap s m e d0 dk w0 W R h1 h2 h3 h4 h5 h6);clear IH;have t0:(((m:Int) - (a:Int)) == 1)=false:=(by simp;omega);have t1:(((b:Int) - (m:Int)) == 1)=false:=(by simp;omega);have em:((a:Int)+(b:Int)) / 2=(mid:Int):=(by omega);go_enter Tryz.func101,Tryz.ntmps101;go_wp2_with fail
  go_loopg [20,21] (b - a) (fun kx s20 s21 wr=>∃ s r:Nat,s20=int i64 s/\s21=int i64 r/\lo<=s/\s<=r/\r<=hi/\r - s<=kx/\Aside (SWK enc k w0 blk off d wr) /\
   Hid ((lo < s->tB d[mid+m - 1 - (s - 1)]! d[s - 1]! = false)/\(r < hi->tB d[mid+m - 1 - r]! d[r]! = true)))
  case atStart=>exact ⟨lo,hi,congrArg (Value.int .i64) (by omega),congrArg (Value.int .i64) (by omega),Nat.le_refl _,by omega,Nat.le_refl _,by omega,S0,fun h=>absurd h (Nat.lt_irrefl _),fun h=>absurd h (Nat.lt_irrefl _)⟩
  case round =>
   clear S0;obtain ⟨s,r,rfl,rfl,h2,h3,h4,h5,S1,I⟩:=hrel;by_cases hlt:s < r
   ·obtain ⟨mi,hmi⟩:∃ mi,mi=(s+r) / 2:=⟨_,rfl⟩;have em2:((s:Int)+(r:Int)) / 2=(mi:Int):=(by omega);have m1:s<=mi:=(by omega);have m2:mi < r:=(by omega);clear hmi;obtain ⟨pc,hpc⟩:∃ pc,pc=mid+m - 1 - mi:=⟨_,rfl⟩;have epc:(mid:Int)+(m:Int) - 1 - (mi:Int)=(pc:Int):=(by omega);have pc1:m<=pc:=(by omega);have pc2:pc < b:=(by omega);have hcv:ltOf cfC d[pc]! d[mi]! = tB d[pc]! d[mi]! := z9f (HM.out.c mi pc (by omega) (by omega) pc1 pc2);by_cases hv:cfC d[pc]! d[mi]! < 0
    ·have I2:Hid ((lo < s->tB d[mid+m - 1 - (s - 1)]! d[s - 1]! = false)/\(mi < hi->tB d[mid+m - 1 - mi]! d[mi]! = true)):=⟨I.out.1,fun _=>by rw [<-hpc,<-hcv];exact decide_eq_true hv⟩;clear hcv hpc;have ea:((pc:Int)).toNat=pc:=(by omega);have pa:(0:Int)<=(pc:Int):=(by omega);have ba:(pc:Int) < (d.size:Int):=(by omega);have ra:IntKind.i64.wrap ((pc:Int))=(pc:Int):=(by rw [IntKind.wrap_i64];omega);have ec:((mi:Int)).toNat=mi:=(by omega);have pcz:(0:Int)<=(mi:Int):=(by omega);have bc:(mi:Int) < (d.size:Int):=(by omega);have rc:IntKind.i64.wrap ((mi:Int))=(mi:Int):=(by rw [IntKind.wrap_i64];omega);have la:=S1.out.ld R (by omega) Tryz.prog (pc) (by omega);have lb:=S1.out.ld R (by omega) Tryz.prog (mi) (by omega);have hc:=S1.out.cmp HC.out (by omega) d[pc]! d[mi]!;generalize d[pc]! = x at hc la hv;generalize d[mi]! = y at hc lb hv;have hd:decide (cfC x y < 0)=true:=(by simpa using hv);go_wp2_with fail
     go_quiet_grown (first | (go_at_fn g;refine Calls.grown_of (hc _ _)))
     have S2:Aside (SWK enc k w0 blk off d (grow (wr.drewN nq) osq)):=S1.out.grown nq osq;clear la lb hc S1 hd hv;generalize grow (wr.drewN nq) osq=w2 at S2 |-;clear nq osq;go_wp2;go_roundg (mi - s)
     case measure=>omega
     case rel=>exact ⟨s,mi,rfl,rfl,h2,m1,by omega,Nat.le_refl _,S2,I2⟩
    ·have I2:Hid ((lo < mi+1->tB d[mid+m - 1 - (mi+1 - 1)]! d[mi+1 - 1]! = false)/\(r < hi->tB d[mid+m - 1 - r]! d[r]! = true)):=⟨fun _=>by rw [Nat.add_sub_cancel,<-hpc,<-hcv];exact decide_eq_false hv,I.out.2⟩;clear hcv hpc;have ea:((pc:Int)).toNat=pc:=(by omega);have pa:(0:Int)<=(pc:Int):=(by omega);have ba:(pc:Int) < (d.size:Int):=(by omega);have ra:IntKind.i64.wrap ((pc:Int))=(pc:Int):=(by rw [IntKind.wrap_i64];omega);have ec:((mi:Int)).toNat=mi:=(by omega);have pcz:(0:Int)<=(mi:Int):=(by omega);have bc:(mi:Int) < (d.size:Int):=(by omega);have rc:IntKind.i64.wrap ((mi:Int))=(mi:Int):=(by rw [IntKind.wrap_i64];omega);have la:=S1.out.ld R (by omega) Tryz.prog (pc) (by omega);have lb:=S1.out.ld R (by omega) Tryz.prog (mi) (by omega);have hc:=S1.out.cmp HC.out (by omega) d[pc]! d[mi]!;generalize d[pc]! = x at hc la hv;generalize d[mi]! = y at hc lb hv;have hd:decide (cfC x y < 0)=false:=(by simpa using hv);go_wp2_with fail
     go_quiet_grown (first | (go_at_fn g;refine Calls.grown_of (hc _ _)))
     have S2:Aside (SWK enc k w0 blk off d (grow (wr.drewN nq) osq)):=S1.out.grown nq osq;clear la lb hc S1 hd hv;generalize grow (wr.drewN nq) osq=w2 at S2 |-;clear nq osq;go_wp2;go_roundg (r - (mi+1))
     case measure=>omega
     case rel=>exact ⟨mi+1,r,by go_num,rfl,by omega,by omega,h4,Nat.le_refl _,S2,I2⟩
   ·obtain rfl:r=s:=by omega
    clear hlt h5;obtain ⟨e,he⟩:∃ e,e=mid+m - r:=⟨_,rfl⟩;have ee:(mid:Int)+(m:Int) - (r:Int)=(e:Int):=(by omega);have he1:e+r<=mid+m:=(by omega);have he2:mid+m<=e+r:=(by omega);clear he
    have hLo:a < r->e < b->tB d[e]! d[r - 1]! = false:=fun q1 q2=>by
     have:=I.out.1 (by omega)
     rwa [show mid+m - 1 - (r - 1)=e by omega] at this
    have hHi:r < m->m < e->tB d[e - 1]! d[r]! = true:=fun q1 q2=>by
     have:=I.out.2 (by omega)
     rwa [show mid+m - 1 - r=e - 1 by omega] at this
    have HAR:=Hd (fun d1 (hr:z0s r m e d d1)=>zcX (mid:=mid) HM.out hr (by omega) (by omega) (by omega) (by omega) (by omega) hLo hHi);clear hLo hHi I;by_cases hq0:r < m/\m < e
    case' pos =>
     have x1:(r:Int) < (m:Int):=(by omega);have x2:(m:Int) < (e:Int):=(by omega);have HW:=HRo.out r e d wr hs S1.out hq0.1 hq0.2 (by omega) hsz;go_wp2_with fail
     refine HW.mono ?_;rintro e7 w7 ⟨rfl,d7,r7,S7'⟩;have S7:=Hd S7';have z7:d7.size=d.size:=r7.size;have HP:=Hd (permIn_mono _ _ r e a b (by omega) (by omega) (by omega) (r7.perm (by omega) (by omega) (by omega)));have HRD:=Hd r7;clear HW S7' r7 S1
    case' neg =>
     obtain ⟨d7,e7⟩:∃ x,x=d:=⟨_,rfl⟩
     have HRD:Hid (z0s r m e d d7):=by
      rw [e7];show z0s r m e d d;by_cases q:r < m
      ·obtain rfl:e=m:=by omega
       exact z0s.right_none _ _ _
      ·obtain rfl:r=m:=by omega
       exact z0s.left_none _ _ _
     have HP:Hid (PermIn a b d d7):=by
      rw [e7];exact permIn_refl d a b
     have z7:d7.size=d.size:=(by rw [e7]);have S7:=Hd S1.out;rw [<-e7] at S7;obtain ⟨w7,ew⟩:∃ x,x=wr:=⟨_,rfl⟩;rw [<-ew] at S7 |-;clear S1 e7 ew;by_cases x1:(r:Int) < (m:Int)
     case' pos=>have x2:¬ (m:Int) < (e:Int):=by omega
    all_goals
     obtain ⟨M1',M2',HA'⟩:=HAR.out d7 HRD.out;have M1:=Hd M1';have M2:=Hd M2';have HA:=Hd HA';clear M1' M2' HA' HAR;by_cases hq1:a < r/\r < mid
     case' pos =>
      have v1:(a:Int) < (r:Int):=(by omega);have v2:(r:Int) < (mid:Int):=(by omega);have HW:=HI.out a r mid d7 w7 (by omega) (by omega) S7.out M1.out hq1.1 hq1.2 (by omega) (by omega);rw [z7] at HW;go_wp2_with fail
      refine HW.mono ?_;rintro e8 w8 ⟨rfl,d8,p8,s8,S8'⟩;have S8:=Hd S8';have z8:d8.size=d.size:=p8.1.trans z7;clear HW S8'
     case' neg =>
      obtain ⟨d8,e8⟩:∃ x,x=d7:=⟨_,rfl⟩
      have p8:PermIn a mid d7 d8:=by
       rw [e8];exact permIn_refl d7 a mid
      have s8:SortedIn tB a mid d8:=by
       rw [e8];by_cases q:a < r
       ·obtain rfl:r=mid:=by omega
        exact M1.out.l
       ·obtain rfl:r=a:=by omega
        exact M1.out.r
      have z8:d8.size=d.size:=p8.1.trans z7;have S8:=S7;rw [<-e8] at S8;obtain ⟨w8,ew⟩:∃ x,x=w7:=⟨_,rfl⟩;rw [<-ew] at S8 |-;clear e8 ew;by_cases v1:(a:Int) < (r:Int)
      case' pos=>have v2:¬ (r:Int) < (mid:Int):=by omega
     all_goals
      by_cases hq2:mid < e/\e < b
      ·have u1:(mid:Int) < (e:Int):=(by omega);have u2:(e:Int) < (b:Int):=(by omega);have HW:=HI.out mid e b d8 w8 (by omega) (by omega) S8.out (M2.out.kept (by omega) p8) (by omega) (by omega) (by omega) (by omega);rw [z8] at HW;go_wp2_with fail
       all_goals
        refine HW.mono ?_;rintro e9 w9 ⟨rfl,d9,p9,s9,S9'⟩;have S9:=Hd S9';clear HW S9'
        have HD:Hid (PermIn a b d d9/\SortedIn tB a b d9):=by
         have:=z8W (by omega) (by omega) (by omega) HA.out p8 s8 p9 s9;exact ⟨permIn_trans _ _ _ a b HP.out this.1,this.2⟩
        go_wp2
        all_goals
         go_end0
         exact ⟨rfl,d9,HD.out.1,HD.out.2,S9.out⟩
      ·have u0:¬ ((mid:Int) < (e:Int)/\(e:Int) < (b:Int)):=(by omega)
       have s9:SortedIn tB mid b d8:=by
        have hk:=M2.out.kept (by omega) p8;by_cases q:mid < e
        ·obtain rfl:e=b:=by omega
         exact hk.l
        ·obtain rfl:e=mid:=by omega
         exact hk.r
       have HD:Hid (PermIn a b d d8/\SortedIn tB a b d8):=by
        have:=z8W (by omega) (by omega) (by omega) HA.out p8 s8 (permIn_refl d8 mid b) s9;exact ⟨permIn_trans _ _ _ a b HP.out this.1,this.2⟩
       by_cases u1:(mid:Int) < (e:Int)
       case' pos=>have u2:¬ (e:Int) < (b:Int):=by omega
       all_goals
        go_wp2
        all_goals
         go_end0
         exact ⟨rfl,d8,HD.out.1,HD.out.2,S8.out⟩
end
section
open Go.Sort
def Seg (n:Nat) (T:Nat->Nat->Prop) (d:Array Cl):Prop:=∀ x y,x < y->y < n->(T x y->tB d[y]! d[x]! = false)/\(¬ T x y->d[x]!.p < d[y]!.p)
theorem Seg.iff {n:Nat} {T U:Nat->Nat->Prop} {d:Array Cl} (h:Seg n T d) (hh:∀ x y,x < y->y < n->(T x y ↔ U x y)):Seg n U d:=fun x y g1 g2 =>
 ⟨fun q=>(h x y g1 g2).1 ((hh x y g1 g2).2 q),fun q=>(h x y g1 g2).2 (fun r=>q ((hh x y g1 g2).1 r))⟩
theorem Seg.join {n a b:Nat} {T:Nat->Nat->Prop} {d d':Array Cl} (h:Seg n T d) (hn:n<=d.size) (hb:b<=n) (hp:PermIn a b d d') (hs:SortedIn tB a b d')
  (h1:∀ x y,x < a->a<=y->y < b->¬ T x y) (h2:∀ x y,a<=x->x < b->b<=y->y < n->¬ T x y):Seg n (fun x y=>T x y\/(a<=x/\y < b)) d':=by
 intro x y g1 g2;have out:∀ t,t < a\/b<=t->d'[t]! = d[t]! := hp.2.1;by_cases c1:a<=x
 ·by_cases c2:y < b
  ·exact ⟨fun _=>hs x y c1 g1 c2,fun q=>absurd (Or.inr ⟨c1,c2⟩) q⟩
  ·by_cases c3:x < b
   ·refine ⟨fun q=>?_,fun _=>?_⟩
    ·rcases q with q | q
     ·exact absurd q (h2 x y c1 c3 (by omega) g2)
     ·exact absurd q.2 c2
    ·rw [out y (by omega)];exact permIn_all d d' a b (fun z=>z.p < d[y]!.p) (by omega) hp (fun r r1 r2=>(h r y (by omega) g2).2 (h2 r y r1 r2 (by omega) g2)) x c1 c3
   ·rw [out x (by omega),out y (by omega)];exact ⟨fun q=>(h x y g1 g2).1 (by rcases q with q | q;exact q;omega),fun q=>(h x y g1 g2).2 (fun r=>q (Or.inl r))⟩
 ·by_cases c2:a<=y/\y < b
  ·refine ⟨fun q=>?_,fun _=>?_⟩
   ·rcases q with q | q
    ·exact absurd q (h1 x y (by omega) c2.1 c2.2)
    ·omega
   ·rw [out x (by omega)];exact permIn_all d d' a b (fun z=>d[x]!.p < z.p) (by omega) hp (fun r r1 r2=>(h x r (by omega) (by omega)).2 (h1 x r (by omega) r1 r2)) y c2.1 c2.2
  ·rw [out x (by omega),out y (by omega)];exact ⟨fun q=>(h x y g1 g2).1 (by rcases q with q | q;exact q;omega),fun q=>(h x y g1 g2).2 (fun r=>q (Or.inl r))⟩
def T1 (a:Nat) (x y:Nat):Prop:=y < a/\x / 20=y / 20
def T2 (s a:Nat) (x y:Nat):Prop:=(y < a/\x / (2 * s)=y / (2 * s))\/(a<=x/\x / s=y / s)
theorem zcZ {n:Nat} {d:Array Cl} (h:Asc 0 n d):Seg n (T1 0) d:=fun x y g1 g2=>⟨fun q=>absurd q.1 (Nat.not_lt_zero _),fun _=>h x y (Nat.zero_le _) g1 g2⟩
theorem z7E {n a b:Nat} {d:Array Cl} (h:Seg n (T1 a) d) (hb:b<=n):Asc a b d:=fun x y g1 g2 g3=>(h x y g2 (by omega)).2 (fun q=>by have:=q.1;omega)
theorem zf5 {n a:Nat} {d d':Array Cl} (h:Seg n (T1 a) d) (hn:n<=d.size) (ha:a % 20=0) (hb:a+20<=n) (hp:PermIn a (a+20) d d') (hs:SortedIn tB a (a+20) d'):Seg n (T1 (a+20)) d' :=
 (h.join hn hb hp hs (fun x y _ g2 _ q=>by have:=q.1;omega) (fun x y g1 g2 g3 _ q=>by have:=q.1;omega)).iff (fun x y g1 g2=>by unfold T1;omega)
theorem zaK {n a:Nat} {d d':Array Cl} (h:Seg n (T1 a) d) (hn:n<=d.size) (ha:a % 20=0) (han:a<=n) (hb:n < a+20) (hp:PermIn a n d d') (hs:SortedIn tB a n d'):Seg n (T2 20 0) d' :=
 (h.join hn (Nat.le_refl _) hp hs (fun x y _ g2 _ q=>by have:=q.1;omega) (fun x y g1 g2 g3 _ q=>by have:=q.1;omega)).iff (fun x y g1 g2=>by unfold T1 T2;omega)
theorem z7F {n s a m b:Nat} {d:Array Cl} (hs:s=20\/s=40\/s=80) (h:Seg n (T2 s a) d) (ha:a % (2 * s)=0) (hm:m=a+s) (hmb:m<=b) (hb:b<=n) (hb2:b<=a+2 * s):z2N a m b d:=by
 subst hm
 rcases hs with rfl | rfl | rfl
 all_goals
  refine ⟨fun x y g1 g2 g3=>?_,fun x y g1 g2 g3=>?_,fun x y g1 g2 g3 g4=>?_⟩
  ·exact (h x y g2 (by omega)).1 (by unfold T2;omega)
  ·exact (h x y g2 (by omega)).1 (by unfold T2;omega)
  ·exact (h x y (by omega) (by omega)).2 (by unfold T2;omega)
theorem zd0 {n s a b:Nat} {d d':Array Cl} (hs:s=20\/s=40\/s=80) (h:Seg n (T2 s a) d) (hn:n<=d.size) (ha:a % (2 * s)=0) (hb:b=a+2 * s) (hbn:b<=n) (hp:PermIn a b d d') (hq:SortedIn tB a b d'):Seg n (T2 s b) d':=by
 subst hb
 rcases hs with rfl | rfl | rfl
 all_goals exact (h.join hn hbn hp hq (fun x y g1 g2 g3 q=>by unfold T2 at q;omega) (fun x y g1 g2 g3 g4 q=>by unfold T2 at q;omega)).iff (fun x y g1 g2=>by unfold T2;omega)
theorem z9b {n s a:Nat} {d d':Array Cl} (hs:s=20\/s=40\/s=80) (h:Seg n (T2 s a) d) (hn:n<=d.size) (ha:a % (2 * s)=0) (h1:a<=n) (hbn:n < a+2 * s) (hp:PermIn a n d d') (hq:SortedIn tB a n d'):Seg n (T2 (2 * s) 0) d':=by
 rcases hs with rfl | rfl | rfl
 all_goals exact (h.join hn (Nat.le_refl _) hp hq (fun x y g1 g2 g3 q=>by unfold T2 at q;omega) (fun x y g1 g2 g3 g4 q=>by unfold T2 at q;omega)).iff (fun x y g1 g2=>by unfold T2;omega)
theorem ze2 {n s a:Nat} {d:Array Cl} (hs:s=20\/s=40\/s=80) (h:Seg n (T2 s a) d) (ha:a % (2 * s)=0) (h1:a<=n) (h2:n<=a+s):Seg n (T2 (2 * s) 0) d:=by
 rcases hs with rfl | rfl | rfl
 all_goals exact h.iff (fun x y g1 g2=>by unfold T2;omega)
theorem zbQ {n s:Nat} {d:Array Cl} (hs:s=20\/s=40\/s=80\/s=160) (h:Seg n (T2 s 0) d) (hn:n<=s):SortedIn tB 0 n d:=by
 intro x y g1 g2 g3;refine (h x y g2 g3).1 ?_
 rcases hs with rfl | rfl | rfl | rfl
 all_goals (unfold T2;omega)
end
section
open Go.RowKit Go.Shelf Go.Lib Go.Sort
theorem z8f (blk off cap:Nat) (d0:Array Cl) (w0:World) (R:RowK z0V 3 w0 blk off d0):∀ (n a m b:Nat) (d:Array Cl) (w:World),b - a<=n->d0.size=d.size->SWK z0V 3 w0 blk off d w->z2N a m b d->a < m->m < b->b<=d.size->d.size < 4611686018427387904 ->
  Calls Tryz.prog 101 #[.slice (some ⟨blk,off,none⟩) d.size cap,int i64 a,int i64 m,int i64 b,.func (.func 94) #[] #[]] w fun e w'=>e=.returned (.tuple #[])/\∃ d',PermIn a b d d'/\SortedIn tB a b d'/\SWK z0V 3 w0 blk off d' w'
 | 0,a,m,b,d,w,hn,_,_,_,h1,h2,_,_=>by omega
 | n+1,a,m,b,d,w,hn,hs,S,M,h1,h2,hb,hsz=>by
  by_cases c1:m=a+1
  ·exact ze1 3 Tryz.sizeOf150 z0V 94 #[] blk off cap a m b d0 d w0 w egC (zab _ _ _ _) R hs S M h1 h2 hb hsz c1
  ·by_cases c2:b=m+1
   ·exact zcY 3 Tryz.sizeOf150 z0V 94 #[] blk off cap a m b d0 d w0 w egC (zab _ _ _ _) R hs S M h1 h2 hb hsz c1 c2
   ·by_cases c3:(a+b) / 2 < m
    ·exact zac 3 Tryz.sizeOf150 z0V 94 #[] blk off cap a m b d0 d w0 w egC (zab _ _ _ _) R hs S M h1 h2 hb hsz c1 c2
      (fun a' m' b' d' W q1 q2 q3 q4 q5 q6 q7 q8=>z8f blk off cap d0 w0 R n a' m' b' d' W (by omega) q2 q3 q4 q5 q6 q7 q8) ((a+b) / 2) (by omega) (by omega) ((a+b) / 2+m - b) ((a+b) / 2) (.inl ⟨rfl,rfl,c3⟩)
    ·exact zac 3 Tryz.sizeOf150 z0V 94 #[] blk off cap a m b d0 d w0 w egC (zab _ _ _ _) R hs S M h1 h2 hb hsz c1 c2
      (fun a' m' b' d' W q1 q2 q3 q4 q5 q6 q7 q8=>z8f blk off cap d0 w0 R n a' m' b' d' W (by omega) q2 q3 q4 q5 q6 q7 q8) ((a+b) / 2) (by omega) (by omega) a m (.inr ⟨rfl,rfl,c3⟩)
theorem zbR (blk off cap:Nat) (d0:Array Cl) (w0:World) (R:RowK z0V 3 w0 blk off d0) (hA:Asc 0 d0.size d0) (h100:d0.size<=100) :
  Calls Tryz.prog 97 #[.slice (some ⟨blk,off,none⟩) d0.size cap,int i64 d0.size,.func (.func 94) #[] #[]] w0 fun e w'=>e=.returned (.tuple #[])/\∃ d',PermIn 0 d0.size d0 d'/\SortedIn tB 0 d0.size d'/\SWK z0V 3 w0 blk off d' w':=by
 have HI:=Hd (fun a b d w h1 h2 h3 h4 h5=>zf3 blk off cap a b d0 d w0 w R h1 h2 h3 h4 h5);have HY:=Hd (fun a m b d w=>z8f blk off cap d0 w0 R (b - a) a m b d w (Nat.le_refl _));have S0:=Hd (SWK.start R.hH);have G0:=Hd (zcZ hA);obtain ⟨n,hn⟩:∃ n,n=d0.size:=⟨_,rfl⟩;rw [<-hn] at G0 h100;have HN:=Hd hn;rw [<-hn];clear hA hn;go_enter Tryz.func97,Tryz.ntmps97;go_wp2_with fail
 go_loopw [7,8] (fun s7 s8 W=>∃ (a:Nat) (d:Array Cl),s7=int i64 a/\s8=int i64 ((a:Int)+20)/\a % 20=0/\a<=n/\Hid (SWK z0V 3 w0 blk off d W)/\Hid (Seg n (T1 a) d/\PermIn 0 n d0 d)) (fun s7 _ _=>n - (intOf s7).toNat)
 case atStart=>exact ⟨0,d0,rfl,rfl,rfl,Nat.zero_le _,S0,G0.out,permIn_refl _ _ _⟩
 case round =>
  clear S0 G0;obtain ⟨a,d,rfl,rfl,ha,han,HS,HG⟩:=hrel;have hz:d.size=n:=HG.out.2.1.trans HN.out.symm;have HZ:=Hd hz;clear hz;by_cases hlt:a+20<=n
  ·have hltz:(a:Int)+20<=(n:Int):=(by omega);have HW:=HI.out a (a+20) d wr (by rw [<-HN.out];exact HZ.out.symm) HS.out (by omega) (by rw [HZ.out];exact hlt) (by rw [HZ.out];omega);have e1:((a+20:Nat):Int)=(a:Int)+20:=(by omega);rw [HZ.out,e1] at HW;go_wp2_with fail
   refine HW.mono ?_;rintro e w2 ⟨rfl,S2⟩;obtain ⟨p2,s2⟩:=z8n d a (a+20) (by omega) (by rw [HZ.out];exact hlt) (z7E HG.out.1 hlt)
   have G2:Hid (Seg n (T1 (a+20)) (Sort.insertionSort (ltOf cfC) d a (a+20))/\PermIn 0 n d0 (Sort.insertionSort (ltOf cfC) d a (a+20))) :=
    ⟨zf5 HG.out.1 (by rw [HZ.out];exact Nat.le_refl _) ha hlt p2 s2,permIn_trans _ _ _ 0 n HG.out.2 (permIn_mono _ _ a (a+20) 0 n (Nat.zero_le _) hlt (by rw [HZ.out];exact Nat.le_refl _) p2)⟩
   have HS2:=Hd S2;clear p2 s2 S2 HW;generalize Sort.insertionSort (ltOf cfC) d a (a+20)=d2 at G2 HS2;go_wp2;go_roundw
   case rel=>exact ⟨a+20,d2,by go_num,by go_num,by omega,hlt,HS2,G2⟩
   case measure=>simp [intOf];omega
  ·have hltz:¬ (a:Int)+20<=(n:Int):=(by omega);have HW:=HI.out a n d wr (by rw [<-HN.out];exact HZ.out.symm) HS.out han (by rw [HZ.out];exact Nat.le_refl _) (by rw [HZ.out];omega);rw [HZ.out] at HW;go_wp2_with fail
   refine HW.mono ?_;rintro e w2 ⟨rfl,S2⟩;obtain ⟨p2,s2⟩:=z8n d a n han (by rw [HZ.out];exact Nat.le_refl _) (z7E HG.out.1 (Nat.le_refl _))
   have G2:Hid (Seg n (T2 20 0) (Sort.insertionSort (ltOf cfC) d a n)/\PermIn 0 n d0 (Sort.insertionSort (ltOf cfC) d a n)) :=
    ⟨zaK HG.out.1 (by rw [HZ.out];exact Nat.le_refl _) ha han (by omega) p2 s2,permIn_trans _ _ _ 0 n HG.out.2 (permIn_mono _ _ a n 0 n (Nat.zero_le _) (Nat.le_refl _) (by rw [HZ.out];exact Nat.le_refl _) p2)⟩
   have HS2:=Hd S2;clear p2 s2 S2 HW HS HG HZ;generalize Sort.insertionSort (ltOf cfC) d a n=d2 at G2 HS2;go_wp2_with fail
   go_loopw [6] (fun s6 W=>∃ (s:Nat) (d:Array Cl),s6=int i64 s/\20<=s/\s<=160/\Hid (s=20\/s=40\/s=80\/s=160)/\Hid (SWK z0V 3 w0 blk off d W)/\Hid (Seg n (T2 s 0) d/\PermIn 0 n d0 d)) (fun s6 _=>200 - (intOf s6).toNat)
   case atStart=>exact ⟨20,d2,rfl,by omega,by omega,Or.inl rfl,HS2,G2⟩
   case round =>
    clear HS2 G2;obtain ⟨s,d,rfl,hs1,hs2,HO,HS,HG⟩:=hrel;by_cases hsn:s < n
    ·have hsz:(s:Int) < (n:Int):=(by omega);have HO3:Hid (s=20\/s=40\/s=80):=(by have h1:=HO.out;show _\/_;omega);have hs3:s<=80:=(by have h1:=HO3.out;omega);have HM:Hid (∀ a:Nat,a % (2 * s)=0->(a+2 * s) % (2 * s)=0):=fun a h=>by rw [Nat.add_mod_right];exact h
     go_wp2_with fail
     go_loopw [7,8] (fun s7 s8 W=>∃ (a:Nat) (d:Array Cl),s7=int i64 a/\s8=int i64 ((a:Int)+2 * (s:Int))/\a<=n/\Hid (a % (2 * s)=0)/\Hid (SWK z0V 3 w0 blk off d W)/\Hid (Seg n (T2 s a) d/\PermIn 0 n d0 d)) (fun s7 _ _=>n - (intOf s7).toNat)
     case atStart=>exact ⟨0,d,rfl,by go_num,Nat.zero_le _,Nat.zero_mod _,HS,HG⟩
     case round =>
      clear HS HG;obtain ⟨a,d,rfl,rfl,han,HA,HS,HG⟩:=hrel;have HZ:Hid (d.size=n):=HG.out.2.1.trans HN.out.symm;by_cases hlt:a+2 * s<=n
      ·have hltz:(a:Int)+2 * (s:Int)<=(n:Int):=(by omega);have HW:=HY.out a (a+s) (a+2 * s) d wr (by rw [<-HN.out];exact HZ.out.symm) HS.out (z7F HO3.out HG.out.1 HA.out rfl (by omega) hlt (Nat.le_refl _)) (by omega) (by omega) (by rw [HZ.out];exact hlt) (by rw [HZ.out];omega);have e1:((a+2 * s:Nat):Int)=(a:Int)+2 * (s:Int):=(by omega);have e2:((a+s:Nat):Int)=(a:Int)+(s:Int):=(by omega);rw [HZ.out,e1,e2] at HW;go_wp2_with fail
       refine HW.mono ?_;rintro e w3 ⟨rfl,d3,p3,s3,S3'⟩;have G3:Hid (Seg n (T2 s (a+2 * s)) d3/\PermIn 0 n d0 d3):=⟨zd0 HO3.out HG.out.1 (by rw [HZ.out];exact Nat.le_refl _) HA.out rfl hlt p3 s3,permIn_trans _ _ _ 0 n HG.out.2 (permIn_mono _ _ a (a+2 * s) 0 n (Nat.zero_le _) hlt (by rw [HZ.out];exact Nat.le_refl _) p3)⟩;have S3:=Hd S3';have HA3:=Hd (HM.out a HA.out);clear p3 s3 S3' HW;go_wp2;go_roundw
       case rel=>exact ⟨a+2 * s,d3,by rw [e1],by rw [e1],hlt,HA3,S3,G3⟩
       case measure=>simp [intOf];omega
      ·have hltz:¬ (a:Int)+2 * (s:Int)<=(n:Int):=(by omega);by_cases hmn:a+s < n
       ·have hmz:(a:Int)+(s:Int) < (n:Int):=(by omega);have HW:=HY.out a (a+s) n d wr (by rw [<-HN.out];exact HZ.out.symm) HS.out (z7F HO3.out HG.out.1 HA.out rfl (by omega) (Nat.le_refl _) (by omega)) (by omega) (by omega) (by rw [HZ.out];exact Nat.le_refl _) (by rw [HZ.out];omega);have e2:((a+s:Nat):Int)=(a:Int)+(s:Int):=(by omega);rw [HZ.out,e2] at HW;go_wp2_with fail
        refine HW.mono ?_;rintro e w3 ⟨rfl,d3,p3,s3,S3'⟩;have G3:Hid (Seg n (T2 (2 * s) 0) d3/\PermIn 0 n d0 d3):=⟨z9b HO3.out HG.out.1 (by rw [HZ.out];exact Nat.le_refl _) HA.out han (by omega) p3 s3,permIn_trans _ _ _ 0 n HG.out.2 (permIn_mono _ _ a n 0 n (Nat.zero_le _) (Nat.le_refl _) (by rw [HZ.out];exact Nat.le_refl _) p3)⟩;have S3:=Hd S3';have HO4:Hid (2 * s=20\/2 * s=40\/2 * s=80\/2 * s=160):=(by have h1:=HO3.out;show _\/_;omega);clear p3 s3 S3' HW;go_wp2;go_roundw
        case rel=>exact ⟨2 * s,d3,by go_num,by omega,by omega,HO4,S3,G3⟩
        case measure=>simp [intOf];omega
       ·have hmz:¬ (a:Int)+(s:Int) < (n:Int):=(by omega);have G3:Hid (Seg n (T2 (2 * s) 0) d/\PermIn 0 n d0 d):=⟨ze2 HO3.out HG.out.1 HA.out han (by omega),HG.out.2⟩;have HO4:Hid (2 * s=20\/2 * s=40\/2 * s=80\/2 * s=160):=(by have h1:=HO3.out;show _\/_;omega);go_wp2;go_roundw
        case rel=>exact ⟨2 * s,d,by go_num,by omega,by omega,HO4,HS,G3⟩
        case measure=>simp [intOf];omega
    ·have hsz:¬ (s:Int) < (n:Int):=(by omega);have HE:Hid (PermIn 0 n d0 d/\SortedIn tB 0 n d):=⟨HG.out.2,zbQ HO.out HG.out.1 (by omega)⟩;go_wp2
     go_end0
     exact ⟨rfl,d,HE.out.1,HE.out.2,HS.out⟩
theorem z8g (blk off cap:Nat) (d0:Array Cl) (w0:World) (R:RowK z0V 3 w0 blk off d0) (hA:Asc 0 d0.size d0) (h100:d0.size<=100) :
  Calls Tryz.prog 93 #[.slice (some ⟨blk,off,none⟩) d0.size cap,.func (.func 94) #[] #[]] w0 fun e w'=>e=.returned (.tuple #[])/\∃ d',PermIn 0 d0.size d0 d'/\SortedIn tB 0 d0.size d'/\SWK z0V 3 w0 blk off d' w':=by
 have HW:=Hd (zbR blk off cap d0 w0 R hA h100);clear hA R;go_enter Tryz.func93,Tryz.ntmps93;go_wp2_with fail
 refine HW.out.mono ?_;rintro e w1 ⟨rfl,h⟩;have H:=Hd h;clear h;go_wp2
 go_end0
 exact ⟨rfl,H.out⟩
end
end Go.Proofs.YtggmjiddadjilalGreat
