/-
  PROVED HERE: the model's BrdBest answers the best of any borders in memory; nothing that was in memory is turned. Also: 4 more texts of the same proof.
-/
import Derived.Test.YtggmjiddadjilagB15
import Derived.Test.YtggmjiddadjilagB13
set_option maxRecDepth 1000000
set_option maxHeartbeats 40000000
namespace Go.Proofs.Ytggmjiddadjilag
open Go.RowKit
theorem z70 {w:World} {g:Nat} {o:Obj} (h:w.heap[g]?=some o) (q:Obj):(w.alloc q).heap[g]?=some o:=(Below.heap_alloc _ _ _ (bL h)).trans h
theorem z0t (v:Value) (l:List Fr) (hl:l.length≤1048576) (w:World) {z:Nat} (h:z0u w z v l) :
  Calls Try.prog 20 #[v] w fun e w'=>e=.returned (.agg #[.int .i64 (zG l).s,.int .i64 (zG l).w,.int .i64 (zG l).c])∧Below w.heap.size w w':=by
 have hmx:Try.prog.follows .mixedOrders=true:=(by kernel_rfl);obtain ⟨a,cap,rfl,hlen⟩:=At.form h;have HH:=Hd h;have K2:=zb (zb (Below.refl w.heap.size w) (.cells #[.int .i64 0,.int .i64 0,.int .i64 0] 42)) (.cells #[.int .i64 0,.int .i64 0,.int .i64 (-1)] 42);have X0:=z70 (zh w (.cells #[.int .i64 0,.int .i64 0,.int .i64 0] 42)) (.cells #[.int .i64 0,.int .i64 0,.int .i64 (-1)] 42)
 have X1:((w.alloc (.cells #[.int .i64 0,.int .i64 0,.int .i64 0] 42)).alloc (.cells #[.int .i64 0,.int .i64 0,.int .i64 (-1)] 42)).heap[w.heap.size+1]?=some (.cells #[.int .i64 0,.int .i64 0,.int .i64 (-1)] 42):=by
  have:=zh (w.alloc (.cells #[.int .i64 0,.int .i64 0,.int .i64 0] 42)) (.cells #[.int .i64 0,.int .i64 0,.int .i64 (-1)] 42)
  simpa using this
 have HX:=Hd (And.intro X0 X1);have HK:=Hd K2;have KB:=Hd (fun (W:World) (p:BW W) (x y z u:Int)=>z3c ((z4x x y z u p.u).mono (fun _ _ ⟨h1,h2⟩=>And.intro h1 (by rw [h2];exact zb (zb (Below.refl _ _) _) _))));clear h K2 X0 X1;go_enter Try.func20,Try.ntmps20;go_wp2_with fail
 go_loopw [4] (fun s W=>∃ k:Nat,s=.int .i64 k∧k≤l.length∧Hid (W.heap[w.heap.size+1]?=some (.cells #[.int .i64 (zn l k).s,.int .i64 (zn l k).w,.int .i64 (zn l k).c] 42))∧Hid (W.heap[w.heap.size]?=some (.cells #[.int .i64 0,.int .i64 0,.int .i64 0] 42))∧Hid (Below w.heap.size w W)) (fun s _=>l.length - (intOf s).toNat)
 case atStart=>exact ⟨0,rfl,Nat.zero_le _,HX.out.2,HX.out.1,HK⟩
 case round =>
  clear HX HK;obtain ⟨k,rfl,hk,HX,HZ,HK⟩:=hrel;by_cases hlt:k < l.length
  case neg =>
   obtain rfl:k=l.length:=by omega
   obtain ⟨⟨c0,c1,c2⟩,_⟩:=zw HX.out;obtain ⟨⟨d0,d1,d2⟩,f0,f1,f2⟩:=zw HZ.out;have HBl:=Hd (HK.out.trans ((z04 wr w.heap.size (.int .i64 (zn l l.length).s) (.int .i64 (zn l l.length).w) (.int .i64 (zn l l.length).c)).below HK.out.size (Nat.le_refl _)));have HE:Hid (zG l=zn l l.length):=rfl;generalize zn l l.length=y at *;go_wp2;exact bodyPost_ret (v:=.agg #[.int .i64 y.s,.int .i64 y.w,.int .i64 y.c]) (by simp [results,Try.results20,go_sem,d0,d1,d2]) rfl ⟨by rw [HE.out],HBl.out⟩
  obtain ⟨b,off,cap',e',hc1,hc2,hbl,x0,x1,x2⟩:=At.get (HH.out.kept HK.out) hlt;simp only [Value.slice.injEq,true_and] at e';obtain ⟨rfl,rfl⟩:=e';unfold maxLen at hc2;have hwz:w.heap.size+1 < wr.heap.size:=(bL HX.out);have HE0:Hid (k=0→zn l (k+1)=l.getD k dF):=fun h=>by subst h;rw [zn,if_pos rfl]
  have HEy:Hid (k ≠ 0→btF (l.getD k dF) (zn l k)=true→zn l (k+1)=l.getD k dF):=fun h h2=>by rw [zn,if_neg h,if_pos h2]
  have HEn:Hid (k ≠ 0→btF (l.getD k dF) (zn l k)=false→zn l (k+1)=zn l k):=fun h h2=>by rw [zn,if_neg h,if_neg (by rw [h2];simp)]
  generalize l.getD k dF=p at x0 x1 x2 HE0 HEy HEn;generalize zn l k=y at HX HEy HEn;have hne:=z1r wr;have m0:=zf hbl x0;have m1:=zf hbl x1;have m2:=zf (a:=⟨w.heap.size+1,0,none⟩) hwz (ze (p:=0) HX.out);have m3:=zf (a:=⟨w.heap.size+1,1,none⟩) hwz (ze (p:=1) HX.out);have HPc:=Hd (And.intro hbl (And.intro x0 (And.intro x1 x2)));have HBt:Hid (btF p y=z0I p.s p.w y.s y.w):=rfl;clear x0 x1 x2;go_upto_region 5 with fail
  refine z09 hmx (by kernel_rfl) ?_;by_cases hk0:k=0
  case pos =>
   subst hk0;have HE:=Hd (HE0.out rfl);repeat (go_big_quiet_step (first | (go_at_call 16;refine KB.out _ _ _ _ _ _)))
   refine wpQuiet_nil ?_;intro W5 hw';obtain ⟨⟨Wx,hW5⟩,hw''⟩:=hw';subst hw'';clear m0 m1 m2 m3 hne;have HX5:=(hW5.block _ hwz).trans HX.out;have HZ5:=(hW5.block w.heap.size (by omega)).trans HZ.out;have HK5:=zc HK.out hW5;have x0:=(hW5.cell (p:=⟨b,_,none⟩) HPc.out.1).trans HPc.out.2.1;have x1:=(hW5.cell (p:=⟨b,_,none⟩) HPc.out.1).trans HPc.out.2.2.1;have x2:=(hW5.cell (p:=⟨b,_,none⟩) HPc.out.1).trans HPc.out.2.2.2;simp only [Nat.zero_mul,Nat.add_zero] at x0 x1 x2;obtain ⟨⟨c0,c1,c2⟩,f0,f1,f2⟩:=zw HX5;have HX6:=Hd (z48 HX5 (.int .i64 p.s) (.int .i64 p.w) (.int .i64 p.c));have hbk:=z04 W5 (w.heap.size+1) (.int .i64 p.s) (.int .i64 p.w) (.int .i64 p.c);have HZ6:=Hd ((hbk.block w.heap.size (bL HZ5) (by omega)).trans HZ5);have HK6:=Hd (HK5.trans (hbk.below HK5.size (by omega)));clear hW5 HX HZ HK HX5 HZ5 HK5 hbk HPc;go_wp2;go_roundw
   case rel=>exact ⟨0+1,by go_num,by omega,by rw [HE.out];exact HX6,HZ6,HK6⟩
   case measure=>simp [intOf];omega
  case neg =>
   have hkb:(((k:Int)) == 0)=false:=beq_eq_false_iff_ne.2 (by omega)
   cases hbt:z0I p.s p.w y.s y.w with
   | false =>
    have HE:=Hd (HEn.out hk0 (HBt.out.trans hbt));repeat (go_big_quiet_step (first | (go_at_call 16;refine KB.out _ _ _ _ _ _)))
    refine wpQuiet_nil ?_;intro W5 hw';obtain ⟨⟨Wx,hW5⟩,hw''⟩:=hw';subst hw'';have HX5:=Hd ((hW5.block _ hwz).trans HX.out);have HZ5:=Hd ((hW5.block _ (by omega)).trans HZ.out);have HK5:=Hd (zc HK.out hW5);clear m0 m1 m2 m3 hne hW5 HX HZ HK HPc;go_wp2;go_roundw
    case rel=>exact ⟨k+1,by go_num,by omega,by rw [HE.out];exact HX5,HZ5,HK5⟩
    case measure=>simp [intOf];omega
   | true =>
    have HE:=Hd (HEy.out hk0 (HBt.out.trans hbt));repeat (go_big_quiet_step (first | (go_at_call 16;refine KB.out _ _ _ _ _ _)))
    refine wpQuiet_nil ?_;intro W5 hw';obtain ⟨⟨Wx,hW5⟩,hw''⟩:=hw';subst hw'';clear m0 m1 m2 m3 hne;have HX5:=(hW5.block _ hwz).trans HX.out;have HZ5:=(hW5.block w.heap.size (by omega)).trans HZ.out;have HK5:=zc HK.out hW5;have x0:=(hW5.cell (p:=⟨b,_,none⟩) HPc.out.1).trans HPc.out.2.1;have x1:=(hW5.cell (p:=⟨b,_,none⟩) HPc.out.1).trans HPc.out.2.2.1;have x2:=(hW5.cell (p:=⟨b,_,none⟩) HPc.out.1).trans HPc.out.2.2.2;obtain ⟨⟨c0,c1,c2⟩,f0,f1,f2⟩:=zw HX5;have HX6:=Hd (z48 HX5 (.int .i64 p.s) (.int .i64 p.w) (.int .i64 p.c));have hbk:=z04 W5 (w.heap.size+1) (.int .i64 p.s) (.int .i64 p.w) (.int .i64 p.c);have HZ6:=Hd ((hbk.block w.heap.size (bL HZ5) (by omega)).trans HZ5);have HK6:=Hd (HK5.trans (hbk.below HK5.size (by omega)));clear hW5 HX HZ HK HX5 HZ5 HK5 hbk HPc;go_wp2;go_roundw
    case rel=>exact ⟨k+1,by go_num,by omega,by rw [HE.out];exact HX6,HZ6,HK6⟩
    case measure=>simp [intOf];omega
theorem z32 (x f m:Int) (hx:I64 x) (hf:I64 f) (hm:I64 m) (w:World) :
  Calls Try.prog 43 #[.int .i64 x,.int .i64 f,.int .i64 m] w fun e w'=>e=.returned (.bool (z06 x f m))∧w'=w:=by
 unfold I64 at hx hf hm;by_cases h1:x < f
 ·have e:z06 x f m=false:=(by simp [z06];omega);rw [e];go_enter Try.func43,Try.ntmps43;go_wp2;go_ret;exact ⟨rfl,rfl⟩
 ·by_cases h2:m≤0
  ·have e:z06 x f m=false:=(by simp [z06];omega);rw [e];go_enter Try.func43,Try.ntmps43;go_wp2;go_ret;exact ⟨rfl,rfl⟩
  ·by_cases h3:f < 0
   ·by_cases h4:0≤x
    ·have e:z06 x f m=decide (x < m+f):=by
      have:decide (x - f < m)=decide (x < m+f):=(by apply decide_eq_decide.2;omega);simp only [z06,this];simp;omega
     rw [e];go_enter Try.func43,Try.ntmps43;go_wp2;go_ret;exact ⟨rfl,rfl⟩
    ·have e:z06 x f m=decide (x - f < m):=(by simp [z06];omega);rw [e];go_enter Try.func43,Try.ntmps43;go_wp2;go_ret;exact ⟨rfl,rfl⟩
   ·have e:z06 x f m=decide (x - f < m):=(by simp [z06];omega);rw [e];go_enter Try.func43,Try.ntmps43;go_wp2;go_ret;exact ⟨rfl,rfl⟩
theorem z4J (x:GC) (hx:GOk x) (row col:Int) (hr:I64 row) (hc:I64 col) (w:World) :
  Calls Try.prog 85 #[.agg #[.int .i64 x.row,.int .i64 x.col,.int .i64 x.rows,.int .i64 x.cols,.int .i64 x.ins],.int .i64 row,.int .i64 col] w fun e w'=>e=.returned (.bool (z07 row col x))∧Below w.heap.size w w':=by
 obtain ⟨h0,h1,h2,h3,_⟩:=hx;unfold z07;have H1:=Hd (z32 row x.row x.rows hr h0 h2);have H2:=Hd (z32 col x.col x.cols hc h1 h3);generalize z06 row x.row x.rows=p at H1 ⊢;generalize z06 col x.col x.cols=q at H2 ⊢
 cases p with
 | false =>
  go_enter Try.func85,Try.ntmps85;go_wp2_with fail
  refine (H1.out _).mono ?_;rintro e w1 ⟨rfl,rfl⟩;go_wp2;go_ret;exact ⟨rfl,zb (Below.refl _ _) _⟩
 | true =>
  go_enter Try.func85,Try.ntmps85;go_wp2_with fail
  refine (H1.out _).mono ?_;rintro e w1 ⟨rfl,rfl⟩;go_wp2_with fail
  refine (H2.out _).mono ?_;rintro e w1 ⟨rfl,rfl⟩;go_wp2;go_ret;exact ⟨by cases q <;> rfl,zb (Below.refl _ _) _⟩
theorem z26 (a b:Int) (ac:Option Addr) (cc:Nat) (gs:List GC) (row col:Int) (hr:I64 row) (hc:I64 col) (w:World) {z:Nat} (h:z01 w z (.slice ac gs.length cc) gs) :
  Calls Try.prog 70 #[.agg #[.int .i64 a,.int .i64 b,.slice ac gs.length cc],.int .i64 row,.int .i64 col] w fun e w'=>e=.returned (.int .i64 (z0O (z07 row col) gs))∧Below w.heap.size w w':=by
 obtain ⟨_,_,_,hlen⟩:=At.form h;unfold maxLen at hlen;have H:=Hd h;clear h;have KA:=Hd (zb (Below.refl w.heap.size w) (.cells #[.int .i64 a,.int .i64 b,.slice ac gs.length cc] 56));go_enter Try.func70,Try.ntmps70;go_wp2_with fail
 go_loopw [7] (fun i W=>∃ k:Nat,k≤gs.length∧i=.int .i64 k∧Hid (∀ j,j < k→z07 row col (gs.getD j dG)=false)∧Hid (Below w.heap.size w W)∧Hid (W.heap[w.heap.size]?=some (.cells #[.int .i64 a,.int .i64 b,.slice ac gs.length cc] 56))) (fun i _=>gs.length - (intOf i).toNat)
 case atStart=>exact ⟨0,Nat.zero_le _,rfl,fun j hj=>absurd hj (Nat.not_lt_zero _),KA.out,zh _ _⟩
 case round =>
  obtain ⟨k,hk,rfl,HA,HB,HX⟩:=hrel;have g2:wr.cell? ⟨w.heap.size,2,none⟩=some (.slice ac gs.length cc):=ze HX.out;by_cases hlt:k < gs.length
  ·obtain ⟨q,off,cap',e',hc1,hc2,hbl,hx,hs⟩:=At.get (H.out.kept HB.out) hlt;simp only [Value.slice.injEq,true_and] at e';obtain ⟨rfl,rfl⟩:=e';have HH:Hid (z07 row col (gs.getD k dG)=true→z0O (z07 row col) gs=(k:Int)):=fun hp=>z38 hlt HA.out hp
   have HN:Hid (z07 row col (gs.getD k dG)=false→∀ j,j < k+1→z07 row col (gs.getD j dG)=false):=fun hp j hj=>by
    rcases Nat.lt_or_eq_of_le (Nat.lt_succ_iff.1 hj) with h1 | rfl
    ·exact HA.out j h1
    ·exact hp
   have HL:=Hd (z4J (gs.getD k dG) hs row col hr hc);generalize gs.getD k dG=x at hx HH HN HL;obtain ⟨x0,x1,x2,x3,x4⟩:=hx;unfold maxLen at hc2;clear hs
   cases h1:z07 row col x with
   | false =>
    have HF:=Hd (HN.out h1);rw [h1] at HL;clear HH HN HA;go_wp2_with fail
    refine (HL.out _).mono ?_;rintro e w1 ⟨rfl,hb1⟩;have HB1:=Hd (zc HB.out hb1);have HX1:Hid (w1.heap[w.heap.size]?=some (.cells #[.int .i64 a,.int .i64 b,.slice (some ⟨q,off,none⟩) gs.length cc] 56)):=(hb1.block w.heap.size (z4q HX.out)).trans HX.out;clear hb1;go_wp2;go_roundw
    case rel=>exact ⟨k+1,by omega,by go_num,HF,HB1,HX1⟩
    case measure=>simp [intOf];omega
   | true =>
    have HF:=Hd (HH.out h1);rw [h1] at HL;clear HH HN HA;go_wp2_with fail
    refine (HL.out _).mono ?_;rintro e w1 ⟨rfl,hb1⟩;have HB1:=Hd (zc HB.out hb1);clear hb1;go_wp2;go_ret;exact ⟨by rw [HF.out];rfl,HB1.out⟩
  ·obtain rfl:k=gs.length:=by omega
   have HF:=Hd (z2S HA.out);clear HA;go_wp2;go_ret;exact ⟨by rw [HF.out];rfl,HB.out⟩
theorem z6M (n:Nat) (hn:n≤9) (k:Int) (h0:0≤k) (h1:k < 3):∃ v:Int,(#[.int .i64 (-1),.int .i64 9,.int .i64 (n:Int)]:Array Value)[k.toNat]?=some (.int .i64 v)∧-1≤v∧v≤9:=by
 rcases (by omega:k=0∨k=1∨k=2) with rfl | rfl | rfl
 ·exact ⟨-1,rfl,by omega,by omega⟩
 ·exact ⟨9,rfl,by omega,by omega⟩
 ·exact ⟨n,rfl,by omega,by omega⟩
def z1C (L:Nat→Bool):Nat:=(if L 5=true then 1 else 0)
theorem z3X (L:Nat→Bool):z1C L≤1:=by unfold z1C;(repeat (first | omega | split))
theorem z6f {L:Nat→Bool} (h:L 5=false):z1C (upd L 5)=z1C L+1:=by simp [z1C,upd,h]
theorem z0D {L:Nat→Bool} {i:Nat} (h:i ≠ 5):z1C (upd L i)=z1C L:=by
 have k5:(5:Nat) ≠ i:=fun e=>(h) e.symm;simp [z1C,upd,k5]
structure z7a (r B n0:Nat) (w0:World) (F:World→Prop) (tb:Nat) (tc:Array Value) (ra:Option Addr) (rn rc:Nat)  (L:Nat→Bool) (w:World) (v33 v34 v35 v36 v37 v38 v39 v40 v41:Value):Prop where
 f0:L 0=true→v33=.pointer (some ⟨tb,3,none⟩)
 f1:L 1=true→v34=.slice ra rn rc
 f2:L 2=true→v35=.int .i64 (rn:Int)
 f3:L 3=true→L 9=false→PB n0 w 3 3 (fun arr=>arr=#[.int .i64 (-1),.int .i64 9,.int .i64 (rn:Int)]) v36
 f4:L 4=true→v37=.pointer (some ⟨r,0,none⟩)
 f5:L 5=true→PI 0 2 v38
 f6:L 6=true→L 9=false→PP n0 w 3 (fun arr k=>∃ v:Int,arr[k]?=some (.int .i64 v)∧-1≤v∧v≤9) v39
 f7:L 7=true→PI (-1) 9 v40
 f8:L 8=true→v41=.pointer (some ⟨tb,1,none⟩)
 rd:Rd w r (B+z1C L)
 bk:Bk r w0 w
 fr:F w
 tb0:L 9=false→w.heap[tb]?=some (.cells tc 49)
 tb1:L 9=true→∃ v:Int,(-1≤v∧v≤9)∧w.heap[tb]?=some (.cells (tc.setIfInBounds 1 (.int .i64 v)) 49)
def hdR (r B n0:Nat) (w0:World) (F:World→Prop) (tb:Nat) (tc:Array Value) (ra:Option Addr) (rn rc:Nat)  (mk:Value→Value→Value→Value→Value→Value→Value→Value→Value→Act) (L:Nat→Bool) (a:Act) (w:World):Prop:=∃ v33 v34 v35 v36 v37 v38 v39 v40 v41:Value,a=mk v33 v34 v35 v36 v37 v38 v39 v40 v41∧z7a r B n0 w0 F tb tc ra rn rc L w v33 v34 v35 v36 v37 v38 v39 v40 v41
def z1D (L:Nat→Bool):Nat:=(if L 5=true then 1 else 0)
theorem z3Y (L:Nat→Bool):z1D L≤1:=by unfold z1D;(repeat (first | omega | split))
theorem z6g {L:Nat→Bool} (h:L 5=false):z1D (upd L 5)=z1D L+1:=by simp [z1D,upd,h]
theorem z0E {L:Nat→Bool} {i:Nat} (h:i ≠ 5):z1D (upd L i)=z1D L:=by
 have k5:(5:Nat) ≠ i:=fun e=>(h) e.symm;simp [z1D,upd,k5]
structure z7b (r B n0:Nat) (w0:World) (F:World→Prop) (tb:Nat) (tc:Array Value) (ra:Option Addr) (rn rc:Nat)  (L:Nat→Bool) (w:World) (v44 v45 v46 v47 v48 v49 v50 v51 v52:Value):Prop where
 f0:L 0=true→v44=.pointer (some ⟨tb,3,none⟩)
 f1:L 1=true→v45=.slice ra rn rc
 f2:L 2=true→v46=.int .i64 (rn:Int)
 f3:L 3=true→L 9=false→PB n0 w 3 3 (fun arr=>arr=#[.int .i64 (-1),.int .i64 9,.int .i64 (rn:Int)]) v47
 f4:L 4=true→v48=.pointer (some ⟨r,0,none⟩)
 f5:L 5=true→PI 0 2 v49
 f6:L 6=true→L 9=false→PP n0 w 3 (fun arr k=>∃ v:Int,arr[k]?=some (.int .i64 v)∧-1≤v∧v≤9) v50
 f7:L 7=true→PI (-1) 9 v51
 f8:L 8=true→v52=.pointer (some ⟨tb,2,none⟩)
 rd:Rd w r (B+z1D L)
 bk:Bk r w0 w
 fr:F w
 tb0:L 9=false→w.heap[tb]?=some (.cells tc 49)
 tb1:L 9=true→∃ v:Int,(-1≤v∧v≤9)∧w.heap[tb]?=some (.cells (tc.setIfInBounds 2 (.int .i64 v)) 49)
def ftR (r B n0:Nat) (w0:World) (F:World→Prop) (tb:Nat) (tc:Array Value) (ra:Option Addr) (rn rc:Nat)  (mk:Value→Value→Value→Value→Value→Value→Value→Value→Value→Act) (L:Nat→Bool) (a:Act) (w:World):Prop:=∃ v44 v45 v46 v47 v48 v49 v50 v51 v52:Value,a=mk v44 v45 v46 v47 v48 v49 v50 v51 v52∧z7b r B n0 w0 F tb tc ra rn rc L w v44 v45 v46 v47 v48 v49 v50 v51 v52
def z18 (L:Nat→Bool):Nat:=(if L 3=true then 1 else 0)+(if L 6=true then 1 else 0)
theorem z2N (L:Nat→Bool):z18 L≤2:=by unfold z18;(repeat (first | omega | split))
theorem z6h {L:Nat→Bool} (h:L 3=false):z18 (upd L 3)=z18 L+1:=by simp [z18,upd,h];omega
theorem z6i {L:Nat→Bool} (h:L 6=false):z18 (upd L 6)=z18 L+1:=by simp [z18,upd,h]
theorem z0f {L:Nat→Bool} {i:Nat} (h:i ≠ 3∧i ≠ 6):z18 (upd L i)=z18 L:=by
 have k3:(3:Nat) ≠ i:=fun e=>(h.1) e.symm;have k6:(6:Nat) ≠ i:=fun e=>(h.2) e.symm;simp [z18,upd,k3,k6]
structure z7c (r B n0:Nat) (w0:World) (F:World→Prop) (base:Nat) (U:Value) (nn:Nat) (xs:List Value) (tb:Nat) (tc:Array Value)  (L:Nat→Bool) (w:World) (v63 v64 v65 v66 v67 v68 v69 v70 v71 v72 v73 v74 v75:Value):Prop where
 f0:L 0=true→v63=.pointer (some ⟨tb,0,none⟩)
 f1:L 1=true→v64=U
 f2:L 2=true→v65=.pointer (some ⟨r,0,none⟩)
 f3:L 3=true→PI 0 3 v66
 f4:L 4=true→L 11=false→PB n0 w 3 4 (fun arr=>arr=#[.int .i64 (-1),.int .i64 0,.int .i64 61,.int .i64 101]) v67
 f5:L 5=true→v68=.pointer (some ⟨r,0,none⟩)
 f6:L 6=true→PI 0 3 v69
 f7:L 7=true→L 11=false→PP n0 w 3 (fun arr k=>∃ v:Int,arr[k]?=some (.int .i64 v)) v70
 f8:L 8=true→∃ v:Int,v71=.int .i64 v
 f9:L 9=true→∃ x y:Int,v72=.agg #[.int .i64 x,.int .i64 y]
 f10:L 10=true→L 11=false→PB n0 w 83 1 (fun arr=>∃ x y:Int,arr=#[.int .i64 x,.int .i64 y]) v73
 f12:L 12=true→v75=.pointer (some ⟨tb,0,none⟩)
 rd:Rd w r (B+z18 L)
 bk:Bk r w0 w
 fr:F w
 own:L 11=false→w.ownsRow base 83 2 U nn xs
 ownA:L 11=true→∃ nw,(∃ p,nw=z1N p)∧w.ownsRow base 83 2 v74 (nn+1) (xs ++ nw)
 tb0:L 13=false→w.heap[tb]?=some (.cells tc 49)
 tb1:L 13=true→w.heap[tb]?=some (.cells (tc.setIfInBounds (0) v74) 49)
def acR (r B n0:Nat) (w0:World) (F:World→Prop) (base:Nat) (U:Value) (nn:Nat) (xs:List Value) (tb:Nat) (tc:Array Value)  (mk:Value→Value→Value→Value→Value→Value→Value→Value→Value→Value→Value→Value→Value→Act) (L:Nat→Bool) (a:Act) (w:World):Prop:=∃ v63 v64 v65 v66 v67 v68 v69 v70 v71 v72 v73 v74 v75:Value,a=mk v63 v64 v65 v66 v67 v68 v69 v70 v71 v72 v73 v74 v75∧z7c r B n0 w0 F base U nn xs tb tc L w v63 v64 v65 v66 v67 v68 v69 v70 v71 v72 v73 v74 v75
def z1E (L:Nat→Bool):Nat:=(if L 10=true then 50 else 0)
theorem z3Z (L:Nat→Bool):z1E L≤50:=by unfold z1E;(repeat (first | omega | split))
theorem z5R {L:Nat→Bool} (h:L 10=false):z1E (upd L 10)=z1E L+50:=by simp [z1E,upd,h]
theorem zT {L:Nat→Bool} {i:Nat} (h:i ≠ 10):z1E (upd L i)=z1E L:=by
 have k10:(10:Nat) ≠ i:=fun e=>(h) e.symm;simp [z1E,upd,k10]
structure z7d (r B n0:Nat) (w0:World) (F:World→Prop) (base:Nat) (U:Value) (nn:Nat) (xs:List Value) (tb:Nat) (tc:Array Value) (t5 kk rn rc:Nat)  (L:Nat→Bool) (w:World) (v78 v79 v80 v81 v82 v83 v84 v85 v86 v87 v88 v89 v90 v91 v92:Value):Prop where
 f0:L 0=true→v78=.pointer (some ⟨t5,3,none⟩)
 f1:L 1=true→v79=.slice (some ⟨tb,0,none⟩) rn rc
 f2:L 2=true→v80=.int .i64 (kk:Int)
 f3:L 3=true→v81=.pointer (some ⟨t5,3,none⟩)
 f4:L 4=true→v82=.slice (some ⟨tb,0,none⟩) rn rc
 f5:L 5=true→v83=.int .i64 (kk:Int)
 f6:L 6=true→v84=.pointer (some ⟨tb,kk * 2,none⟩)
 f7:L 7=true→v85=.pointer (some ⟨tb,kk * 2,none⟩)
 f8:L 8=true→v86=U
 f9:L 9=true→v87=.pointer (some ⟨r,0,none⟩)
 f10:L 10=true→∃ x:C,v88=.agg #[.string x.s,.int .i64 x.c,.int .i64 x.r,.int .i64 x.a1,.int .i64 x.b1,.int .i64 x.a2,.int .i64 x.b2,.int .i64 x.a3,.int .i64 x.b3,.int .i64 x.a4,.int .i64 x.b4]∧Cx x
 f11:L 11=true→L 12=false→PB n0 w 89 1 (fun arr=>∃ x:C,arr=(z0J x).toArray∧Cx x) v89
 f13:L 13=true→v91=.pointer (some ⟨tb,kk * 2,none⟩)
 f14:L 14=true→v92=.pointer (some ⟨tb,kk * 2,none⟩)
 rd:Rd w r (B+z1E L)
 bk:Bk r w0 w
 fr:F w
 own:L 12=false→w.ownsRow base 89 11 U nn xs
 ownA:L 12=true→∃ nw,(∃ x,nw=z0J x∧Cx x)∧w.ownsRow base 89 11 v90 (nn+1) (xs ++ nw)
 tb0:L 15=false→w.heap[tb]?=some (.cells tc 86)
 tb1:L 15=true→w.heap[tb]?=some (.cells (tc.setIfInBounds (kk * 2) v90) 86)
def crR (r B n0:Nat) (w0:World) (F:World→Prop) (base:Nat) (U:Value) (nn:Nat) (xs:List Value) (tb:Nat) (tc:Array Value) (t5 kk rn rc:Nat)  (mk:Value→Value→Value→Value→Value→Value→Value→Value→Value→Value→Value→Value→Value→Value→Value→Act) (L:Nat→Bool) (a:Act) (w:World):Prop:=∃ v78 v79 v80 v81 v82 v83 v84 v85 v86 v87 v88 v89 v90 v91 v92:Value,a=mk v78 v79 v80 v81 v82 v83 v84 v85 v86 v87 v88 v89 v90 v91 v92∧z7d r B n0 w0 F base U nn xs tb tc t5 kk rn rc L w v78 v79 v80 v81 v82 v83 v84 v85 v86 v87 v88 v89 v90 v91 v92
def z19 (r B:Nat) (w:World) (e:Ending) (w':World):Prop :=
 ∃ (ac ar:Option Addr) (cc cr:Nat) (t:T),e=.returned (.agg #[.slice ac t.cols.length cc,.int .i64 t.head,.int .i64 t.foot,.slice ar t.rows.length cr,.int .i64 t.gap])∧z0w t∧zV w' w.heap.size (.slice ac t.cols.length cc) t.cols∧zD w' w.heap.size (.slice ar t.rows.length cr) t.rows∧Rd w' r (B+3000)∧Bk r w w'
theorem z1q {w:World} {base g:Nat} {cur:Array Value} {vc vr:Value} {ps:List (Int × Int)} {ur:List (Value × R)} (h1:zF w base vc ps) (h2:w.ownsRow base 86 2 vr ur.length (ur.flatMap z0m)) (h3:∀ p ∈ ur,z0V w base p.1 p.2.cells) (hg:w.heap[g]?=some (.cells cur 49)) (y0 y1 y2 y3 y4:Value) :
  zF (st5 w g y0 y1 y2 y3 y4) base vc ps∧(st5 w g y0 y1 y2 y3 y4).ownsRow base 86 2 vr ur.length (ur.flatMap z0m)∧∀ p ∈ ur,z0V (st5 w g y0 y1 y2 y3 y4) base p.1 p.2.cells:=by
 have ho:Off base (some g) none w (st5 w g y0 y1 y2 y3 y4):=Off.ofBk (z0Y w g y0 y1 y2 y3 y4);have hnn:∀ x:Value,x.ownBlock=none∨x.ownBlock ≠ none:=fun x=>by cases x.ownBlock <;> simp
 exact ⟨z0q h1 ho (Nat.le_refl _) (zk h1 hg (by decide)) (hnn _),z0q h2 ho (Nat.le_refl _) (zk h2 hg (by decide)) (hnn _),fun p hp=>z0q (h3 p hp) ho (Nat.le_refl _) (zk (h3 p hp) hg (by decide)) (hnn _)⟩
theorem z19.mk' {r B:Nat} {w w':World} {ac ar:Option Addr} {cc cr:Nat} {ps:List (Int × Int)} {ur:List (Value × R)} {hd ft gp:Int} (hD:z0w ⟨ps,hd,ft,ur.map (·.2),gp⟩) (h1:zV w' w.heap.size (.slice ac ps.length cc) ps) (h2:zD w' w.heap.size (.slice ar ur.length cr) (ur.map (·.2)))
  (h3:Rd w' r (B+3000)) (h4:Bk r w w'):z19 r B w (.returned (.agg #[.slice ac ps.length cc,.int .i64 hd,.int .i64 ft,.slice ar ur.length cr,.int .i64 gp])) w' :=
 ⟨ac,ar,cc,cr,⟨ps,hd,ft,ur.map (·.2),gp⟩,by simp,hD,h1,by simpa using h2,h3,h4⟩
def FA (w:World) (vc vr:Value) (ps:List (Int × Int)) (ur:List (Value × R)) (W:World):Prop:=zF W w.heap.size vc ps∧zX W w.heap.size vr ur∧W.heap[w.heap.size]?=some (.cells #[.slice none 0 0,.int .i64 0,.int .i64 0,.slice none 0 0,.int .i64 0] 49)
def FB (w:World) (vr:Value) (ur:List (Value × R)) (W:World):Prop:=zX W w.heap.size vr ur∧W.heap[w.heap.size]?=some (.cells #[.slice none 0 0,.int .i64 0,.int .i64 0,.slice none 0 0,.int .i64 0] 49)
theorem nn' (x:Value):x.ownBlock=none∨x.ownBlock ≠ none:=by cases x.ownBlock <;> simp
theorem FA.stays {w:World} {tb:Nat} {vc vr:Value} {ps:List (Int × Int)} {ur:List (Value × R)} (hz:w.heap.size < tb) (h1:vc.ownBlock=none∨vc.ownBlock ≠ some tb) (h2:vr.ownBlock=none∨vr.ownBlock ≠ some tb) (h3:∀ p ∈ ur,p.1.ownBlock=none∨p.1.ownBlock ≠ some tb):z2o w.heap.size tb (.slice none 0 0) (FA w vc vr ps ur) :=
 fun _ _ ⟨a1,a2,a3⟩ ho=>⟨z0q a1 ho (Nat.le_refl _) h1 (nn' _),a2.off ho (Nat.le_refl _) h2 (nn' _) (fun p hp=>⟨h3 p hp,nn' _⟩),(ho.block _ (Nat.le_refl _) (bL a3) (by simp;omega) (by simp [Value.ownBlock])).trans a3⟩
theorem FB.stays {w:World} {tb:Nat} {vc vr:Value} {ur:List (Value × R)} (hz:w.heap.size < tb) (h2:vr.ownBlock=none∨vr.ownBlock ≠ some tb) (h3:∀ p ∈ ur,p.1.ownBlock=none∨p.1.ownBlock ≠ some tb) (h4:vr.ownBlock=none∨vr.ownBlock ≠ vc.ownBlock) (h5:∀ p ∈ ur,p.1.ownBlock=none∨p.1.ownBlock ≠ vc.ownBlock) (h6:some w.heap.size ≠ vc.ownBlock):z2o w.heap.size tb vc (FB w vr ur) :=
 fun _ _ ⟨a2,a3⟩ ho=>⟨a2.off ho (Nat.le_refl _) h2 h4 (fun p hp=>⟨h3 p hp,h5 p hp⟩),(ho.block _ (Nat.le_refl _) (bL a3) (by simp;omega) h6).trans a3⟩
def FC (w:World) (t5:Nat) (tc:Array Value) (vc:Value) (ps:List (Int × Int)) (ur:List (Value × R)) (kk:Nat) (W:World):Prop :=
 W.heap[t5]?=some (.cells tc 49)∧zF W w.heap.size vc ps∧W.heap[w.heap.size]?=some (.cells #[.slice none 0 0,.int .i64 0,.int .i64 0,.slice none 0 0,.int .i64 0] 49)∧∀ i (hi:i < ur.length),i ≠ kk→z0V W w.heap.size ur[i].1 ur[i].2.cells
theorem FC.stays {w:World} {t5 rb:Nat} {tc:Array Value} {vc u:Value} {ps:List (Int × Int)} {ur:List (Value × R)} {kk:Nat} (ht:w.heap.size≤t5) (h1:some t5 ≠ some rb) (h2:some t5 ≠ u.ownBlock) (h3:vc.ownBlock=none∨vc.ownBlock ≠ some rb) (h4:vc.ownBlock=none∨vc.ownBlock ≠ u.ownBlock)
  (h5:some w.heap.size ≠ some rb) (h6:some w.heap.size ≠ u.ownBlock) (h7:∀ i (hi:i < ur.length),i ≠ kk→z74 ur[i].1 (some rb) u.ownBlock):z2o w.heap.size rb u (FC w t5 tc vc ps ur kk) :=
 fun _ _ ⟨a1,a2,a3,a4⟩ ho=>⟨(ho.block _ ht (bL a1) h1 h2).trans a1,z0q a2 ho (Nat.le_refl _) h3 h4,(ho.block _ (Nat.le_refl _) (bL a3) h5 h6).trans a3,fun i hi hk=>z0q (a4 i hi hk) ho (Nat.le_refl _) (h7 i hi hk).1 (h7 i hi hk).2⟩
theorem z40 (v:Value) (cs:List C):∀ (l:List (Value × R)) (k:Nat) (hk:k < l.length),(l.set k (v,⟨cs,l[k].2.whole⟩)).flatMap z0m=(l.flatMap z0m).set (k * 2) v
 | a :: t,0,_=>by simp [z0m]
 | a :: t,k+1,hk=>by
  have ih:=z40 v cs t k (by simpa using hk);have e:(k+1) * 2=k * 2+2:=(by omega);simp only [List.set_cons_succ,List.flatMap_cons,List.getElem_cons_succ];rw [ih,e];simp [z0m]
theorem zX.other {w:World} {base:Nat} {v:Value} {ur:List (Value × R)} (h:zX w base v ur) {i k:Nat} (hi:i < ur.length) (hk:k < ur.length) (hne:i ≠ k):ur[i].1.ownBlock=none∨ur[i].1.ownBlock ≠ ur[k].1.ownBlock:=by
 have hp:=List.pairwise_iff_getElem.1 h.apart
 rcases Nat.lt_or_gt_of_ne hne with h1 | h1
 ·exact hp i k hi hk h1
 ·rcases hp k i hk hi h1 with h2 | h2
  ·rw [h2]
   cases ur[i].1.ownBlock <;> simp
  ·exact .inr (fun e=>h2 e.symm)
theorem z5S {w:World} {base rb cap kk:Nat} {cur:Array Value} {ur:List (Value × R)} {v:Value} {x:C} (hk:kk < ur.length) (hb:base≤rb) (hn:ur.length≤cap) (hcm:cap≤maxLen) (hc:cur.size=cap * 2) (ht:cur.toList.take (ur.length * 2)=ur.flatMap z0m)
  (hT:w.heap[rb]?=some (.cells (cur.setIfInBounds (kk * 2) v) 86)) (hO:z0V w base v (ur[kk].2.cells ++ [x])) (hothers:∀ i (hi:i < ur.length),i ≠ kk→z0V w base ur[i].1 ur[i].2.cells) :
  w.ownsRow base 86 2 (.slice (some ⟨rb,0,none⟩) (ur.set kk (v,⟨ur[kk].2.cells ++ [x],ur[kk].2.whole⟩)).length cap) (ur.set kk (v,⟨ur[kk].2.cells ++ [x],ur[kk].2.whole⟩)).length ((ur.set kk (v,⟨ur[kk].2.cells ++ [x],ur[kk].2.whole⟩)).flatMap z0m)∧∀ p ∈ ur.set kk (v,⟨ur[kk].2.cells ++ [x],ur[kk].2.whole⟩),z0V w base p.1 p.2.cells:=by
 refine ⟨⟨z5X z0m 2 (fun _=>rfl) _,.inr ⟨rb,cap,_,rfl,hb,hT,by rw [List.length_set];exact hn,hcm,by rw [Array.size_setIfInBounds];exact hc,?_⟩⟩,fun p hp=>?_⟩
 ·rw [z40,List.length_set,Array.toList_setIfInBounds,List.take_set,ht]
 ·obtain ⟨i,hi,rfl⟩:=List.mem_iff_getElem.1 hp;rw [List.length_set] at hi;by_cases h:kk=i
  ·subst h;rw [List.getElem_set_self];exact hO
  ·rw [List.getElem_set_ne h];exact hothers i hi (fun e=>h e.symm)
theorem z5f {kk:Nat} {ur:List (Value × R)} {v:Value} {x:C} (hk:kk < ur.length) (hs:∀ p ∈ ur,p.2.cells.length≤4∧∀ x ∈ p.2.cells,Cx x) (hx:Cx x) :
  (∀ p ∈ ur.set kk (v,⟨ur[kk].2.cells ++ [x],ur[kk].2.whole⟩),∀ y ∈ p.2.cells,Cx y)∧∃ k,∀ i,(((ur.set kk (v,⟨ur[kk].2.cells ++ [x],ur[kk].2.whole⟩)).map (·.2)).getD i dR).cells.length≤if i=k then 5 else 4:=by
 constructor
 ·intro p hp y hy;obtain ⟨i,hi,rfl⟩:=List.mem_iff_getElem.1 hp;rw [List.length_set] at hi;by_cases h:kk=i
  ·subst h;rw [List.getElem_set_self] at hy
   rcases List.mem_append.1 hy with hy | hy
   ·exact (hs _ (List.getElem_mem hk)).2 y hy
   ·simp at hy;subst hy;exact hx
  ·rw [List.getElem_set_ne h] at hy;exact (hs _ (List.getElem_mem hi)).2 y hy
 ·refine ⟨kk,fun i=>?_⟩;by_cases hi:i < ur.length
  ·rw [z0P dR (by simpa using hi),List.getElem_map];by_cases h:kk=i
   ·subst h;rw [List.getElem_set_self,if_pos rfl];have:=(hs _ (List.getElem_mem hk)).1;simp;omega
   ·rw [List.getElem_set_ne h,if_neg (fun e=>h e.symm)];exact (hs _ (List.getElem_mem hi)).1
  ·simp [List.getD,hi,dR]
end Go.Proofs.Ytggmjiddadjilag
