/-
  PROVED HERE: the model's BrdBest answers the best of any borders in memory; nothing that was in memory is turned. Also: 11 more texts of the same proof.
-/
import Derived.Test.YtggmjiddadjilamB15
import Derived.Test.YtggmjiddadjilamB13
import Derived.Lib.Walk
set_option maxRecDepth 1000000
set_option maxHeartbeats 40000000
namespace Go.Proofs.Ytggmjiddadjilam
section
open Go.RowKit
theorem z7c {w:World} {g:Nat} {o:Obj} (h:w.heap[g]?=some o) (q:Obj):(w.alloc q).heap[g]?=some o:=(Below.heap_alloc _ _ _ (bL h)).trans h
theorem z0t (v:Value) (l:List Fr) (hl:l.length≤1048576) (w:World) {z:Nat} (h:z0V w z v l) :
  Calls Try.prog 90 #[v] w fun e w'=>e=.returned (.agg #[.int .i64 (zJ l).s,.int .i64 (zJ l).w,.int .i64 (zJ l).c])∧Below w.heap.size w w':=by
 have hmx:Try.prog.follows .mixedOrders=true:=(by kernel_rfl);obtain ⟨a,cap,rfl,hlen⟩:=At.form h;have HH:=Hd h;have K2:=zb (zb (Below.refl w.heap.size w) (.cells #[.int .i64 0,.int .i64 0,.int .i64 0] 62)) (.cells #[.int .i64 0,.int .i64 0,.int .i64 (-1)] 62);have X0:=z7c (zf w (.cells #[.int .i64 0,.int .i64 0,.int .i64 0] 62)) (.cells #[.int .i64 0,.int .i64 0,.int .i64 (-1)] 62)
 have X1:((w.alloc (.cells #[.int .i64 0,.int .i64 0,.int .i64 0] 62)).alloc (.cells #[.int .i64 0,.int .i64 0,.int .i64 (-1)] 62)).heap[w.heap.size+1]?=some (.cells #[.int .i64 0,.int .i64 0,.int .i64 (-1)] 62):=by
  have:=zf (w.alloc (.cells #[.int .i64 0,.int .i64 0,.int .i64 0] 62)) (.cells #[.int .i64 0,.int .i64 0,.int .i64 (-1)] 62)
  simpa using this
 have HX:=Hd (And.intro X0 X1);have HK:=Hd K2;have KB:=Hd (fun (W:World) (p:BW W) (x y z u:Int)=>z2K ((z4s x y z u p.u).mono (fun _ _ ⟨h1,h2⟩=>And.intro h1 (by rw [h2];exact zb (zb (Below.refl _ _) _) _))));clear h K2 X0 X1;go_enter Try.func90,Try.ntmps90;go_wp2_with fail
 go_loopw [4] (fun s W=>∃ k:Nat,s=.int .i64 k∧k≤l.length∧Hid (W.heap[w.heap.size+1]?=some (.cells #[.int .i64 (zo l k).s,.int .i64 (zo l k).w,.int .i64 (zo l k).c] 62))∧Hid (W.heap[w.heap.size]?=some (.cells #[.int .i64 0,.int .i64 0,.int .i64 0] 62))∧Hid (Below w.heap.size w W)) (fun s _=>l.length - (intOf s).toNat)
 case atStart=>exact ⟨0,rfl,Nat.zero_le _,HX.out.2,HX.out.1,HK⟩
 case round =>
  clear HX HK;obtain ⟨k,rfl,hk,HX,HZ,HK⟩:=hrel;by_cases hlt:k < l.length
  case neg =>
   obtain rfl:k=l.length:=by omega
   obtain ⟨⟨c0,c1,c2⟩,_⟩:=zy HX.out;obtain ⟨⟨d0,d1,d2⟩,f0,f1,f2⟩:=zy HZ.out;have HBl:=Hd (HK.out.trans ((z0g wr w.heap.size (.int .i64 (zo l l.length).s) (.int .i64 (zo l l.length).w) (.int .i64 (zo l l.length).c)).below HK.out.size (Nat.le_refl _)));have HE:Hid (zJ l=zo l l.length):=rfl;generalize zo l l.length=y at *;go_wp2;exact bodyPost_ret (v:=.agg #[.int .i64 y.s,.int .i64 y.w,.int .i64 y.c]) (by simp [results,Try.results90,go_sem,d0,d1,d2]) rfl ⟨by rw [HE.out],HBl.out⟩
  obtain ⟨b,off,cap',e',hc1,hc2,hbl,x0,x1,x2⟩:=At.get (HH.out.kept HK.out) hlt;simp only [Value.slice.injEq,true_and] at e';obtain ⟨rfl,rfl⟩:=e';unfold maxLen at hc2;have hwz:w.heap.size+1 < wr.heap.size:=(bL HX.out);have HE0:Hid (k=0→zo l (k+1)=l.getD k dF):=fun h=>by subst h;rw [zo,if_pos rfl]
  have HEy:Hid (k ≠ 0→btF (l.getD k dF) (zo l k)=true→zo l (k+1)=l.getD k dF):=fun h h2=>by rw [zo,if_neg h,if_pos h2]
  have HEn:Hid (k ≠ 0→btF (l.getD k dF) (zo l k)=false→zo l (k+1)=zo l k):=fun h h2=>by rw [zo,if_neg h,if_neg (by rw [h2];simp)]
  generalize l.getD k dF=p at x0 x1 x2 HE0 HEy HEn;generalize zo l k=y at HX HEy HEn;have hne:=z1X wr;have m0:=zj hbl x0;have m1:=zj hbl x1;have m2:=zj (a:=⟨w.heap.size+1,0,none⟩) hwz (zc (p:=0) HX.out);have m3:=zj (a:=⟨w.heap.size+1,1,none⟩) hwz (zc (p:=1) HX.out);have HPc:=Hd (And.intro hbl (And.intro x0 (And.intro x1 x2)));have HBt:Hid (btF p y=z0J p.s p.w y.s y.w):=rfl;clear x0 x1 x2;go_upto_region 5 with fail
  refine z0G hmx (by kernel_rfl) ?_;by_cases hk0:k=0
  case pos =>
   subst hk0;have HE:=Hd (HE0.out rfl);repeat (go_big_quiet_step (first | (go_at_call 105;refine KB.out _ _ _ _ _ _)))
   refine wpQuiet_nil ?_;intro W5 hw';obtain ⟨⟨Wx,hW5⟩,hw''⟩:=hw';subst hw'';clear m0 m1 m2 m3 hne;have HX5:=(hW5.block _ hwz).trans HX.out;have HZ5:=(hW5.block w.heap.size (by omega)).trans HZ.out;have HK5:=ze HK.out hW5;have x0:=(hW5.cell (p:=⟨b,_,none⟩) HPc.out.1).trans HPc.out.2.1;have x1:=(hW5.cell (p:=⟨b,_,none⟩) HPc.out.1).trans HPc.out.2.2.1;have x2:=(hW5.cell (p:=⟨b,_,none⟩) HPc.out.1).trans HPc.out.2.2.2;simp only [Nat.zero_mul,Nat.add_zero] at x0 x1 x2;obtain ⟨⟨c0,c1,c2⟩,f0,f1,f2⟩:=zy HX5;have HX6:=Hd (z43 HX5 (.int .i64 p.s) (.int .i64 p.w) (.int .i64 p.c));have hbk:=z0g W5 (w.heap.size+1) (.int .i64 p.s) (.int .i64 p.w) (.int .i64 p.c);have HZ6:=Hd ((hbk.block w.heap.size (bL HZ5) (by omega)).trans HZ5);have HK6:=Hd (HK5.trans (hbk.below HK5.size (by omega)));clear hW5 HX HZ HK HX5 HZ5 HK5 hbk HPc;go_wp2;go_roundw
   case rel=>exact ⟨0+1,by go_num,by omega,by rw [HE.out];exact HX6,HZ6,HK6⟩
   case measure=>simp [intOf];omega
  case neg =>
   have hkb:(((k:Int)) == 0)=false:=beq_eq_false_iff_ne.2 (by omega)
   cases hbt:z0J p.s p.w y.s y.w with
   | false =>
    have HE:=Hd (HEn.out hk0 (HBt.out.trans hbt));repeat (go_big_quiet_step (first | (go_at_call 105;refine KB.out _ _ _ _ _ _)))
    refine wpQuiet_nil ?_;intro W5 hw';obtain ⟨⟨Wx,hW5⟩,hw''⟩:=hw';subst hw'';have HX5:=Hd ((hW5.block _ hwz).trans HX.out);have HZ5:=Hd ((hW5.block _ (by omega)).trans HZ.out);have HK5:=Hd (ze HK.out hW5);clear m0 m1 m2 m3 hne hW5 HX HZ HK HPc;go_wp2;go_roundw
    case rel=>exact ⟨k+1,by go_num,by omega,by rw [HE.out];exact HX5,HZ5,HK5⟩
    case measure=>simp [intOf];omega
   | true =>
    have HE:=Hd (HEy.out hk0 (HBt.out.trans hbt));repeat (go_big_quiet_step (first | (go_at_call 105;refine KB.out _ _ _ _ _ _)))
    refine wpQuiet_nil ?_;intro W5 hw';obtain ⟨⟨Wx,hW5⟩,hw''⟩:=hw';subst hw'';clear m0 m1 m2 m3 hne;have HX5:=(hW5.block _ hwz).trans HX.out;have HZ5:=(hW5.block w.heap.size (by omega)).trans HZ.out;have HK5:=ze HK.out hW5;have x0:=(hW5.cell (p:=⟨b,_,none⟩) HPc.out.1).trans HPc.out.2.1;have x1:=(hW5.cell (p:=⟨b,_,none⟩) HPc.out.1).trans HPc.out.2.2.1;have x2:=(hW5.cell (p:=⟨b,_,none⟩) HPc.out.1).trans HPc.out.2.2.2;obtain ⟨⟨c0,c1,c2⟩,f0,f1,f2⟩:=zy HX5;have HX6:=Hd (z43 HX5 (.int .i64 p.s) (.int .i64 p.w) (.int .i64 p.c));have hbk:=z0g W5 (w.heap.size+1) (.int .i64 p.s) (.int .i64 p.w) (.int .i64 p.c);have HZ6:=Hd ((hbk.block w.heap.size (bL HZ5) (by omega)).trans HZ5);have HK6:=Hd (HK5.trans (hbk.below HK5.size (by omega)));clear hW5 HX HZ HK HX5 HZ5 HK5 hbk HPc;go_wp2;go_roundw
    case rel=>exact ⟨k+1,by go_num,by omega,by rw [HE.out];exact HX6,HZ6,HK6⟩
    case measure=>simp [intOf];omega
theorem z2Y (x f m:Int) (hx:I64 x) (hf:I64 f) (hm:I64 m) (w:World) :
  Calls Try.prog 113 #[.int .i64 x,.int .i64 f,.int .i64 m] w fun e w'=>e=.returned (.bool (z08 x f m))∧w'=w:=by
 unfold I64 at hx hf hm;by_cases h1:x < f
 ·have e:z08 x f m=false:=(by simp [z08];omega);rw [e];go_enter Try.func113,Try.ntmps113;go_wp2;go_ret;exact ⟨rfl,rfl⟩
 ·by_cases h2:m≤0
  ·have e:z08 x f m=false:=(by simp [z08];omega);rw [e];go_enter Try.func113,Try.ntmps113;go_wp2;go_ret;exact ⟨rfl,rfl⟩
  ·by_cases h3:f < 0
   ·by_cases h4:0≤x
    ·have e:z08 x f m=decide (x < m+f):=by
      have:decide (x - f < m)=decide (x < m+f):=(by apply decide_eq_decide.2;omega);simp only [z08,this];simp;omega
     rw [e];go_enter Try.func113,Try.ntmps113;go_wp2;go_ret;exact ⟨rfl,rfl⟩
    ·have e:z08 x f m=decide (x - f < m):=(by simp [z08];omega);rw [e];go_enter Try.func113,Try.ntmps113;go_wp2;go_ret;exact ⟨rfl,rfl⟩
   ·have e:z08 x f m=decide (x - f < m):=(by simp [z08];omega);rw [e];go_enter Try.func113,Try.ntmps113;go_wp2;go_ret;exact ⟨rfl,rfl⟩
theorem z4I (x:GC) (hx:GOk x) (row col:Int) (hr:I64 row) (hc:I64 col) (w:World) :
  Calls Try.prog 104 #[.agg #[.int .i64 x.row,.int .i64 x.col,.int .i64 x.rows,.int .i64 x.cols,.int .i64 x.ins],.int .i64 row,.int .i64 col] w fun e w'=>e=.returned (.bool (z09 row col x))∧Below w.heap.size w w':=by
 obtain ⟨h0,h1,h2,h3,_⟩:=hx;unfold z09;have H1:=Hd (z2Y row x.row x.rows hr h0 h2);have H2:=Hd (z2Y col x.col x.cols hc h1 h3);generalize z08 row x.row x.rows=p at H1 ⊢;generalize z08 col x.col x.cols=q at H2 ⊢
 cases p with
 | false =>
  go_enter Try.func104,Try.ntmps104;go_wp2_with fail
  refine (H1.out _).mono ?_;rintro e w1 ⟨rfl,rfl⟩;go_wp2;go_ret;exact ⟨rfl,zb (Below.refl _ _) _⟩
 | true =>
  go_enter Try.func104,Try.ntmps104;go_wp2_with fail
  refine (H1.out _).mono ?_;rintro e w1 ⟨rfl,rfl⟩;go_wp2_with fail
  refine (H2.out _).mono ?_;rintro e w1 ⟨rfl,rfl⟩;go_wp2;go_ret;exact ⟨by cases q <;> rfl,zb (Below.refl _ _) _⟩
theorem z28 (a b:Int) (ac:Option Addr) (cc:Nat) (gs:List GC) (row col:Int) (hr:I64 row) (hc:I64 col) (w:World) {z:Nat} (h:z03 w z (.slice ac gs.length cc) gs) :
  Calls Try.prog 88 #[.agg #[.int .i64 a,.int .i64 b,.slice ac gs.length cc],.int .i64 row,.int .i64 col] w fun e w'=>e=.returned (.int .i64 (z0O (z09 row col) gs))∧Below w.heap.size w w':=by
 obtain ⟨_,_,_,hlen⟩:=At.form h;unfold maxLen at hlen;have H:=Hd h;clear h;have KA:=Hd (zb (Below.refl w.heap.size w) (.cells #[.int .i64 a,.int .i64 b,.slice ac gs.length cc] 98));go_enter Try.func88,Try.ntmps88;go_wp2_with fail
 go_loopw [7] (fun i W=>∃ k:Nat,k≤gs.length∧i=.int .i64 k∧Hid (∀ j,j < k→z09 row col (gs.getD j dG)=false)∧Hid (Below w.heap.size w W)∧Hid (W.heap[w.heap.size]?=some (.cells #[.int .i64 a,.int .i64 b,.slice ac gs.length cc] 98))) (fun i _=>gs.length - (intOf i).toNat)
 case atStart=>exact ⟨0,Nat.zero_le _,rfl,fun j hj=>absurd hj (Nat.not_lt_zero _),KA.out,zf _ _⟩
 case round =>
  obtain ⟨k,hk,rfl,HA,HB,HX⟩:=hrel;have g2:wr.cell? ⟨w.heap.size,2,none⟩=some (.slice ac gs.length cc):=zc HX.out;by_cases hlt:k < gs.length
  ·obtain ⟨q,off,cap',e',hc1,hc2,hbl,hx,hs⟩:=At.get (H.out.kept HB.out) hlt;simp only [Value.slice.injEq,true_and] at e';obtain ⟨rfl,rfl⟩:=e';have HH:Hid (z09 row col (gs.getD k dG)=true→z0O (z09 row col) gs=(k:Int)):=fun hp=>z36 hlt HA.out hp
   have HN:Hid (z09 row col (gs.getD k dG)=false→∀ j,j < k+1→z09 row col (gs.getD j dG)=false):=fun hp j hj=>by
    rcases Nat.lt_or_eq_of_le (Nat.lt_succ_iff.1 hj) with h1 | rfl
    ·exact HA.out j h1
    ·exact hp
   have HL:=Hd (z4I (gs.getD k dG) hs row col hr hc);generalize gs.getD k dG=x at hx HH HN HL;obtain ⟨x0,x1,x2,x3,x4⟩:=hx;unfold maxLen at hc2;clear hs
   cases h1:z09 row col x with
   | false =>
    have HF:=Hd (HN.out h1);rw [h1] at HL;clear HH HN HA;go_wp2_with fail
    refine (HL.out _).mono ?_;rintro e w1 ⟨rfl,hb1⟩;have HB1:=Hd (ze HB.out hb1);have HX1:Hid (w1.heap[w.heap.size]?=some (.cells #[.int .i64 a,.int .i64 b,.slice (some ⟨q,off,none⟩) gs.length cc] 98)):=(hb1.block w.heap.size (z4m HX.out)).trans HX.out;clear hb1;go_wp2;go_roundw
    case rel=>exact ⟨k+1,by omega,by go_num,HF,HB1,HX1⟩
    case measure=>simp [intOf];omega
   | true =>
    have HF:=Hd (HH.out h1);rw [h1] at HL;clear HH HN HA;go_wp2_with fail
    refine (HL.out _).mono ?_;rintro e w1 ⟨rfl,hb1⟩;have HB1:=Hd (ze HB.out hb1);clear hb1;go_wp2;go_ret;exact ⟨by rw [HF.out];rfl,HB1.out⟩
  ·obtain rfl:k=gs.length:=by omega
   have HF:=Hd (z2O HA.out);clear HA;go_wp2;go_ret;exact ⟨by rw [HF.out];rfl,HB.out⟩
def z7u (arr:Array Value) (o:Nat) (x:C):Prop :=
 arr[o]?=some (.string x.s)∧arr[o+1]?=some (.int .i64 x.c)∧arr[o+2]?=some (.int .i64 x.r)∧arr[o+3]?=some (.int .i64 x.a1)∧arr[o+4]?=some (.int .i64 x.b1)∧arr[o+5]?=some (.int .i64 x.a2) ∧
 arr[o+6]?=some (.int .i64 x.b2)∧arr[o+7]?=some (.int .i64 x.a3)∧arr[o+8]?=some (.int .i64 x.b3)∧arr[o+9]?=some (.int .i64 x.a4)∧arr[o+10]?=some (.int .i64 x.b4)
def z7z (arr:Array Value) (o:Nat) (x:C):Array Value :=
 ((((((((((arr.setIfInBounds o (.string x.s)).setIfInBounds (o+1) (.int .i64 x.c)).setIfInBounds (o+2) (.int .i64 x.r)).setIfInBounds (o+3) (.int .i64 x.a1)).setIfInBounds (o+4) (.int .i64 x.b1)).setIfInBounds (o+5) (.int .i64 x.a2)).setIfInBounds (o+6) (.int .i64 x.b2)).setIfInBounds (o+7) (.int .i64 x.a3)).setIfInBounds (o+8) (.int .i64 x.b3)).setIfInBounds (o+9) (.int .i64 x.a4)).setIfInBounds (o+10) (.int .i64 x.b4)
def z7H (n:Nat):Array Value:=madeCells (Value.agg #[.string ⟨#[]⟩,.int .i64 0,.int .i64 0,.int .i64 0,.int .i64 0,.int .i64 0,.int .i64 0,.int .i64 0,.int .i64 0,.int .i64 0,.int .i64 0]).cells (n * 11)
def z7I (n:Nat):Array Value:=madeCells (Value.agg #[.slice none 0 0,.bool false]).cells (n * 2)
def z4w (w:World) (z:Nat) (arr:Array Value) (rs:List R) (k:Nat):Prop :=
 ∀ i,i < k→∃ u,arr[i * 2]?=some u∧arr[i * 2+1]?=some (.bool (rs.getD i dR).whole)∧z0E w z u (rs.getD i dR).cells
theorem z4w.next {w w':World} {z:Nat} {arr:Array Value} {rs:List R} {k:Nat} (h:z4w w z arr rs k) (hs:arr.size=rs.length * 2) (hk:k < rs.length) (hw:zX z w w') {u:Value} (hu:z0E w' z u (rs.getD k dR).cells) :
  z4w w' z ((arr.setIfInBounds (k * 2) u).setIfInBounds (k * 2+1) (.bool (rs.getD k dR).whole)) rs (k+1):=by
 obtain ⟨h1,h2,h3⟩:=z2m hs hk u (.bool (rs.getD k dR).whole);intro i hi
 rcases Nat.lt_or_eq_of_le (Nat.lt_succ_iff.1 hi) with hlt | rfl
 ·obtain ⟨v,e1,e2,e3⟩:=h i hlt;exact ⟨v,(h1 _ (by omega)).trans e1,(h1 _ (by omega)).trans e2,e3.since hw⟩
 ·exact ⟨u,h2,h3,hu⟩
def z7J (n:Nat):Array Value:=madeCells (Value.agg #[.int .i64 0,.int .i64 0]).cells (n * 2)
def z4x (arr:Array Value) (ps:List (Int × Int)) (k:Nat):Prop:=∀ i,i < k→arr[i * 2]?=some (.int .i64 (ps.getD i (0,0)).1)∧arr[i * 2+1]?=some (.int .i64 (ps.getD i (0,0)).2)
theorem z4x.next {arr:Array Value} {ps:List (Int × Int)} {k:Nat} (h:z4x arr ps k) (hs:arr.size=ps.length * 2) (hk:k < ps.length) :
  z4x ((arr.setIfInBounds (k * 2) (.int .i64 (ps.getD k (0,0)).1)).setIfInBounds (k * 2+1) (.int .i64 (ps.getD k (0,0)).2)) ps (k+1):=by
 obtain ⟨h1,h2,h3⟩:=z2m hs hk (.int .i64 (ps.getD k (0,0)).1) (.int .i64 (ps.getD k (0,0)).2);intro i hi
 rcases Nat.lt_or_eq_of_le (Nat.lt_succ_iff.1 hi) with hlt | rfl
 ·exact ⟨(h1 _ (by omega)).trans (h i hlt).1,(h1 _ (by omega)).trans (h i hlt).2⟩
 ·exact ⟨h2,h3⟩
theorem z29 {w w':World} {base:Nat} {e:TypeId} {sz:Nat} {v:Value} {m:Nat} {xs:List Value} (h:w.ownsRow base e sz v m xs) (k:zX base w w'):w'.ownsRow base e sz v m xs :=
 ⟨h.1,h.2.elim Or.inl (fun ⟨g,cap,cur,hv,hg,hc,q⟩=>Or.inr ⟨g,cap,cur,hv,hg,(k.block g hg (bL hc)).trans hc,q⟩)⟩
theorem zC.since {w w':World} {base:Nat} {v:Value} {ur:List (Value × R)} (h:zC w base v ur) (k:zX base w w'):zC w' base v ur:=⟨z29 h.own k,fun p hp=>z29 (h.cells p hp) k,h.apart⟩
def z3C (w:World) (base:Nat) (vc vr:Value) (t:T):Prop:=∃ ur:List (Value × R),ur.map (·.2)=t.rows∧zF w base vc t.cols∧zC w base vr ur
theorem z3C.since {w w':World} {base:Nat} {vc vr:Value} {t:T} (h:z3C w base vc vr t) (k:zX base w w'):z3C w' base vc vr t:=by
 obtain ⟨ur,e,a,b⟩:=h;exact ⟨ur,e,z29 a k,b.since k⟩
theorem z3C.base {w:World} {base base':Nat} {vc vr:Value} {t:T} (h:z3C w base vc vr t) (hb:base'≤base):z3C w base' vc vr t:=by
 obtain ⟨ur,e,a,b⟩:=h;exact ⟨ur,e,z0P a hb,b.base hb⟩
theorem z4y {α:Type} (f:α→List Value) (sz:Nat) (hf:∀ x,(f x).length=sz) (l:List α) (arr:Array Value) (hs:arr.size=l.length * sz) (h:∀ i,(hi:i < l.length)→∀ j,j < sz→arr[i * sz+j]?=(f l[i])[j]?):arr.toList.take (l.length * sz)=l.flatMap f:=by
 rw [List.take_of_length_le (by rw [Array.length_toList,hs];exact Nat.le_refl _)];apply List.ext_getElem?;intro k;by_cases hk:k < l.length * sz
 ·have hz:0 < sz:=by
   rcases Nat.eq_zero_or_pos sz with h0 | h0
   ·rw [h0] at hk;omega
   ·exact h0
  have h1:k / sz < l.length:=(Nat.div_lt_iff_lt_mul hz).2 hk;have h2:k % sz < sz:=Nat.mod_lt _ hz;have e:k=k / sz * sz+k % sz:=(by rw [Nat.mul_comm];exact (Nat.div_add_mod k sz).symm);have a:=h (k / sz) h1 (k % sz) h2;have b:=z16 f sz hf l (k / sz) h1 (k % sz) h2;rw [← e] at a b;rw [Array.getElem?_toList,a,b]
 ·rw [List.getElem?_eq_none (by rw [Array.length_toList,hs];omega),List.getElem?_eq_none (by rw [z2p f sz hf];omega)]
def z33 (w:World) (z:Nat) (arr:Array Value) (rs:List R) (k:Nat):Prop :=
 ∃ us:List Value,us.length=k∧(∀ i,(hi:i < us.length)→arr[i * 2]?=some us[i]∧arr[i * 2+1]?=some (.bool (rs.getD i dR).whole)∧z0p w z us[i] (rs.getD i dR).cells)∧us.Pairwise fun p q=>p.ownBlock=none∨p.ownBlock ≠ q.ownBlock
theorem z33.zero (w:World) (z:Nat) (arr:Array Value) (rs:List R):z33 w z arr rs 0:=⟨[],rfl,fun _ hi=>absurd hi (Nat.not_lt_zero _),.nil⟩
theorem z33.next {w w':World} {z:Nat} {arr:Array Value} {rs:List R} {k:Nat} (h:z33 w z arr rs k) (hs:arr.size=rs.length * 2) (hk:k < rs.length) (hz:z≤w.heap.size) (hw:zX z w w') {u:Value} (hu:z0p w' w.heap.size u (rs.getD k dR).cells) :
  z33 w' z ((arr.setIfInBounds (k * 2) u).setIfInBounds (k * 2+1) (.bool (rs.getD k dR).whole)) rs (k+1):=by
 obtain ⟨h1,h2,h3⟩:=z2m hs hk u (.bool (rs.getD k dR).whole);obtain ⟨us,hl,hg,hp⟩:=h;refine ⟨us ++ [u],by simp [hl],fun i hi=>?_,?_⟩
 ·rw [List.length_append,List.length_singleton,hl] at hi
  rcases Nat.lt_or_eq_of_le (Nat.lt_succ_iff.1 hi) with hlt | rfl
  ·obtain ⟨e1,e2,e3⟩:=hg i (by omega);rw [List.getElem_append_left (by omega)];exact ⟨(h1 _ (by omega)).trans e1,(h1 _ (by omega)).trans e2,z29 e3 hw⟩
  ·have e:(us ++ [u])[i]'(by simp [hl])=u:=by
    rw [List.getElem_append_right (by omega)];simp
   rw [e];exact ⟨h2,h3,z0P hu hz⟩
 ·rw [List.pairwise_append];refine ⟨hp,List.pairwise_singleton _ _,fun p hpm q hq=>?_⟩;rw [List.mem_singleton] at hq;subst hq;obtain ⟨i,hi,rfl⟩:=List.mem_iff_getElem.1 hpm;obtain ⟨_,_,e3⟩:=hg i hi
  cases hb:us[i].ownBlock with
  | none=>exact .inl rfl
  | some b =>
   refine .inr (fun he=>?_);have l1:=z0d e3 hb;have l2:=z0d hu he.symm;omega
theorem z33.all {w:World} {z:Nat} {arr:Array Value} {rs:List R} (h:z33 w (z+1) arr rs rs.length) (hs:arr.size=rs.length * 2) (hg:w.heap[z]?=some (.cells arr 33)) (hm:rs.length≤maxLen) :
  ∃ ur:List (Value × R),ur.map (·.2)=rs∧zC w z (.slice (some ⟨z,0,none⟩) rs.length rs.length) ur:=by
 obtain ⟨us,hl,hgt,hp⟩:=h;have hzl:(us.zip rs).length=rs.length:=(by rw [List.length_zip,hl,Nat.min_self]);refine ⟨us.zip rs,List.map_snd_zip (by omega),⟨?_,fun p hpm=>?_,?_⟩⟩
 ·refine ⟨z2p zS 2 (fun _=>rfl) _,.inr ⟨z,rs.length,arr,by rw [hzl],Nat.le_refl _,hg,by rw [hzl];exact Nat.le_refl _,hm,hs,?_⟩⟩;refine z4y zS 2 (fun _=>rfl) (us.zip rs) arr (by rw [hs,hzl]) (fun i hi j hj=>?_);rw [hzl] at hi;obtain ⟨e1,e2,_⟩:=hgt i (by omega);rw [z0Q dR hi] at e2;rw [List.getElem_zip]
  match j,hj with
  | 0,_=>exact e1
  | 1,_=>exact e2
 ·obtain ⟨i,hi,rfl⟩:=List.mem_iff_getElem.1 hpm;rw [hzl] at hi;obtain ⟨_,_,e3⟩:=hgt i (by omega);rw [z0Q dR hi] at e3;rw [List.getElem_zip];exact z0P e3 (Nat.le_succ _)
 ·rw [List.pairwise_iff_getElem] at hp ⊢;intro i j hi hj hij;rw [List.getElem_zip,List.getElem_zip];exact hp i j (by omega) (by omega) hij
end
section
open Go.RowKit Go.Lib
theorem z6q:(Try.prog.info? 33).map (fun i=>(i.zero,i.size,i.bytes))=some (some (Value.agg #[.slice none 0 0,.bool false]),2,32):=by kernel_rfl
theorem z61:(Try.prog.info? 35).map (fun i=>(i.zero,i.size,i.bytes))=some (some (Value.agg #[.string ⟨#[]⟩,.int .i64 0,.int .i64 0,.int .i64 0,.int .i64 0,.int .i64 0,.int .i64 0,.int .i64 0,.int .i64 0,.int .i64 0,.int .i64 0]),11,96):=by kernel_rfl
end
section
open Go.RowKit
def z6X (n:Nat) (out:ByteArray):ByteArray:=if n=0 then out else z6X (n / 10) (⟨#[48+UInt8.ofNat (n % 10)]⟩ ++ out)
termination_by n
decreasing_by omega
def mt (k:Nat):ByteArray:=⟨#[109]⟩ ++ z6X k ⟨#[]⟩
def mkC (k:Nat):C:=⟨mt k,(k:Int)+1,(k:Int)+2,(k:Int)+3,(k:Int)+4,(k:Int)+5,(k:Int)+6,(k:Int)+7,(k:Int)+8,(k:Int)+9,(k:Int)+10⟩
def z7n (n k:Nat):List C:=(List.range n).map fun i=>mkC (k+11 * i)
theorem z62 {α:Type} (f:α→List Value) (sz:Nat) (hf:∀ x,(f x).length=sz) (l:List α) (arr:Array Value) (hs:l.length * sz≤arr.size) (h:∀ i,(hi:i < l.length)→∀ j,j < sz→arr[i * sz+j]?=(f l[i])[j]?):arr.toList.take (l.length * sz)=l.flatMap f:=by
 have e:=z4y f sz hf l (arr.extract 0 (l.length * sz)) (by rw [Array.size_extract];omega) (fun i hi j hj=>by
  have hlt:i * sz+j < l.length * sz:=by
   have:(i+1) * sz≤l.length * sz:=Nat.mul_le_mul_right sz hi;rw [Nat.succ_mul] at this;omega
  rw [Array.getElem?_extract,if_pos (by omega),Nat.zero_add];exact h i hi j hj)
 rw [← e];simp [List.take_take]
theorem Out.trans {B D:Nat} {a b c:World} (h:Out B D a b) (k:Out B D b c):Out B D a c :=
 ⟨h.below.trans k.below,fun i h1 h2=>(k.block i h1 (Nat.lt_of_lt_of_le h2 h.below.size)).trans (h.block i h1 h2)⟩
theorem Out.alloc {B D:Nat} {a w:World} (h:Out B D a w) (hB:B≤w.heap.size) (o:Obj):Out B D a (w.alloc o) :=
 ⟨h.below.alloc hB o,fun k h1 h2=>(Below.heap_alloc _ _ _ (Nat.lt_of_lt_of_le h2 h.below.size)).trans (h.block k h1 h2)⟩
def z7d (k:Nat):Int × Int:=((k:Int),(k:Int)+1)
def z7x (n k:Nat):List (Int × Int):=(List.range n).map fun i=>z7d (k+2 * i)
def z3D (arr:Array Value) (f:Nat→Int × Int) (k:Nat):Prop:=∀ i,i < k→arr[i * 2]?=some (.int .i64 (f i).1)∧arr[i * 2+1]?=some (.int .i64 (f i).2)
theorem z3D.next {arr:Array Value} {f:Nat→Int × Int} {k n:Nat} (h:z3D arr f k) (hs:arr.size=n * 2) (hk:k < n) :
  z3D ((arr.setIfInBounds (k * 2) (.int .i64 (f k).1)).setIfInBounds (k * 2+1) (.int .i64 (f k).2)) f (k+1):=by
 obtain ⟨h1,h2,h3⟩:=z2m hs hk (.int .i64 (f k).1) (.int .i64 (f k).2);intro i hi
 rcases Nat.lt_or_eq_of_le (Nat.lt_succ_iff.1 hi) with hlt | rfl
 ·exact ⟨(h1 _ (by omega)).trans (h i hlt).1,(h1 _ (by omega)).trans (h i hlt).2⟩
 ·exact ⟨h2,h3⟩
def kAt (rs:List R) (k:Nat):Nat→Nat
 | 0=>k
 | i+1=>kAt rs k i+11 * (rs.getD i dR).cells.length+1
def mkR (k:Nat) (r:R):R:=⟨z7n r.cells.length k,decide ((k+11 * r.cells.length) % 3=0)⟩
def dU:Value × R:=(.slice none 0 0,dR)
def mkU (ur:List (Value × R)) (k:Nat):Nat→List (Value × R)
 | 0=>ur
 | i+1=>(mkU ur k i).set i ((ur.getD i dU).1,mkR (kAt (ur.map (·.2)) k i) (ur.getD i dU).2)
theorem zC.mark {w w1:World} {base:Nat} {v:Value} {ur:List (Value × R)} (h:zC w base v ur) {i g cap:Nat} (hv:v=.slice (some ⟨g,0,none⟩) ur.length cap) {p:Value × R} (hi:ur[i]?=some p) {r:R} (hc:z0p w1 base p.1 r.cells) (k:w.grownBy w1 p.1.ownBlock) :
  zC (w1.setCell ⟨g,i * 2+1,none⟩ (.bool r.whole)) base v (ur.set i (p.1,r)):=by
 have hil:i < ur.length:=(List.getElem?_eq_some_iff.1 hi).1;have hpm:p ∈ ur:=List.mem_of_getElem? hi;have hne:v.ownBlock=none∨v.ownBlock ≠ p.1.ownBlock:=z17 h.own (h.cells p hpm) (by decide);have hvg:v.ownBlock=some g:=(by rw [hv];rfl);have K1:Off 0 none p.1.ownBlock w w1:=Off.grown k;have h1:=z00 h.own K1 (Nat.zero_le _) (.inr (by rw [hvg];simp)) hne;have hS:Off 0 (some g) none w1 (w1.setCell ⟨g,i * 2+1,none⟩ (.bool r.whole)):=Off.set w1 ⟨g,i * 2+1,none⟩ rfl _
 have hcw:z0p (w1.setCell ⟨g,i * 2+1,none⟩ (.bool r.whole)) base p.1 r.cells:=by
  refine z00 hc hS (Nat.zero_le _) ?_ ?_
  ·rcases z17 hc h1 (by decide) with e | e
   ·exact .inl e
   ·exact .inr (by rw [← hvg];exact e)
  ·rcases hb:p.1.ownBlock with _ | b
   ·exact .inl rfl
   ·exact .inr (by simp)
 refine ⟨?_,fun q hq=>?_,?_⟩
 ·rcases h1.2 with ⟨e,_⟩ | ⟨g',cap',cur,e,hg',hcur,a1,a2,a3,a4⟩
  ·rw [hv] at e;simp at e
  ·rw [hv] at e;simp only [Value.slice.injEq,Option.some.injEq,Addr.mk.injEq,and_true,true_and] at e;obtain ⟨rfl,rfl⟩:=e;refine ⟨by rw [z2p zS 2 (fun _=>rfl)],.inr ⟨g,cap,cur.setIfInBounds (i * 2+1) (.bool r.whole),by rw [List.length_set];exact hv,hg',zL hcur _,by rw [List.length_set];exact a1,a2,by rw [Array.size_setIfInBounds];exact a3,?_⟩⟩;refine z62 zS 2 (fun _=>rfl) (ur.set i (p.1,r)) (cur.setIfInBounds (i * 2+1) (.bool r.whole)) (by rw [List.length_set,Array.size_setIfInBounds,a3];omega) (fun j hj0 m hm=>?_);have hj:j < ur.length:=(by rw [List.length_set] at hj0;exact hj0)
   have hold:cur[j * 2+m]?=(zS ur[j])[m]?:=by
    have e:=z16 zS 2 (fun _=>rfl) ur j hj m hm;rw [← a4,List.getElem?_take_of_lt (by omega),Array.getElem?_toList] at e;exact e
   by_cases hji:j=i
   ·subst hji;have ep:ur[j]=p:=(by rw [List.getElem?_eq_getElem hj] at hi;exact Option.some.inj hi);rw [List.getElem_set_self]
    match m,hm with
    | 0,_ =>
     rw [Array.getElem?_setIfInBounds_ne (by omega),hold,ep];rfl
    | 1,_ =>
     rw [Array.getElem?_setIfInBounds_self_of_lt (by rw [a3];omega)];rfl
   ·rw [List.getElem_set_ne (by omega),Array.getElem?_setIfInBounds_ne (by omega)];exact hold
 ·obtain ⟨j,hj0,rfl⟩:=List.mem_iff_getElem.1 hq;have hj:j < ur.length:=(by rw [List.length_set] at hj0;exact hj0);by_cases hji:j=i
  ·subst hji;rw [List.getElem_set_self];exact hcw
  ·rw [List.getElem_set_ne (by omega)]
   have hap:ur[j].1.ownBlock=none∨ur[j].1.ownBlock ≠ p.1.ownBlock:=by
    have ep:ur[i]=p:=(by rw [List.getElem?_eq_getElem hil] at hi;exact Option.some.inj hi);have hp:=List.pairwise_iff_getElem.1 h.apart
    rcases Nat.lt_or_gt_of_ne hji with hl | hl
    ·rw [← ep];exact hp j i hj hil hl
    ·have:=hp i j hil hj hl;rw [ep] at this
     rcases hb:ur[j].1.ownBlock with _ | b
     ·exact .inl rfl
     ·refine .inr (fun e=>?_)
      rcases this with e1 | e1
      ·rw [e1] at e;cases e
      ·exact e1 (e.symm.trans hb.symm)
   have c1:=z00 (h.cells _ (List.getElem_mem hj)) K1 (Nat.zero_le _) (by rcases hb:ur[j].1.ownBlock with _ | b;exact .inl rfl;exact .inr (by simp)) hap;refine z00 c1 hS (Nat.zero_le _) ?_ (by rcases hb:ur[j].1.ownBlock with _ | b;exact .inl rfl;exact .inr (by simp))
   rcases z17 c1 h1 (by decide) with e | e
   ·exact .inl e
   ·exact .inr (by rw [← hvg];exact e)
 ·rw [List.pairwise_iff_getElem];have hp:=List.pairwise_iff_getElem.1 h.apart
  have hfst:∀ j,(hj:j < ur.length)→((ur.set i (p.1,r))[j]'(by rw [List.length_set];exact hj)).1=ur[j].1:=fun j hj=>by
   by_cases hji:j=i
   ·subst hji;rw [List.getElem_set_self,show ur[j]=p by rw [List.getElem?_eq_getElem hj] at hi;exact Option.some.inj hi]
   ·rw [List.getElem_set_ne (by omega)]
  intro a b ha0 hb0 hab;have ha:a < ur.length:=(by rw [List.length_set] at ha0;exact ha0);have hb:b < ur.length:=(by rw [List.length_set] at hb0;exact hb0);rw [hfst a ha,hfst b hb];exact hp a b ha hb hab
def z7A (us:List Value) (rs:List R):List Value:=(us.zip rs).flatMap zS
theorem zC.push {w w':World} {B:Nat} {U v':Value} {ur:List (Value × R)} (h:zC w B U ur) (k:w.grownBy w' U.ownBlock) {u:Value} {r:R} (hO:w'.ownsRow B 33 2 v' (ur.length+1) (ur.flatMap zS ++ zS (u,r))) (hu:z0p w B u r.cells) (ha:∀ p ∈ ur,p.1.ownBlock=none∨p.1.ownBlock ≠ u.ownBlock):zC w' B v' (ur ++ [(u,r)]):=by
 have hnn:∀ u:Value,u.ownBlock=none∨u.ownBlock ≠ none:=fun u=>by rcases hb:u.ownBlock with _ | b;exact .inl rfl;exact .inr (by simp)
 have K1:Off 0 none U.ownBlock w w':=Off.grown k;refine ⟨by simpa [List.flatMap_append] using hO,fun p hp=>?_,?_⟩
 ·rcases List.mem_append.1 hp with hp | hp
  ·exact z00 (h.cells p hp) K1 (Nat.zero_le _) (hnn _) (z17 (h.cells p hp) h.own (by decide))
  ·rw [List.mem_singleton] at hp;subst hp;exact z00 hu K1 (Nat.zero_le _) (hnn _) (z17 hu h.own (by decide))
 ·rw [List.pairwise_append];refine ⟨h.apart,List.pairwise_singleton _ _,fun p hp q hq=>?_⟩;rw [List.mem_singleton] at hq;subst hq;exact ha p hp
theorem zC.kept {w w':World} {B:Nat} {U:Value} {ur:List (Value × R)} (h:zC w B U ur) (k:Below w.heap.size w w'):zC w' B U ur:=h.since (.of_below k)
theorem z6Y (n:Nat) (hn:n≤9) (k:Int) (h0:0≤k) (h1:k < 3):∃ v:Int,(#[.int .i64 (-1),.int .i64 9,.int .i64 (n:Int)]:Array Value)[k.toNat]?=some (.int .i64 v)∧-1≤v∧v≤9:=by
 rcases (by omega:k=0∨k=1∨k=2) with rfl | rfl | rfl
 ·exact ⟨-1,rfl,by omega,by omega⟩
 ·exact ⟨9,rfl,by omega,by omega⟩
 ·exact ⟨n,rfl,by omega,by omega⟩
def z1A (L:Nat→Bool):Nat:=(if L 5=true then 1 else 0)
theorem z3U (L:Nat→Bool):z1A L≤1:=by unfold z1A;(repeat (first | omega | split))
theorem z6r {L:Nat→Bool} (h:L 5=false):z1A (upd L 5)=z1A L+1:=by simp [z1A,upd,h]
theorem z0C {L:Nat→Bool} {i:Nat} (h:i ≠ 5):z1A (upd L i)=z1A L:=by
 have k5:(5:Nat) ≠ i:=fun e=>(h) e.symm;simp [z1A,upd,k5]
structure z7o (r B n0:Nat) (w0:World) (F:World→Prop) (tb:Nat) (tc:Array Value) (ra:Option Addr) (rn rc:Nat)  (L:Nat→Bool) (w:World) (v33 v34 v35 v36 v37 v38 v39 v40 v41:Value):Prop where
 f0:L 0=true→v33=.pointer (some ⟨tb,3,none⟩)
 f1:L 1=true→v34=.slice ra rn rc
 f2:L 2=true→v35=.int .i64 (rn:Int)
 f3:L 3=true→L 9=false→PB n0 w 3 3 (fun arr=>arr=#[.int .i64 (-1),.int .i64 9,.int .i64 (rn:Int)]) v36
 f4:L 4=true→v37=.pointer (some ⟨r,0,none⟩)
 f5:L 5=true→PI 0 2 v38
 f6:L 6=true→L 9=false→PP n0 w 3 (fun arr k=>∃ v:Int,arr[k]?=some (.int .i64 v)∧-1≤v∧v≤9) v39
 f7:L 7=true→PI (-1) 9 v40
 f8:L 8=true→v41=.pointer (some ⟨tb,1,none⟩)
 rd:Rd w r (B+z1A L)
 bk:Bk r w0 w
 fr:F w
 tb0:L 9=false→w.heap[tb]?=some (.cells tc 26)
 tb1:L 9=true→∃ v:Int,(-1≤v∧v≤9)∧w.heap[tb]?=some (.cells (tc.setIfInBounds 1 (.int .i64 v)) 26)
def hdR (r B n0:Nat) (w0:World) (F:World→Prop) (tb:Nat) (tc:Array Value) (ra:Option Addr) (rn rc:Nat)  (mk:Value→Value→Value→Value→Value→Value→Value→Value→Value→Act) (L:Nat→Bool) (a:Act) (w:World):Prop:=∃ v33 v34 v35 v36 v37 v38 v39 v40 v41:Value,a=mk v33 v34 v35 v36 v37 v38 v39 v40 v41∧z7o r B n0 w0 F tb tc ra rn rc L w v33 v34 v35 v36 v37 v38 v39 v40 v41
def z1B (L:Nat→Bool):Nat:=(if L 5=true then 1 else 0)
theorem z3V (L:Nat→Bool):z1B L≤1:=by unfold z1B;(repeat (first | omega | split))
theorem z6s {L:Nat→Bool} (h:L 5=false):z1B (upd L 5)=z1B L+1:=by simp [z1B,upd,h]
theorem z0D {L:Nat→Bool} {i:Nat} (h:i ≠ 5):z1B (upd L i)=z1B L:=by
 have k5:(5:Nat) ≠ i:=fun e=>(h) e.symm;simp [z1B,upd,k5]
structure z7p (r B n0:Nat) (w0:World) (F:World→Prop) (tb:Nat) (tc:Array Value) (ra:Option Addr) (rn rc:Nat)  (L:Nat→Bool) (w:World) (v44 v45 v46 v47 v48 v49 v50 v51 v52:Value):Prop where
 f0:L 0=true→v44=.pointer (some ⟨tb,3,none⟩)
 f1:L 1=true→v45=.slice ra rn rc
 f2:L 2=true→v46=.int .i64 (rn:Int)
 f3:L 3=true→L 9=false→PB n0 w 3 3 (fun arr=>arr=#[.int .i64 (-1),.int .i64 9,.int .i64 (rn:Int)]) v47
 f4:L 4=true→v48=.pointer (some ⟨r,0,none⟩)
 f5:L 5=true→PI 0 2 v49
 f6:L 6=true→L 9=false→PP n0 w 3 (fun arr k=>∃ v:Int,arr[k]?=some (.int .i64 v)∧-1≤v∧v≤9) v50
 f7:L 7=true→PI (-1) 9 v51
 f8:L 8=true→v52=.pointer (some ⟨tb,2,none⟩)
 rd:Rd w r (B+z1B L)
 bk:Bk r w0 w
 fr:F w
 tb0:L 9=false→w.heap[tb]?=some (.cells tc 26)
 tb1:L 9=true→∃ v:Int,(-1≤v∧v≤9)∧w.heap[tb]?=some (.cells (tc.setIfInBounds 2 (.int .i64 v)) 26)
def ftR (r B n0:Nat) (w0:World) (F:World→Prop) (tb:Nat) (tc:Array Value) (ra:Option Addr) (rn rc:Nat)  (mk:Value→Value→Value→Value→Value→Value→Value→Value→Value→Act) (L:Nat→Bool) (a:Act) (w:World):Prop:=∃ v44 v45 v46 v47 v48 v49 v50 v51 v52:Value,a=mk v44 v45 v46 v47 v48 v49 v50 v51 v52∧z7p r B n0 w0 F tb tc ra rn rc L w v44 v45 v46 v47 v48 v49 v50 v51 v52
def z18 (L:Nat→Bool):Nat:=(if L 3=true then 1 else 0)+(if L 6=true then 1 else 0)
theorem z2I (L:Nat→Bool):z18 L≤2:=by unfold z18;(repeat (first | omega | split))
theorem z6t {L:Nat→Bool} (h:L 3=false):z18 (upd L 3)=z18 L+1:=by simp [z18,upd,h];omega
theorem z6u {L:Nat→Bool} (h:L 6=false):z18 (upd L 6)=z18 L+1:=by simp [z18,upd,h]
theorem z0e {L:Nat→Bool} {i:Nat} (h:i ≠ 3∧i ≠ 6):z18 (upd L i)=z18 L:=by
 have k3:(3:Nat) ≠ i:=fun e=>(h.1) e.symm;have k6:(6:Nat) ≠ i:=fun e=>(h.2) e.symm;simp [z18,upd,k3,k6]
structure z7q (r B n0:Nat) (w0:World) (F:World→Prop) (base:Nat) (U:Value) (nn:Nat) (xs:List Value) (tb:Nat) (tc:Array Value)  (L:Nat→Bool) (w:World) (v63 v64 v65 v66 v67 v68 v69 v70 v71 v72 v73 v74 v75:Value):Prop where
 f0:L 0=true→v63=.pointer (some ⟨tb,0,none⟩)
 f1:L 1=true→v64=U
 f2:L 2=true→v65=.pointer (some ⟨r,0,none⟩)
 f3:L 3=true→PI 0 3 v66
 f4:L 4=true→L 11=false→PB n0 w 3 4 (fun arr=>arr=#[.int .i64 (-1),.int .i64 0,.int .i64 61,.int .i64 101]) v67
 f5:L 5=true→v68=.pointer (some ⟨r,0,none⟩)
 f6:L 6=true→PI 0 3 v69
 f7:L 7=true→L 11=false→PP n0 w 3 (fun arr k=>∃ v:Int,arr[k]?=some (.int .i64 v)) v70
 f8:L 8=true→∃ v:Int,v71=.int .i64 v
 f9:L 9=true→∃ x y:Int,v72=.agg #[.int .i64 x,.int .i64 y]
 f10:L 10=true→L 11=false→PB n0 w 46 1 (fun arr=>∃ x y:Int,arr=#[.int .i64 x,.int .i64 y]) v73
 f12:L 12=true→v75=.pointer (some ⟨tb,0,none⟩)
 rd:Rd w r (B+z18 L)
 bk:Bk r w0 w
 fr:F w
 own:L 11=false→w.ownsRow base 46 2 U nn xs
 ownA:L 11=true→∃ nw,(∃ p,nw=z1L p)∧w.ownsRow base 46 2 v74 (nn+1) (xs ++ nw)
 tb0:L 13=false→w.heap[tb]?=some (.cells tc 26)
 tb1:L 13=true→w.heap[tb]?=some (.cells (tc.setIfInBounds (0) v74) 26)
def acR (r B n0:Nat) (w0:World) (F:World→Prop) (base:Nat) (U:Value) (nn:Nat) (xs:List Value) (tb:Nat) (tc:Array Value)  (mk:Value→Value→Value→Value→Value→Value→Value→Value→Value→Value→Value→Value→Value→Act) (L:Nat→Bool) (a:Act) (w:World):Prop:=∃ v63 v64 v65 v66 v67 v68 v69 v70 v71 v72 v73 v74 v75:Value,a=mk v63 v64 v65 v66 v67 v68 v69 v70 v71 v72 v73 v74 v75∧z7q r B n0 w0 F base U nn xs tb tc L w v63 v64 v65 v66 v67 v68 v69 v70 v71 v72 v73 v74 v75
def z1C (L:Nat→Bool):Nat:=(if L 10=true then 50 else 0)
theorem z3W (L:Nat→Bool):z1C L≤50:=by unfold z1C;(repeat (first | omega | split))
theorem z63 {L:Nat→Bool} (h:L 10=false):z1C (upd L 10)=z1C L+50:=by simp [z1C,upd,h]
theorem zW {L:Nat→Bool} {i:Nat} (h:i ≠ 10):z1C (upd L i)=z1C L:=by
 have k10:(10:Nat) ≠ i:=fun e=>(h) e.symm;simp [z1C,upd,k10]
structure z7r (r B n0:Nat) (w0:World) (F:World→Prop) (base:Nat) (U:Value) (nn:Nat) (xs:List Value) (tb:Nat) (tc:Array Value) (t5 kk rn rc:Nat)  (L:Nat→Bool) (w:World) (v78 v79 v80 v81 v82 v83 v84 v85 v86 v87 v88 v89 v90 v91 v92:Value):Prop where
 f0:L 0=true→v78=.pointer (some ⟨t5,3,none⟩)
 f1:L 1=true→v79=.slice (some ⟨tb,0,none⟩) rn rc
 f2:L 2=true→v80=.int .i64 (kk:Int)
 f3:L 3=true→v81=.pointer (some ⟨t5,3,none⟩)
 f4:L 4=true→v82=.slice (some ⟨tb,0,none⟩) rn rc
 f5:L 5=true→v83=.int .i64 (kk:Int)
 f6:L 6=true→v84=.pointer (some ⟨tb,kk * 2,none⟩)
 f7:L 7=true→v85=.pointer (some ⟨tb,kk * 2,none⟩)
 f8:L 8=true→v86=U
 f9:L 9=true→v87=.pointer (some ⟨r,0,none⟩)
 f10:L 10=true→∃ x:C,v88=.agg #[.string x.s,.int .i64 x.c,.int .i64 x.r,.int .i64 x.a1,.int .i64 x.b1,.int .i64 x.a2,.int .i64 x.b2,.int .i64 x.a3,.int .i64 x.b3,.int .i64 x.a4,.int .i64 x.b4]∧Cx x
 f11:L 11=true→L 12=false→PB n0 w 35 1 (fun arr=>∃ x:C,arr=(z0u x).toArray∧Cx x) v89
 f13:L 13=true→v91=.pointer (some ⟨tb,kk * 2,none⟩)
 f14:L 14=true→v92=.pointer (some ⟨tb,kk * 2,none⟩)
 rd:Rd w r (B+z1C L)
 bk:Bk r w0 w
 fr:F w
 own:L 12=false→w.ownsRow base 35 11 U nn xs
 ownA:L 12=true→∃ nw,(∃ x,nw=z0u x∧Cx x)∧w.ownsRow base 35 11 v90 (nn+1) (xs ++ nw)
 tb0:L 15=false→w.heap[tb]?=some (.cells tc 33)
 tb1:L 15=true→w.heap[tb]?=some (.cells (tc.setIfInBounds (kk * 2) v90) 33)
def crR (r B n0:Nat) (w0:World) (F:World→Prop) (base:Nat) (U:Value) (nn:Nat) (xs:List Value) (tb:Nat) (tc:Array Value) (t5 kk rn rc:Nat)  (mk:Value→Value→Value→Value→Value→Value→Value→Value→Value→Value→Value→Value→Value→Value→Value→Act) (L:Nat→Bool) (a:Act) (w:World):Prop:=∃ v78 v79 v80 v81 v82 v83 v84 v85 v86 v87 v88 v89 v90 v91 v92:Value,a=mk v78 v79 v80 v81 v82 v83 v84 v85 v86 v87 v88 v89 v90 v91 v92∧z7r r B n0 w0 F base U nn xs tb tc t5 kk rn rc L w v78 v79 v80 v81 v82 v83 v84 v85 v86 v87 v88 v89 v90 v91 v92
end
end Go.Proofs.Ytggmjiddadjilam
