/-
  PROVED HERE: the program's BrdAll at a drawn table: all borders, in memory of its own; nothing that was in memory is turned. Also: 3 more texts of the same proof.
-/
import Derived.Test.YtggmjiddadjilamB21
import Derived.Test.YtggmjiddadjilamB16
set_option maxRecDepth 1000000
set_option maxHeartbeats 40000000
namespace Go.Proofs.Ytggmjiddadjilam
section
open Go.RowKit Go.BigFrame
theorem TaGs.kept {w w':World} {z zg:Nat} {ac ar:Option Addr} {cc cr:Nat} {t:T} {vg:Value} {gs:List GC} (h:TA w z ac ar cc cr t∧z03 w zg vg gs) (hb:Below w.heap.size w w'):TA w' z ac ar cc cr t∧z03 w' zg vg gs:=⟨TA.kept h.1 hb,z03.kept h.2 hb⟩
theorem z5j (ac ar:Option Addr) (cc cr:Nat) (t:T) (hD:z0o t) (w:World) {z:Nat} (hC:zY w z (.slice ac t.cols.length cc) t.cols) (hW:zD w z (.slice ar t.rows.length cr) t.rows) :
  Calls Try.prog 28 #[.agg #[.slice ac t.cols.length cc,.int .i64 t.head,.int .i64 t.foot,.slice ar t.rows.length cr,.int .i64 t.gap]] w fun e w'=>∃ v,e=.returned v∧z0V w' w.heap.size v (z0y t)∧Below w.heap.size w w':=by
 obtain ⟨i0,hi0,hz0,hz1,hz2⟩:=info_parts z3n;obtain ⟨R,C,hgr,hgc,hR8,hC88⟩:=z32 hD;have HLy:=Hd (fun W (h:TA W z ac ar cc cr t)=>z5i ac ar cc cr t hD W h.1 h.2);have KA:=Hd (fun ag cg zg (r c:Int) (hr:-1000≤r∧r≤1000) (hc:-1000≤c∧c≤1000) W (h:TA W z ac ar cc cr t∧z03 W zg (.slice ag (gOf t).cells.length cg) (gOf t).cells)=>z5f ac ar ag cc cr cg t hD r c hr hc W h.1.2 h.2);have KB:=Hd (fun ag cg zg (r c:Int) (hr:-1000≤r∧r≤1000) (hc:-1000≤c∧c≤1000) W (h:TA W z ac ar cc cr t∧z03 W zg (.slice ag (gOf t).cells.length cg) (gOf t).cells)=>z5g ac ar ag cc cr cg t hD r c hr hc W h.1.2 h.2)
 have HAll:Hid (z0y t=zT (zl t) C (R+1) ++ zT (zm t) (C+1) R):=by
  show _=_;rw [z0y,hgr,hgc,Int.toNat_natCast,Int.toNat_natCast]
 rw [hgr,hgc] at HLy KA KB;generalize (gOf t).cells=gs at HLy KA KB;generalize zl t=fa at KA HAll;generalize zm t=fb at KB HAll
 have HPl:Hid ((zT fa C (R+1)).length≤2000):=by
  show _≤_;rw [z1w];have:=Nat.mul_le_mul (show R+1≤9 by omega) (show C≤88 by omega);omega
 have HK0:=Hd (zb (Below.refl w.heap.size w) (.cells #[.slice ac t.cols.length cc,.int .i64 t.head,.int .i64 t.foot,.slice ar t.rows.length cr,.int .i64 t.gap] 26));have HX0:=Hd (zf w (.cells #[.slice ac t.cols.length cc,.int .i64 t.head,.int .i64 t.foot,.slice ar t.rows.length cr,.int .i64 t.gap] 26));have HT0:Hid (TA (w.alloc (.cells #[.slice ac t.cols.length cc,.int .i64 t.head,.int .i64 t.foot,.slice ar t.rows.length cr,.int .i64 t.gap] 26)) z ac ar cc cr t):=TA.kept ⟨hC,hW⟩ HK0.out;clear hC hW hD hgr hgc;go_enter Try.func28,Try.ntmps28;go_upto_region 1 with fail
 generalize w.alloc (.cells #[.slice ac t.cols.length cc,.int .i64 t.head,.int .i64 t.foot,.slice ar t.rows.length cr,.int .i64 t.gap] 26)=W0 at HK0 HX0 HT0 ⊢;obtain ⟨b0,b1,b2,b3,b4⟩:=z0z HX0.out;go_wp2_with fail
 refine (HLy.out _ HT0.out).mono ?_;rintro e W2 ⟨ag,cg,rfl,hG,hb2⟩;have HKL:=zb (Below.refl W2.heap.size W2) (.cells #[.slice ac t.cols.length cc,.int .i64 t.head,.int .i64 t.foot,.slice ar t.rows.length cr,.int .i64 t.gap,.int .i64 (R:Int),.int .i64 (C:Int),.slice ag gs.length cg] 100);have HWg:Hid (TA (W2.alloc (.cells #[.slice ac t.cols.length cc,.int .i64 t.head,.int .i64 t.foot,.slice ar t.rows.length cr,.int .i64 t.gap,.int .i64 (R:Int),.int .i64 (C:Int),.slice ag gs.length cg] 100)) z ac ar cc cr t∧z03 (W2.alloc (.cells #[.slice ac t.cols.length cc,.int .i64 t.head,.int .i64 t.foot,.slice ar t.rows.length cr,.int .i64 t.gap,.int .i64 (R:Int),.int .i64 (C:Int),.slice ag gs.length cg] 100)) W0.heap.size (.slice ag gs.length cg) gs):=⟨TA.kept (TA.kept HT0.out hb2) HKL,z03.kept hG HKL⟩;have HL:=Hd (zf W2 (.cells #[.slice ac t.cols.length cc,.int .i64 t.head,.int .i64 t.foot,.slice ar t.rows.length cr,.int .i64 t.gap,.int .i64 (R:Int),.int .i64 (C:Int),.slice ag gs.length cg] 100));have HK3:=Hd (zb (ze HK0.out hb2) (.cells #[.slice ac t.cols.length cc,.int .i64 t.head,.int .i64 t.foot,.slice ar t.rows.length cr,.int .i64 t.gap,.int .i64 (R:Int),.int .i64 (C:Int),.slice ag gs.length cg] 100));have hlb:W2.heap.size < (W2.alloc (.cells #[.slice ac t.cols.length cc,.int .i64 t.head,.int .i64 t.foot,.slice ar t.rows.length cr,.int .i64 t.gap,.int .i64 (R:Int),.int .i64 (C:Int),.slice ag gs.length cg] 100)).heap.size:=(by simp);have KA:=Hd (fun W (h:TA W z ac ar cc cr t∧z03 W W0.heap.size (.slice ag gs.length cg) gs) (r c:Int) (hr:-1000≤r∧r≤1000) (hc:-1000≤c∧c≤1000)=>KA.out ag cg W0.heap.size r c hr hc W h);have KB:=Hd (fun W (h:TA W z ac ar cc cr t∧z03 W W0.heap.size (.slice ag gs.length cg) gs) (r c:Int) (hr:-1000≤r∧r≤1000) (hc:-1000≤c∧c≤1000)=>KB.out ag cg W0.heap.size r c hr hc W h);clear HLy hb2 hG HKL b0 b1 b2 b3 b4 HT0 HX0 HK0;go_upto_region 2 with fail
 generalize W2.alloc (.cells #[.slice ac t.cols.length cc,.int .i64 t.head,.int .i64 t.foot,.slice ar t.rows.length cr,.int .i64 t.gap,.int .i64 (R:Int),.int .i64 (C:Int),.slice ag gs.length cg] 100)=W3 at HWg HL HK3 hlb ⊢;generalize W2.heap.size=lb at HL hlb ⊢;obtain ⟨⟨o0,o1,o2,o3,o4,o5,o6,o7⟩,_⟩:=z1i HL.out;have hwR:IntKind.i64.wrap ((R:Int)+1)=(R:Int)+1:=(by rw [IntKind.wrap_i64];omega);have hwC:IntKind.i64.wrap ((C:Int)+1)=(C:Int)+1:=(by rw [IntKind.wrap_i64];omega);have HO0:Hid (z0f W3 W3.heap.size (.slice none 0 0) (zT fa C 0)):=World.ownsRow_nil _ _ _ _;have hz3:=HK3.out.size;go_wp2_with fail
 clear o0 o1 o2 o3 o4 o5 o6 o7;go_loopw [4,15] (fun o i W=>∃ r:Nat,i=.int .i64 (r:Int)∧r≤R+1∧Hid (z0f W W3.heap.size o (zT fa C r))∧Hid (Below W3.heap.size W3 W)) (fun _ i _=>R+1 - (intOf i).toNat)
 case atStart=>exact ⟨0,rfl,Nat.zero_le _,HO0,Below.refl _ _⟩
 case round =>
  obtain ⟨r,rfl,hr,HO,HBr⟩:=hrel;by_cases hrR:r < R+1
  case neg =>
   have hrn:r=R+1:=(by omega)
   have HOp:Hid (z0f wr W3.heap.size u4 (zT fa C (R+1))):=by
    rw [hrn] at HO;exact HO
   have HBp:=HBr;generalize zT fa C (R+1)=P at HOp HAll HPl;have hPl:P.length≤2000:=HPl.out
   have HOp:Hid (z0f wr W3.heap.size u4 (P ++ zT fb (C+1) 0)):=by
    rw [show zT fb (C+1) 0=[] from rfl,List.append_nil];exact HOp
   have hrf:¬ (r:Int) < (R:Int)+1:=(by omega);have hX:=(HBr.out.block lb hlb).trans HL.out;obtain ⟨⟨o0,o1,o2,o3,o4,o5,o6,o7⟩,_⟩:=z1i hX;clear HO;go_wp2_with fail
   clear o0 o1 o2 o3 o4 o5 o6 o7 hX;go_loopw [4,36] (fun o i W=>∃ r:Nat,i=.int .i64 (r:Int)∧r≤R∧Hid (z0f W W3.heap.size o (P ++ zT fb (C+1) r))∧Hid (Below W3.heap.size W3 W)) (fun _ i _=>R - (intOf i).toNat)
   case atStart=>exact ⟨0,rfl,Nat.zero_le _,HOp,HBp⟩
   case round =>
    obtain ⟨r,rfl,hr,HO,HBr⟩:=hrel;by_cases hrR:r < R
    case neg =>
     have hrn:r=R:=(by omega);have hrf:¬ (r:Int) < (R:Int):=(by omega)
     have HF:Hid (z0V wr w.heap.size u4 (z0y t)):=by
      rw [hrn] at HO;show z0V _ _ _ _;rw [HAll.out];exact (z14 HO.out).base (by omega)
     have HK:=Hd (HK3.out.trans (HBr.out.mono (by omega)));go_wp2;go_ret;exact ⟨_,rfl,HF.out,HK.out⟩
    case pos =>
    have hX:=(HBr.out.block lb hlb).trans HL.out;obtain ⟨⟨o0,o1,o2,o3,o4,o5,o6,o7⟩,_⟩:=z1i hX;have hrR':(r:Int) < (R:Int):=(by omega);go_wp2_with fail
    go_loopw [4,43] (fun o i W=>∃ c:Nat,i=.int .i64 (c:Int)∧c≤C+1∧Hid (z0f W W3.heap.size o (P ++ upF fb (C+1) r c))∧Hid (Below W3.heap.size W3 W)) (fun _ i _=>C+1 - (intOf i).toNat)
    case atStart=>exact ⟨0,rfl,Nat.zero_le _,by rw [z2t];exact HO,HBr⟩
    case round =>
     obtain ⟨c,rfl,hc,HOc,HBc⟩:=hrel;by_cases hcC:c < C+1
     case neg =>
      have hcn:c=C+1:=(by omega);have hcf:¬ (c:Int) < (C:Int)+1:=(by omega)
      have HOd:Hid (z0f wr W3.heap.size u4 (P ++ zT fb (C+1) (r+1))):=by
       rw [hcn,z2u] at HOc;exact HOc
      clear o0 o1 o2 o3 o4 o5 o6 o7 hX;go_wp2;go_roundw
      case rel=>exact ⟨r+1,by go_num,by omega,HOd,HBc⟩
      case measure=>simp [intOf];omega
     case pos =>
      have hcC':(c:Int) < (C+1:Int):=(by omega);clear o0 o1 o2 o3 o4 o5 o6 o7 hX;have hX:=(HBc.out.block lb hlb).trans HL.out;obtain ⟨⟨o0,o1,o2,o3,o4,o5,o6,o7⟩,_⟩:=z1i hX
      have hlen:(P ++ upF fb (C+1) r c).length≤5000:=by
       rw [List.length_append,z2M];have:=Nat.mul_le_mul (show r≤9 by omega) (show C+1≤89 by omega);omega
      go_wp2_with fail
      refine (KB.out _ (TaGs.kept HWg.out HBc.out) (r:Int) (c:Int) (by omega) (by omega)).mono ?_;rintro e W5 ⟨rfl,hb5⟩;have hO5:=z0m HOc.out hb5;have hB5:=HBc.out.size;have hz5:=hb5.size;have HN:=Hd (z2v fb (C+1) r c);generalize fb (r:Int) (c:Int)=x at HN ⊢;generalize hU:P ++ upF fb (C+1) r c=U at hO5 hlen ⊢;have HU:=Hd hU;clear hU o0 o1 o2 o3 o4 o5 o6 o7 hX HOc;go_wp2_with (at_builtin;refine wpList_append_own _ rfl _ _ 59 rfl W3.heap.size 62 i0 _ 3 24 Try.underlying59 hi0 hz0 hz1 hz2 rfl (by decide) _ _ _ rfl (hO5.alloc _) ⟨W5.heap.size,0,none⟩ 1 1 [.int .i64 x.s,.int .i64 x.w,.int .i64 x.c] rfl rfl ?c1 ?c2 ?c3 ?c4 ?c5 ?_)
      case c1=>exact z02 (zf W5 _)
      case c2=>simp [Value.oneCell']
      case c3=>unfold maxLen;omega
      case c4=>omega
      case c5=>simp;omega
      intro v9 W9 hown9 hg9 _;have HO9:Hid (z0f W9 W3.heap.size v9 (U ++ [x])):=z27 hown9;have HB9:=Hd ((zb (ze HBc.out hb5) (.cells #[.int .i64 x.s,.int .i64 x.w,.int .i64 x.c] 62)).grown hg9 (by simp;omega) (fun b hb=>(World.ownsRow.lt hO5 b hb).1));obtain ⟨a9,c9,rfl,_⟩:=zu HO9.out;clear hown9 hg9 hO5 hb5
      have HO10:Hid (z0f W9 W3.heap.size (.slice a9 (U ++ [x]).length c9) (P ++ upF fb (C+1) r (c+1))):=by
       show z0f _ _ _ _;rw [HN.out,← List.append_assoc,HU.out];exact HO9.out
      go_wp2;go_roundw
      case rel=>exact ⟨c+1,by go_num,by omega,HO10,HB9⟩
      case measure=>simp [intOf];omega
  case pos =>
  have hX:=(HBr.out.block lb hlb).trans HL.out;obtain ⟨⟨o0,o1,o2,o3,o4,o5,o6,o7⟩,_⟩:=z1i hX;have hrR':(r:Int) < (R+1:Int):=(by omega);go_wp2_with fail
  go_loopw [4,21] (fun o i W=>∃ c:Nat,i=.int .i64 (c:Int)∧c≤C∧Hid (z0f W W3.heap.size o (upF fa C r c))∧Hid (Below W3.heap.size W3 W)) (fun _ i _=>C - (intOf i).toNat)
  case atStart=>exact ⟨0,rfl,Nat.zero_le _,by rw [z2t];exact HO,HBr⟩
  case round =>
   obtain ⟨c,rfl,hc,HOc,HBc⟩:=hrel;by_cases hcC:c < C
   case neg =>
    have hcn:c=C:=(by omega);have hcf:¬ (c:Int) < (C:Int):=(by omega)
    have HOd:Hid (z0f wr W3.heap.size u4 (zT fa C (r+1))):=by
     rw [hcn,z2u] at HOc;exact HOc
    clear o0 o1 o2 o3 o4 o5 o6 o7 hX;go_wp2;go_roundw
    case rel=>exact ⟨r+1,by go_num,by omega,HOd,HBc⟩
    case measure=>simp [intOf];omega
   case pos =>
    have hcC':(c:Int) < (C:Int):=(by omega);clear o0 o1 o2 o3 o4 o5 o6 o7 hX;have hX:=(HBc.out.block lb hlb).trans HL.out;obtain ⟨⟨o0,o1,o2,o3,o4,o5,o6,o7⟩,_⟩:=z1i hX
    have hlen:(upF fa C r c).length≤5000:=by
     rw [z2M];have:=Nat.mul_le_mul (show r≤9 by omega) (show C≤89 by omega);omega
    go_wp2_with fail
    refine (KA.out _ (TaGs.kept HWg.out HBc.out) (r:Int) (c:Int) (by omega) (by omega)).mono ?_;rintro e W5 ⟨rfl,hb5⟩;have hO5:=z0m HOc.out hb5;have hB5:=HBc.out.size;have hz5:=hb5.size;have HN:=Hd (z2v fa C r c);generalize fa (r:Int) (c:Int)=x at HN ⊢;generalize hU:upF fa C r c=U at hO5 hlen ⊢;have HU:=Hd hU;clear hU o0 o1 o2 o3 o4 o5 o6 o7 hX HOc;go_wp2_with (at_builtin;refine wpList_append_own _ rfl _ _ 59 rfl W3.heap.size 62 i0 _ 3 24 Try.underlying59 hi0 hz0 hz1 hz2 rfl (by decide) _ _ _ rfl (hO5.alloc _) ⟨W5.heap.size,0,none⟩ 1 1 [.int .i64 x.s,.int .i64 x.w,.int .i64 x.c] rfl rfl ?c1 ?c2 ?c3 ?c4 ?c5 ?_)
    case c1=>exact z02 (zf W5 _)
    case c2=>simp [Value.oneCell']
    case c3=>unfold maxLen;omega
    case c4=>omega
    case c5=>simp;omega
    intro v9 W9 hown9 hg9 _;have HO9:Hid (z0f W9 W3.heap.size v9 (U ++ [x])):=z27 hown9;have HB9:=Hd ((zb (ze HBc.out hb5) (.cells #[.int .i64 x.s,.int .i64 x.w,.int .i64 x.c] 62)).grown hg9 (by simp;omega) (fun b hb=>(World.ownsRow.lt hO5 b hb).1));obtain ⟨a9,c9,rfl,_⟩:=zu HO9.out;clear hown9 hg9 hO5 hb5
    have HO10:Hid (z0f W9 W3.heap.size (.slice a9 (U ++ [x]).length c9) (upF fa C r (c+1))):=by
     show z0f _ _ _ _;rw [HN.out,HU.out];exact HO9.out
    go_wp2;go_roundw
    case rel=>exact ⟨c+1,by go_num,by omega,HO10,HB9⟩
    case measure=>simp [intOf];omega
theorem z23 (ac ar:Option Addr) (cc cr:Nat) (t:T) (hD:z0o t) (w:World) {z:Nat} (hC:zY w z (.slice ac t.cols.length cc) t.cols) (hW:zD w z (.slice ar t.rows.length cr) t.rows) :
  Calls Try.prog 8 #[.agg #[.slice ac t.cols.length cc,.int .i64 t.head,.int .i64 t.foot,.slice ar t.rows.length cr,.int .i64 t.gap]] w fun e w'=>e=.returned (.int .i64 ((z0I (z0y t) (z0y t).length:Nat):Int))∧Below w.heap.size w w':=by
 have HK0:=Hd (zb (Below.refl w.heap.size w) (.cells #[.slice ac t.cols.length cc,.int .i64 t.head,.int .i64 t.foot,.slice ar t.rows.length cr,.int .i64 t.gap] 26));have HX0:=Hd (zf w (.cells #[.slice ac t.cols.length cc,.int .i64 t.head,.int .i64 t.foot,.slice ar t.rows.length cr,.int .i64 t.gap] 26));have HT0:Hid (TA (w.alloc (.cells #[.slice ac t.cols.length cc,.int .i64 t.head,.int .i64 t.foot,.slice ar t.rows.length cr,.int .i64 t.gap] 26)) z ac ar cc cr t):=TA.kept ⟨hC,hW⟩ HK0.out;have KF:=Hd (fun W (h:TA W z ac ar cc cr t)=>z5j ac ar cc cr t hD W h.1 h.2);have hlen:=z4n hD;clear hC hW hD;generalize z0y t=l at KF hlen ⊢;go_enter Try.func8,Try.ntmps8;go_upto_region 1 with fail
 generalize w.alloc (.cells #[.slice ac t.cols.length cc,.int .i64 t.head,.int .i64 t.foot,.slice ar t.rows.length cr,.int .i64 t.gap] 26)=W0 at HK0 HX0 HT0 ⊢;obtain ⟨b0,b1,b2,b3,b4⟩:=z0z HX0.out;go_wp2_with fail
 refine (KF.out _ HT0.out).mono ?_;rintro e W1 ⟨v,rfl,hF,hb1⟩;obtain ⟨av,cv,rfl,_⟩:=At.form hF;have HF:=Hd hF;have HK1:=Hd (ze HK0.out hb1);clear hF hb1 b0 b1 b2 b3 b4 HX0 HK0 HT0 KF;go_wp2_with fail
 go_loopw [3,9] (fun n i W=>∃ k:Nat,k≤l.length∧i=.int .i64 (k:Int)∧n=.int .i64 ((z0I l k:Nat):Int)∧Hid (Below W1.heap.size W1 W)) (fun _ i _=>l.length - (intOf i).toNat)
 case atStart=>exact ⟨0,Nat.zero_le _,rfl,by rw [z3Q];rfl,Below.refl _ _⟩
 case round =>
  obtain ⟨k,hk,rfl,rfl,HB⟩:=hrel;by_cases hlt:k < l.length
  case neg =>
   obtain rfl:k=l.length:=by omega
   have HKe:=Hd (HK1.out.trans (HB.out.mono HK1.out.size));go_wp2;go_ret;exact ⟨rfl,HKe.out⟩
  case pos =>
   obtain ⟨b,off,cap',e',hc1,hc2,hbl,x0,x1,x2⟩:=At.get (HF.out.kept HB.out) hlt;simp only [Value.slice.injEq,true_and] at e';obtain ⟨rfl,rfl⟩:=e';unfold maxLen at hc2;have HN:=Hd (z3R hlt);have hn:=z4T l k;generalize l.getD k dF=x at x0 x1 x2 HN;generalize z0I l k=n at HN hn ⊢;have hlt':(k:Int) < (l.length:Int):=(by omega);have hwn:IntKind.i64.wrap ((n:Int)+1)=((n+1:Nat):Int):=(by rw [IntKind.wrap_i64];omega);by_cases hs1:x.s=1
   case pos =>
    have hs:=hs1;have HY:Hid (z0I l (k+1)=n+1):=(by show _=_;rw [HN.out,if_pos (by simp [shB,hs])]);have HB4:=Hd (zb HB.out (.cells #[.int .i64 x.s,.int .i64 x.w,.int .i64 x.c] 62));have hx9:=zf wr (.cells #[.int .i64 x.s,.int .i64 x.w,.int .i64 x.c] 62);rw [hs] at x0 HB4 hx9;go_upto_region 5 with fail
    generalize wr.alloc (.cells #[.int .i64 1,.int .i64 x.w,.int .i64 x.c] 62)=W5 at HB4 hx9 ⊢;obtain ⟨⟨y0,y1,y2⟩,_⟩:=zy hx9;clear x0 x1 x2 HN;go_wp2;go_roundw
    case rel=>exact ⟨k+1,by omega,by go_num,by rw [HY.out];rfl,HB4⟩
    case measure=>simp [intOf];omega
   case neg =>
   by_cases hs2:x.s=2
   case pos =>
    have hs:=hs2;have HY:Hid (z0I l (k+1)=n+1):=(by show _=_;rw [HN.out,if_pos (by simp [shB,hs])]);have HB4:=Hd (zb HB.out (.cells #[.int .i64 x.s,.int .i64 x.w,.int .i64 x.c] 62));have hx9:=zf wr (.cells #[.int .i64 x.s,.int .i64 x.w,.int .i64 x.c] 62);rw [hs] at x0 HB4 hx9;go_upto_region 5 with fail
    generalize wr.alloc (.cells #[.int .i64 2,.int .i64 x.w,.int .i64 x.c] 62)=W5 at HB4 hx9 ⊢;obtain ⟨⟨y0,y1,y2⟩,_⟩:=zy hx9;clear x0 x1 x2 HN;go_wp2;go_roundw
    case rel=>exact ⟨k+1,by omega,by go_num,by rw [HY.out];rfl,HB4⟩
    case measure=>simp [intOf];omega
   case neg =>
   by_cases hs3:x.s=3
   case pos =>
    have hs:=hs3;have HY:Hid (z0I l (k+1)=n+1):=(by show _=_;rw [HN.out,if_pos (by simp [shB,hs])]);have HB4:=Hd (zb HB.out (.cells #[.int .i64 x.s,.int .i64 x.w,.int .i64 x.c] 62));have hx9:=zf wr (.cells #[.int .i64 x.s,.int .i64 x.w,.int .i64 x.c] 62);rw [hs] at x0 HB4 hx9;go_upto_region 5 with fail
    generalize wr.alloc (.cells #[.int .i64 3,.int .i64 x.w,.int .i64 x.c] 62)=W5 at HB4 hx9 ⊢;obtain ⟨⟨y0,y1,y2⟩,_⟩:=zy hx9;clear x0 x1 x2 HN;go_wp2;go_roundw
    case rel=>exact ⟨k+1,by omega,by go_num,by rw [HY.out];rfl,HB4⟩
    case measure=>simp [intOf];omega
   case neg =>
   have HY:Hid (z0I l (k+1)=n):=by
    show _=_;rw [HN.out,if_neg (by simp only [shB,Bool.and_eq_true,decide_eq_true_eq];omega)];rfl
   have e1:(x.s == 1)=false:=beq_eq_false_iff_ne.2 hs1;have e2:(x.s == 2)=false:=beq_eq_false_iff_ne.2 hs2;have e3:(x.s == 3)=false:=beq_eq_false_iff_ne.2 hs3;have HB4:=Hd (zb HB.out (.cells #[.int .i64 x.s,.int .i64 x.w,.int .i64 x.c] 62));have hx9:=zf wr (.cells #[.int .i64 x.s,.int .i64 x.w,.int .i64 x.c] 62);go_upto_region 5 with fail
   generalize wr.alloc (.cells #[.int .i64 x.s,.int .i64 x.w,.int .i64 x.c] 62)=W5 at HB4 hx9 ⊢;obtain ⟨⟨y0,y1,y2⟩,_⟩:=zy hx9;clear x0 x1 x2 HN;go_wp2;go_roundw
   case rel=>exact ⟨k+1,by omega,by go_num,by rw [HY.out],HB4⟩
   case measure=>simp [intOf];omega
theorem z3s (ac ar ag:Option Addr) (cc cr cg:Nat) (t:T) (hD:z0o t) (k:Nat) (hk:k < (gOf t).cells.length) (w:World) {z zg:Nat} (hr:zD w z (.slice ar t.rows.length cr) t.rows) (hG:z03 w zg (.slice ag (gOf t).cells.length cg) (gOf t).cells) :
  Calls Try.prog 89 #[.agg #[.slice ac t.cols.length cc,.int .i64 t.head,.int .i64 t.foot,.slice ar t.rows.length cr,.int .i64 t.gap],.agg #[.int .i64 (gOf t).rows,.int .i64 (gOf t).cols,.slice ag (gOf t).cells.length cg],.int .i64 (k:Int)] w fun e w'=>e=.returned (.agg #[.string (zq t (k:Int)).s,.int .i64 (zq t (k:Int)).c,.int .i64 (zq t (k:Int)).r,.int .i64 (zq t (k:Int)).a1,.int .i64 (zq t (k:Int)).b1,.int .i64 (zq t (k:Int)).a2,.int .i64 (zq t (k:Int)).b2,.int .i64 (zq t (k:Int)).a3,.int .i64 (zq t (k:Int)).b3,.int .i64 (zq t (k:Int)).a4,.int .i64 (zq t (k:Int)).b4])∧Below w.heap.size w w':=by
 have hmx:Try.prog.follows .mixedOrders=true:=(by kernel_rfl);obtain ⟨h40,C,hgc,hC88,hcel⟩:=z4k hD;obtain ⟨rn,jn,cn,mn,e1,e2,_,_,h1,h2,_,_,_⟩:=(hcel k hk).ex;have HTx:Hid (zq t (k:Int)=(t.rows.getD rn dR).cells.getD jn dC):=(by rw [Hid,zq,if_neg (by omega),Int.toNat_natCast,z0w,e1,e2,Int.toNat_natCast,Int.toNat_natCast]);clear hgc;obtain ⟨W,hW0⟩:∃ W,((w.alloc (.cells #[.slice ac t.cols.length cc,.int .i64 t.head,.int .i64 t.foot,.slice ar t.rows.length cr,.int .i64 t.gap] 26)).alloc (.cells #[.int .i64 (gOf t).rows,.int .i64 (gOf t).cols,.slice ag (gOf t).cells.length cg] 98)).alloc (.cells #[.string ⟨#[]⟩,.int .i64 0,.int .i64 0,.int .i64 0,.int .i64 0,.int .i64 0,.int .i64 0,.int .i64 0,.int .i64 0,.int .i64 0,.int .i64 0] 35)=W:=⟨_,rfl⟩;have K3:Below w.heap.size w W:=(by rw [← hW0];exact zb (zb (zb (Below.refl _ _) _) _) _);have X0:W.heap[w.heap.size]?=some (.cells #[.slice ac t.cols.length cc,.int .i64 t.head,.int .i64 t.foot,.slice ar t.rows.length cr,.int .i64 t.gap] 26):=(by rw [← hW0];exact z0i (z0i (z0q _ _) _) _);have X1:W.heap[w.heap.size+1]?=some (.cells #[.int .i64 (gOf t).rows,.int .i64 (gOf t).cols,.slice ag (gOf t).cells.length cg] 98):=(by rw [← hW0];exact z0i (z1l _ _ _) _)
 have X3:W.heap[w.heap.size+1+1]?=some (.cells #[.string ⟨#[]⟩,.int .i64 0,.int .i64 0,.int .i64 0,.int .i64 0,.int .i64 0,.int .i64 0,.int .i64 0,.int .i64 0,.int .i64 0,.int .i64 0] 35):=by
  have h:=z0q ((w.alloc (.cells #[.slice ac t.cols.length cc,.int .i64 t.head,.int .i64 t.foot,.slice ar t.rows.length cr,.int .i64 t.gap] 26)).alloc (.cells #[.int .i64 (gOf t).rows,.int .i64 (gOf t).cols,.slice ag (gOf t).cells.length cg] 98)) (.cells #[.string ⟨#[]⟩,.int .i64 0,.int .i64 0,.int .i64 0,.int .i64 0,.int .i64 0,.int .i64 0,.int .i64 0,.int .i64 0,.int .i64 0,.int .i64 0] 35);rw [show ((w.alloc (.cells #[.slice ac t.cols.length cc,.int .i64 t.head,.int .i64 t.foot,.slice ar t.rows.length cr,.int .i64 t.gap] 26)).alloc (.cells #[.int .i64 (gOf t).rows,.int .i64 (gOf t).cols,.slice ag (gOf t).cells.length cg] 98)).heap.size=w.heap.size+1+1 by simp,hW0] at h;exact h
 obtain ⟨gb,goff,gcap,ge,gc1,gc2,gbl,gx,_⟩:=At.get (hG.kept K3) hk;simp only [Value.slice.injEq,true_and] at ge;obtain ⟨rfl,rfl⟩:=ge;obtain ⟨x0,x1,x2,x3,x4⟩:=gx;rw [e1] at x0;rw [e2] at x4;obtain ⟨rb,roff,rcap,re,rc1,rc2,rbl,u,hu0,_,hu⟩:=At.get (hr.kept K3) h1;simp only [Value.slice.injEq,true_and] at re;obtain ⟨rfl,rfl⟩:=re;obtain ⟨qb,qoff,qcap,qe,qc1,qc2,qbl,hv,hsl⟩:=At.get hu h2;subst qe;obtain ⟨v0,v1,v2,v3,v4,v5,v6,v7,v8,v9,v10⟩:=hv;have l1:w.heap.size < W.heap.size:=(bL X0);have l2:w.heap.size+1 < W.heap.size:=(bL X1);have hne:=z1X W;have m0:=zj (a:=⟨w.heap.size,3,none⟩) l1 (zc (p:=3) X0);have m1:=zj (a:=⟨w.heap.size+1,2,none⟩) l2 (zc (p:=2) X1);have m2:=zj gbl x0;have m4:=zj gbl x4;have m3:=zj rbl hu0;have n0:=zj qbl v0;have n1:=zj qbl v1;have n2:=zj qbl v2;have n3:=zj qbl v3;have n4:=zj qbl v4;have n5:=zj qbl v5;have n6:=zj qbl v6;have n7:=zj qbl v7;have n8:=zj qbl v8;have n9:=zj qbl v9;have n10:=zj qbl v10;have HK:=Hd K3;have HX3:=Hd X3;unfold maxLen at rc2 qc2 gc2;generalize (t.rows.getD rn dR).cells.getD jn dC=y at *;generalize (t.rows.getD rn dR).cells.length=rl at h2 m3 qc1;clear hu hu0 hr hG K3 X0 X1 X3 v0 v1 v2 v3 v4 v5 v6 v7 v8 v9 v10 hsl x0 x1 x2 x3 x4 e1 e2 hcel;go_enter Try.func89,Try.ntmps89;go_upto_region 1 with fail
 clear hW0;refine z2k 19 hmx (by rfl) (by rfl) (by kernel_rfl) (by kernel_rfl) ?_;simp only [List.take_succ_cons,List.take_zero];repeat (go_big_quiet_step (fail))
 refine wpQuiet_nil ?_;intro W5 hw';obtain ⟨⟨Wx,hW5⟩,hw''⟩:=hw';subst hw'';have l3:w.heap.size+1+1 < W.heap.size:=(bL HX3.out);have X5:=(hW5.block _ l3).trans HX3.out;obtain ⟨⟨c0,c1,c2,c3,c4,c5,c6,c7,c8,c9,c10⟩,f0,f1,f2,f3,f4,f5,f6,f7,f8,f9,f10⟩:=zK X5;have HK5:=Hd (ze HK.out hW5);clear m0 m1 m2 m3 m4 n0 n1 n2 n3 n4 n5 n6 n7 n8 n9 n10 hne hW5 X5;rw [if_pos (by rfl)];go_simp;go_wp2;exact bodyPost_ret (v:=.agg #[.string y.s,.int .i64 y.c,.int .i64 y.r,.int .i64 y.a1,.int .i64 y.b1,.int .i64 y.a2,.int .i64 y.b2,.int .i64 y.a3,.int .i64 y.b3,.int .i64 y.a4,.int .i64 y.b4]) (by simp [results,Try.results89,go_sem,c0,c1,c2,c3,c4,c5,c6,c7,c8,c9,c10]) rfl ⟨by rw [HTx.out],HK5.out.trans ((z0x W5 (w.heap.size+1+1) (.string y.s) (.int .i64 y.c) (.int .i64 y.r) (.int .i64 y.a1) (.int .i64 y.b1) (.int .i64 y.a2) (.int .i64 y.b2) (.int .i64 y.a3) (.int .i64 y.b3) (.int .i64 y.a4) (.int .i64 y.b4)).below HK5.out.size (by omega))⟩
end
section
open Go.RowKit
theorem z3t (x0 x1 x2 x3 x4 x5 x6 x7 x8 x9 x10:Value) (W:World):(Instr.field 35 (.agg #[x0,x1,x2,x3,x4,x5,x6,x7,x8,x9,x10]) 5).run Try.prog W=.ok (.agg #[x7,x8]) W:=by kernel_rfl
theorem z3u (x0 x1 x2 x3 x4 x5 x6 x7 x8 x9 x10:Value) (W:World):(Instr.field 35 (.agg #[x0,x1,x2,x3,x4,x5,x6,x7,x8,x9,x10]) 3).run Try.prog W=.ok (.agg #[x3,x4]) W:=by kernel_rfl
theorem z4t (ac ar ag:Option Addr) (cc cr cg:Nat) (t:T) (hD:z0o t) (r c:Int) (hr:-1000≤r∧r≤1000) (hc:-1000≤c∧c≤1000) (w:World) {z zg:Nat} (hW:zD w z (.slice ar t.rows.length cr) t.rows) (hG:z03 w zg (.slice ag (gOf t).cells.length cg) (gOf t).cells) :
  Calls Try.prog 64 #[.agg #[.slice ac t.cols.length cc,.int .i64 t.head,.int .i64 t.foot,.slice ar t.rows.length cr,.int .i64 t.gap],.agg #[.int .i64 (gOf t).rows,.int .i64 (gOf t).cols,.slice ag (gOf t).cells.length cg],.int .i64 r,.int .i64 c] w fun e w'=>e=.returned (.agg #[.int .i64 (zl t r c).s,.int .i64 (zl t r c).w,.int .i64 (zl t r c).c])∧Below w.heap.size w w':=by
 obtain ⟨i0,hi0,hz0,hz1,hz2⟩:=info_parts z3n;have hfa:=z3t;have hfb:=z3u;obtain ⟨W0,hW0⟩:∃ W,((w.alloc (.cells #[.slice ac t.cols.length cc,.int .i64 t.head,.int .i64 t.foot,.slice ar t.rows.length cr,.int .i64 t.gap] 26)).alloc (.cells #[.int .i64 (gOf t).rows,.int .i64 (gOf t).cols,.slice ag (gOf t).cells.length cg] 98)).alloc (.cells #[.int .i64 0,.int .i64 0,.int .i64 0] 62)=W:=⟨_,rfl⟩;have K3:Below w.heap.size w W0:=(by rw [← hW0];exact zb (zb (zb (Below.refl _ _) _) _) _);have X0:W0.heap[w.heap.size]?=some (.cells #[.slice ac t.cols.length cc,.int .i64 t.head,.int .i64 t.foot,.slice ar t.rows.length cr,.int .i64 t.gap] 26):=(by rw [← hW0];exact z0i (z0i (z0q _ _) _) _);have X1:W0.heap[w.heap.size+1]?=some (.cells #[.int .i64 (gOf t).rows,.int .i64 (gOf t).cols,.slice ag (gOf t).cells.length cg] 98):=(by rw [← hW0];exact z0i (z1l _ _ _) _)
 have X2:W0.heap[w.heap.size+1+1]?=some (.cells #[.int .i64 0,.int .i64 0,.int .i64 0] 62):=by
  have h:=z0q ((w.alloc (.cells #[.slice ac t.cols.length cc,.int .i64 t.head,.int .i64 t.foot,.slice ar t.rows.length cr,.int .i64 t.gap] 26)).alloc (.cells #[.int .i64 (gOf t).rows,.int .i64 (gOf t).cols,.slice ag (gOf t).cells.length cg] 98)) (.cells #[.int .i64 0,.int .i64 0,.int .i64 0] 62);rw [show ((w.alloc (.cells #[.slice ac t.cols.length cc,.int .i64 t.head,.int .i64 t.foot,.slice ar t.rows.length cr,.int .i64 t.gap] 26)).alloc (.cells #[.int .i64 (gOf t).rows,.int .i64 (gOf t).cols,.slice ag (gOf t).cells.length cg] 98)).heap.size=w.heap.size+1+1 by simp,hW0] at h;exact h
 have HX:=Hd (And.intro X0 (And.intro X1 X2));have HK0:=Hd K3;have hl0:w.heap.size < W0.heap.size:=(bL X0);have hl1:w.heap.size+1 < W0.heap.size:=(bL X1);have hl2:w.heap.size+1+1 < W0.heap.size:=(bL X2);have HM:=Hd (And.intro (hW.kept K3) (hG.kept K3));have KA:=Hd (fun W (h:Below W0.heap.size W0 W)=>z28 (gOf t).rows (gOf t).cols ag cg (gOf t).cells (r - 1) c (by unfold I64;omega) (by unfold I64;omega) W (HM.out.2.kept h));have KB:=Hd (fun W (h:Below W0.heap.size W0 W)=>z28 (gOf t).rows (gOf t).cols ag cg (gOf t).cells r c (by unfold I64;omega) (by unfold I64;omega) W (HM.out.2.kept h));have KC:=Hd (fun k (hk:k < (gOf t).cells.length) W (h:Below W0.heap.size W0 W)=>z3s ac ar ag cc cr cg t hD k hk W (HM.out.1.kept h) (HM.out.2.kept h));have HF:Hid (zl t r c=z0a ⟨(zq t (atN t (r - 1) c)).a3,(zq t (atN t (r - 1) c)).b3,atN t (r - 1) c⟩ ⟨(zq t (atN t r c)).a1,(zq t (atN t r c)).b1,atN t r c⟩):=rfl;have ha:=z3p t (r - 1) c;have hb0:=z3p t r c;rw [show z0O (z09 (r - 1) c) (gOf t).cells=atN t (r - 1) c from rfl] at KA;rw [show z0O (z09 r c) (gOf t).cells=atN t r c from rfl] at KB;generalize atN t (r - 1) c=a at KA HF ha;generalize atN t r c=b at KB HF hb0;obtain ⟨⟨q0,q1,q2⟩,_⟩:=zy X1;clear hW hG K3 X0 X1 X2 hD;go_enter Try.func64,Try.ntmps64;go_upto_region 1 with fail
 clear hW0;go_wp2_with fail
 refine (KA.out _ (Below.refl _ _)).mono ?_;rintro e w1 ⟨rfl,hb1⟩;have HB1:=Hd hb1;clear hb1 q0 q1 q2 KA;obtain ⟨⟨q0,q1,q2⟩,_⟩:=zy ((HB1.out.block _ hl1).trans HX.out.2.1);go_wp2_with fail
 refine (KB.out _ HB1.out).mono ?_;rintro e w2 ⟨rfl,hb2⟩;have HB:=Hd (zb (ze HB1.out hb2) (.cells #[] 62));have HO:Hid ((w2.alloc (.cells #[] 62)).ownsRow W0.heap.size 62 3 (.slice (some ⟨w2.heap.size,0,none⟩) 0 0) ([]:List Fr).length (([]:List Fr).flatMap z0j)):=World.ownsRow_made (base:=W0.heap.size) (e:=62) (size:=3) w2 #[] 0 (ze HB1.out hb2).size (Nat.zero_le _) rfl;clear hb2 q0 q1 q2 KB HB1;go_upto_region 4 with fail
 generalize w2.alloc (.cells #[] 62)=W3 at HB HO ⊢;generalize w2.heap.size=lb at HO ⊢
 rcases ha with rfl | ⟨k1,rfl,hk1⟩
 ·rcases hb0 with rfl | ⟨k2,rfl,hk2⟩
  ·have HFr:=Hd (z14 HO.out);go_wp2_with fail
   refine (z0t _ [] (by simp) _ HFr.out).mono ?_;rintro e w9 ⟨rfl,hb⟩;have HE:Hid (zJ []=zl t r c):=(by rw [Hid,HF.out];rw [z1Q,z0a,if_pos rfl]);rw [HE.out];replace HB:=Hd (ze HB.out hb);have X9:=(HB.out.block _ hl2).trans HX.out.2.2;obtain ⟨⟨d0,d1,d2⟩,f0,f1,f2⟩:=zy X9;have HBl:=Hd ((ze HK0.out HB.out).trans ((z0g w9 (w.heap.size+1+1) (.int .i64 (zl t r c).s) (.int .i64 (zl t r c).w) (.int .i64 (zl t r c).c)).below (ze HK0.out HB.out).size (by omega)));clear hb X9 HO HFr;go_wp2;exact bodyPost_ret (v:=.agg #[.int .i64 (zl t r c).s,.int .i64 (zl t r c).w,.int .i64 (zl t r c).c]) (by simp [results,Try.results64,go_sem,d0,d1,d2]) rfl ⟨rfl,HBl.out⟩
  ·have hne:((-1:Int) != (k2:Int))=true:=bne_iff_ne.2 (by omega);have Hk2:Hid (True):=trivial;generalize hyy:zq t (k2:Int)=y at HF;have HY:=Hd hyy;clear hyy;obtain ⟨⟨b0,b1,b2,b3,b4⟩,_⟩:=z0c ((HB.out.block _ hl0).trans HX.out.1);obtain ⟨⟨g0,g1,g2⟩,_⟩:=zy ((HB.out.block _ hl1).trans HX.out.2.1);go_wp2_with fail
   refine (KC.out k2 hk2 _ HB.out).mono ?_;rintro e wc2 ⟨rfl,hb⟩;rw [HY.out];replace HB:=Hd (ze HB.out hb);replace HO:=Hd (z0m HO.out hb);have hO4:=HO.out;have hszB:W0.heap.size≤wc2.heap.size:=HB.out.size;clear hb b0 b1 b2 b3 b4 g0 g1 g2;go_wp2_with (at_builtin;refine wpList_append_own _ rfl _ _ 59 rfl W0.heap.size 62 i0 _ 3 24 Try.underlying59 hi0 hz0 hz1 hz2 rfl (by decide) _ _ _ rfl (hO4.alloc _) ⟨wc2.heap.size,0,none⟩ 1 1 (z0j ⟨y.a1,y.b1,(k2:Int)⟩) rfl rfl (z02 (zf _ _)) (by simp [z0j,Value.oneCell']) (by unfold maxLen;simp) (by simp) (by simp;omega) ?_)
   intro v2 wd2 hown' hgrow' _;replace HB:=Hd ((zb HB.out _).grown hgrow' (by simp;omega) (fun q hq=>(hO4.lt q hq).1));replace HO:Hid (wd2.ownsRow W0.heap.size 62 3 v2 ([] ++ [⟨y.a1,y.b1,(k2:Int)⟩]:List Fr).length (([] ++ [⟨y.a1,y.b1,(k2:Int)⟩]:List Fr).flatMap z0j)):=Hd (by simpa [List.flatMap_append] using hown');obtain ⟨aa2,ca2,rfl,_⟩:=zu hown';clear hown' hgrow' hO4 hszB;have HFr:=Hd (z14 HO.out);go_wp2_with fail
   refine (z0t _ ([] ++ [⟨y.a1,y.b1,(k2:Int)⟩]) (by simp) _ HFr.out).mono ?_;rintro e w9 ⟨rfl,hb⟩;have HE:Hid (zJ ([] ++ [⟨y.a1,y.b1,(k2:Int)⟩])=zl t r c):=(by rw [Hid,HF.out];rw [show ([] ++ [(⟨y.a1,y.b1,(k2:Int)⟩:Fr)])=[⟨y.a1,y.b1,(k2:Int)⟩] from rfl,z1I,z0a,if_neg (show ¬ (-1:Int)=(k2:Int) by omega),if_pos (show (-1:Int) < 0 by omega)]);rw [HE.out];replace HB:=Hd (ze HB.out hb);have X9:=(HB.out.block _ hl2).trans HX.out.2.2;obtain ⟨⟨d0,d1,d2⟩,f0,f1,f2⟩:=zy X9;have HBl:=Hd ((ze HK0.out HB.out).trans ((z0g w9 (w.heap.size+1+1) (.int .i64 (zl t r c).s) (.int .i64 (zl t r c).w) (.int .i64 (zl t r c).c)).below (ze HK0.out HB.out).size (by omega)));clear hb X9 HO HFr;go_wp2;exact bodyPost_ret (v:=.agg #[.int .i64 (zl t r c).s,.int .i64 (zl t r c).w,.int .i64 (zl t r c).c]) (by simp [results,Try.results64,go_sem,d0,d1,d2]) rfl ⟨rfl,HBl.out⟩
 ·generalize hxx:zq t (k1:Int)=x at HF;have HXc:=Hd hxx;clear hxx
  rcases hb0 with rfl | ⟨k2,rfl,hk2⟩
  ·have hne:((k1:Int) != (-1:Int))=true:=bne_iff_ne.2 (by omega);obtain ⟨⟨b0,b1,b2,b3,b4⟩,_⟩:=z0c ((HB.out.block _ hl0).trans HX.out.1);obtain ⟨⟨g0,g1,g2⟩,_⟩:=zy ((HB.out.block _ hl1).trans HX.out.2.1);go_wp2_with fail
   refine (KC.out k1 hk1 _ HB.out).mono ?_;rintro e wc1 ⟨rfl,hb⟩;rw [HXc.out];replace HB:=Hd (ze HB.out hb);replace HO:=Hd (z0m HO.out hb);have hO4:=HO.out;have hszB:W0.heap.size≤wc1.heap.size:=HB.out.size;clear hb b0 b1 b2 b3 b4 g0 g1 g2;go_wp2_with (at_builtin;refine wpList_append_own _ rfl _ _ 59 rfl W0.heap.size 62 i0 _ 3 24 Try.underlying59 hi0 hz0 hz1 hz2 rfl (by decide) _ _ _ rfl (hO4.alloc _) ⟨wc1.heap.size,0,none⟩ 1 1 (z0j ⟨x.a3,x.b3,(k1:Int)⟩) rfl rfl (z02 (zf _ _)) (by simp [z0j,Value.oneCell']) (by unfold maxLen;simp) (by simp) (by simp;omega) ?_)
   intro v1 wd1 hown' hgrow' _;replace HB:=Hd ((zb HB.out _).grown hgrow' (by simp;omega) (fun q hq=>(hO4.lt q hq).1));replace HO:Hid (wd1.ownsRow W0.heap.size 62 3 v1 ([] ++ [⟨x.a3,x.b3,(k1:Int)⟩]:List Fr).length (([] ++ [⟨x.a3,x.b3,(k1:Int)⟩]:List Fr).flatMap z0j)):=Hd (by simpa [List.flatMap_append] using hown');obtain ⟨aa1,ca1,rfl,_⟩:=zu hown';clear hown' hgrow' hO4 hszB;have HFr:=Hd (z14 HO.out);go_wp2_with fail
   refine (z0t _ ([] ++ [⟨x.a3,x.b3,(k1:Int)⟩]) (by simp) _ HFr.out).mono ?_;rintro e w9 ⟨rfl,hb⟩;have HE:Hid (zJ ([] ++ [⟨x.a3,x.b3,(k1:Int)⟩])=zl t r c):=(by rw [Hid,HF.out];rw [show ([] ++ [(⟨x.a3,x.b3,(k1:Int)⟩:Fr)])=[⟨x.a3,x.b3,(k1:Int)⟩] from rfl,z1I,z0a,if_neg (show ¬ (k1:Int)=-1 by omega),if_neg (show ¬ (k1:Int) < 0 by omega),if_pos (show (-1:Int) < 0 by omega)]);rw [HE.out];replace HB:=Hd (ze HB.out hb);have X9:=(HB.out.block _ hl2).trans HX.out.2.2;obtain ⟨⟨d0,d1,d2⟩,f0,f1,f2⟩:=zy X9;have HBl:=Hd ((ze HK0.out HB.out).trans ((z0g w9 (w.heap.size+1+1) (.int .i64 (zl t r c).s) (.int .i64 (zl t r c).w) (.int .i64 (zl t r c).c)).below (ze HK0.out HB.out).size (by omega)));clear hb X9 HO HFr;go_wp2;exact bodyPost_ret (v:=.agg #[.int .i64 (zl t r c).s,.int .i64 (zl t r c).w,.int .i64 (zl t r c).c]) (by simp [results,Try.results64,go_sem,d0,d1,d2]) rfl ⟨rfl,HBl.out⟩
  ·by_cases hkk:k1=k2
   ·subst hkk;have hne:((k1:Int) != (k1:Int))=false:=(by simp);have HFr:=Hd (z14 HO.out);go_wp2_with fail
    refine (z0t _ [] (by simp) _ HFr.out).mono ?_;rintro e w9 ⟨rfl,hb⟩;have HE:Hid (zJ []=zl t r c):=(by rw [Hid,HF.out];rw [z1Q,z0a,if_pos rfl]);rw [HE.out];replace HB:=Hd (ze HB.out hb);have X9:=(HB.out.block _ hl2).trans HX.out.2.2;obtain ⟨⟨d0,d1,d2⟩,f0,f1,f2⟩:=zy X9;have HBl:=Hd ((ze HK0.out HB.out).trans ((z0g w9 (w.heap.size+1+1) (.int .i64 (zl t r c).s) (.int .i64 (zl t r c).w) (.int .i64 (zl t r c).c)).below (ze HK0.out HB.out).size (by omega)));clear hb X9 HO HFr;go_wp2;exact bodyPost_ret (v:=.agg #[.int .i64 (zl t r c).s,.int .i64 (zl t r c).w,.int .i64 (zl t r c).c]) (by simp [results,Try.results64,go_sem,d0,d1,d2]) rfl ⟨rfl,HBl.out⟩
   ·have hne:((k1:Int) != (k2:Int))=true:=bne_iff_ne.2 (by omega);generalize hyy:zq t (k2:Int)=y at HF;have HY:=Hd hyy;clear hyy;have Hkk:=Hd hkk;clear hkk;obtain ⟨⟨b0,b1,b2,b3,b4⟩,_⟩:=z0c ((HB.out.block _ hl0).trans HX.out.1);obtain ⟨⟨g0,g1,g2⟩,_⟩:=zy ((HB.out.block _ hl1).trans HX.out.2.1);go_wp2_with fail
    refine (KC.out k1 hk1 _ HB.out).mono ?_;rintro e wc1 ⟨rfl,hb⟩;rw [HXc.out];replace HB:=Hd (ze HB.out hb);replace HO:=Hd (z0m HO.out hb);have hO4:=HO.out;have hszB:W0.heap.size≤wc1.heap.size:=HB.out.size;clear hb b0 b1 b2 b3 b4 g0 g1 g2;go_wp2_with (at_builtin;refine wpList_append_own _ rfl _ _ 59 rfl W0.heap.size 62 i0 _ 3 24 Try.underlying59 hi0 hz0 hz1 hz2 rfl (by decide) _ _ _ rfl (hO4.alloc _) ⟨wc1.heap.size,0,none⟩ 1 1 (z0j ⟨x.a3,x.b3,(k1:Int)⟩) rfl rfl (z02 (zf _ _)) (by simp [z0j,Value.oneCell']) (by unfold maxLen;simp) (by simp) (by simp;omega) ?_)
    intro v1 wd1 hown' hgrow' _;replace HB:=Hd ((zb HB.out _).grown hgrow' (by simp;omega) (fun q hq=>(hO4.lt q hq).1));replace HO:Hid (wd1.ownsRow W0.heap.size 62 3 v1 ([] ++ [⟨x.a3,x.b3,(k1:Int)⟩]:List Fr).length (([] ++ [⟨x.a3,x.b3,(k1:Int)⟩]:List Fr).flatMap z0j)):=Hd (by simpa [List.flatMap_append] using hown');obtain ⟨aa1,ca1,rfl,_⟩:=zu hown';clear hown' hgrow' hO4 hszB;obtain ⟨⟨b0,b1,b2,b3,b4⟩,_⟩:=z0c ((HB.out.block _ hl0).trans HX.out.1);obtain ⟨⟨g0,g1,g2⟩,_⟩:=zy ((HB.out.block _ hl1).trans HX.out.2.1);go_wp2_with fail
    refine (KC.out k2 hk2 _ HB.out).mono ?_;rintro e wc2 ⟨rfl,hb⟩;rw [HY.out];replace HB:=Hd (ze HB.out hb);replace HO:=Hd (z0m HO.out hb);have hO4:=HO.out;have hszB:W0.heap.size≤wc2.heap.size:=HB.out.size;clear hb b0 b1 b2 b3 b4 g0 g1 g2;go_wp2_with (at_builtin;refine wpList_append_own _ rfl _ _ 59 rfl W0.heap.size 62 i0 _ 3 24 Try.underlying59 hi0 hz0 hz1 hz2 rfl (by decide) _ _ _ rfl (hO4.alloc _) ⟨wc2.heap.size,0,none⟩ 1 1 (z0j ⟨y.a1,y.b1,(k2:Int)⟩) rfl rfl (z02 (zf _ _)) (by simp [z0j,Value.oneCell']) (by unfold maxLen;simp) (by simp) (by simp;omega) ?_)
    intro v2 wd2 hown' hgrow' _;replace HB:=Hd ((zb HB.out _).grown hgrow' (by simp;omega) (fun q hq=>(hO4.lt q hq).1));replace HO:Hid (wd2.ownsRow W0.heap.size 62 3 v2 (([] ++ [⟨x.a3,x.b3,(k1:Int)⟩]) ++ [⟨y.a1,y.b1,(k2:Int)⟩]:List Fr).length ((([] ++ [⟨x.a3,x.b3,(k1:Int)⟩]) ++ [⟨y.a1,y.b1,(k2:Int)⟩]:List Fr).flatMap z0j)):=Hd (by simpa [List.flatMap_append] using hown');obtain ⟨aa2,ca2,rfl,_⟩:=zu hown';clear hown' hgrow' hO4 hszB;have HFr:=Hd (z14 HO.out);go_wp2_with fail
    refine (z0t _ (([] ++ [⟨x.a3,x.b3,(k1:Int)⟩]) ++ [⟨y.a1,y.b1,(k2:Int)⟩]) (by simp) _ HFr.out).mono ?_;rintro e w9 ⟨rfl,hb⟩;have HE:Hid (zJ (([] ++ [⟨x.a3,x.b3,(k1:Int)⟩]) ++ [⟨y.a1,y.b1,(k2:Int)⟩])=zl t r c):=(by rw [Hid,HF.out];rw [show (([] ++ [(⟨x.a3,x.b3,(k1:Int)⟩:Fr)]) ++ [(⟨y.a1,y.b1,(k2:Int)⟩:Fr)])=[⟨x.a3,x.b3,(k1:Int)⟩,⟨y.a1,y.b1,(k2:Int)⟩] from rfl,z31,z0a,if_neg (show ¬ (k1:Int)=(k2:Int) by have:=Hkk.out;omega),if_neg (show ¬ (k1:Int) < 0 by omega),if_neg (show ¬ (k2:Int) < 0 by omega)]);rw [HE.out];replace HB:=Hd (ze HB.out hb);have X9:=(HB.out.block _ hl2).trans HX.out.2.2;obtain ⟨⟨d0,d1,d2⟩,f0,f1,f2⟩:=zy X9;have HBl:=Hd ((ze HK0.out HB.out).trans ((z0g w9 (w.heap.size+1+1) (.int .i64 (zl t r c).s) (.int .i64 (zl t r c).w) (.int .i64 (zl t r c).c)).below (ze HK0.out HB.out).size (by omega)));clear hb X9 HO HFr;go_wp2;exact bodyPost_ret (v:=.agg #[.int .i64 (zl t r c).s,.int .i64 (zl t r c).w,.int .i64 (zl t r c).c]) (by simp [results,Try.results64,go_sem,d0,d1,d2]) rfl ⟨rfl,HBl.out⟩
end
end Go.Proofs.Ytggmjiddadjilam
