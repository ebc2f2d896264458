/-
  PROVED HERE: l20Paged, DrawPagBody and DrawPagAll draw a table, a width and heights; nothing that was in memory is turned but the reader's own place. Also: 2 more texts of the same proof.
-/
import Derived.Test.YtggmjiddadjilaiGreatC26
set_option maxRecDepth 1000000
set_option maxHeartbeats 40000000
namespace Go.Proofs.YtggmjiddadjilaiGreat
open Go.RowKit
theorem z1J.keptP {w w':World} {a:Option Addr} {len cap:Nat} (h:z1J w a len cap) (hb:Below w.heap.size w w'):z1J w' a len cap:=by
 obtain ⟨h1,h2,hc⟩:=h;refine ⟨h1,h2,fun i hi=>?_⟩;obtain ⟨b,off,z,e,l,c,z0,z1⟩:=hc i hi;exact ⟨b,off,z,e,Nat.lt_of_lt_of_le l hb.size,(hb.cell (p:=⟨b,off+i,none⟩) l).trans c,z0,z1⟩
theorem z08.st5p {w:World} {z g:Nat} (hg:g < z) (y0 y1 y2 y3 y4:Value):z08 z w (st5 w g y0 y1 y2 y3 y4):=⟨(z25 w g y0 y1 y2 y3 y4).size,fun k h1 h2=>(z25 w g y0 y1 y2 y3 y4).block k h2 (by omega)⟩
def zag (r B:Nat) (w:World) (e:Ending) (w':World):Prop :=
 ∃ (ac ar:Option Addr) (cc cr:Nat) (t:T) (x:Int) (vh:Value) (high:List Int),e=.returned (.tuple #[.agg #[.slice ac t.cols.length cc,.int .i64 t.head,.int .i64 t.foot,.slice ar t.rows.length cr,.int .i64 t.gap],.int .i64 x,vh])∧zY t∧(-1≤x∧x≤301)∧z5n high∧zX w' w.heap.size (.slice ac t.cols.length cc) t.cols∧zT w' w.heap.size (.slice ar t.rows.length cr) t.rows∧z3s w' w.heap.size vh high∧Rd w' r (B+4000)∧Bk r w w'
theorem zbL (r B:Nat) (w:World) (h:Rd w r B) (hB:B≤100) :
  Calls Tryz.prog 34 #[.pointer (some ⟨r,0,none⟩)] w fun e w'=>zag r B w e w':=by
 unfold zag;have hlt:=h.lt;have HR0:=Hd (h.alloc (.cells #[.slice none 0 0,.int .i64 0,.int .i64 0,.slice none 0 0,.int .i64 0] 33));have X0:=z2I w (.cells #[.slice none 0 0,.int .i64 0,.int .i64 0,.slice none 0 0,.int .i64 0] 33);have hs0:(w.alloc (.cells #[.slice none 0 0,.int .i64 0,.int .i64 0,.slice none 0 0,.int .i64 0] 33)).heap.size=w.heap.size+1:=(by simp);have K0:=(Bk.refl r w).alloc (.cells #[.slice none 0 0,.int .i64 0,.int .i64 0,.slice none 0 0,.int .i64 0] 33);clear h;go_enter Tryz.func34,Tryz.ntmps34;go_wp2_with fail
 refine (z8S r B 30 (by omega) _ HR0.out (by omega)).mono ?_;rintro e w1 ⟨ac,ar,cc,cr,t,rfl,hD,hC1,hW1,hR1,hb1⟩;rw [hs0] at hC1 hW1;have X1:=(hb1.block w.heap.size (by omega) (by omega)).trans X0;have hz1:=hb1.size;have hlt1:=hR1.lt;have hT2:=z2I w1 (.cells #[.slice ac t.cols.length cc,.int .i64 t.head,.int .i64 t.foot,.slice ar t.rows.length cr,.int .i64 t.gap] 33);have hZ2:=zN X1 (.cells #[.slice ac t.cols.length cc,.int .i64 t.head,.int .i64 t.foot,.slice ar t.rows.length cr,.int .i64 t.gap] 33);have hC2:=hC1.kept (ze (Below.refl w1.heap.size w1) (.cells #[.slice ac t.cols.length cc,.int .i64 t.head,.int .i64 t.foot,.slice ar t.rows.length cr,.int .i64 t.gap] 33));have hW2:=hW1.kept (ze (Below.refl w1.heap.size w1) (.cells #[.slice ac t.cols.length cc,.int .i64 t.head,.int .i64 t.foot,.slice ar t.rows.length cr,.int .i64 t.gap] 33));have hR2:=hR1.alloc (.cells #[.slice ac t.cols.length cc,.int .i64 t.head,.int .i64 t.foot,.slice ar t.rows.length cr,.int .i64 t.gap] 33);have hK2:=(K0.trans hb1).alloc (.cells #[.slice ac t.cols.length cc,.int .i64 t.head,.int .i64 t.foot,.slice ar t.rows.length cr,.int .i64 t.gap] 33);have htr:w1.heap.size ≠ r:=(by omega);have htn:w.heap.size < w1.heap.size:=(by omega);go_upto_region 2 with fail
 generalize w1.alloc (.cells #[.slice ac t.cols.length cc,.int .i64 t.head,.int .i64 t.foot,.slice ar t.rows.length cr,.int .i64 t.gap] 33)=W4 at hT2 hZ2 hC2 hW2 hR2 hK2 ⊢;obtain ⟨tb,htb0⟩:∃ tb,tb=w1.heap.size:=⟨_,rfl⟩;rw [← htb0] at hT2 htr htn ⊢;clear hC1 hR1 hb1 X1 hz1 hlt1 X0 K0 HR0 hs0 hW1 htb0;have HT:=Hd hT2;have HZ:=Hd hZ2;have HC:=Hd hC2;have HW:=Hd hW2;have HR:=Hd hR2;have HK:=Hd hK2;have HD:=Hd hD;clear hT2 hZ2 hC2 hW2 hR2 hK2 hD;obtain ⟨⟨d0,d1,d2,d3,d4⟩,_⟩:=z1s HT.out;have hR4:=HR.out.drew;have hK4:=(Bk.refl r W4).drew;have hlW:w.heap.size < W4.heap.size:=(bL HZ.out)
 go_region_with (first
  | (go_at_call 69;refine (zaq r (B+3000) 30 _ hR4 (by omega)).mono ?_;rintro e w6 ⟨x,rfl,hx,hR6,hb6⟩;have hb6':=hK4.trans hb6;have hTz:=(hb6'.block tb (bL HT.out) htr).trans HT.out;obtain ⟨⟨e0,e1,e2,e3,e4⟩,_⟩:=z1s hTz;have HX:=Hd hx;clear hTz hb6 hx)
  | (go_at_call 70;refine (zch r (B+3000+3) 20 _ hR6 (by omega)).mono ?_;rintro e w7 ⟨vh,high,rfl,hs,hh,hR7,hb7⟩;have hb7':=hb6'.trans hb7;have hTz:=(hb7'.block tb (bL HT.out) htr).trans HT.out;have hZz:=(hb7'.block w.heap.size hlW (by omega)).trans HZ.out;obtain ⟨⟨f0,f1,f2,f3,f4⟩,_⟩:=z1s hTz;obtain ⟨⟨x0,x1,x2,x3,x4⟩,y0,y1,y2,y3,y4⟩:=z1s hZz;have HS:=Hd hs;have hw67:=hb6'.size;have HH:=Hd (hh.base (z':=w.heap.size+1) (by omega));have HR7:=Hd hR7;have HB7:=Hd hb7';clear hTz hZz hb7 hs hh hb7' hR7))
 all_goals
  have hw7:=HB7.out.size;have hsn:z08 (w.heap.size+1) W4 w7:=⟨HB7.out.size,fun q h1 h2=>HB7.out.block q h2 (by omega)⟩;have hkb:=z25 w7 w.heap.size (.slice ac t.cols.length cc) (.int .i64 t.head) (.int .i64 t.foot) (.slice ar t.rows.length cr) (.int .i64 t.gap);have HC6:=Hd ((HC.out.since hsn).since (z08.st5p (z:=w.heap.size+1) (g:=w.heap.size) (by omega) (.slice ac t.cols.length cc) (.int .i64 t.head) (.int .i64 t.foot) (.slice ar t.rows.length cr) (.int .i64 t.gap)));have HW6:=Hd ((HW.out.since hsn).since (z08.st5p (z:=w.heap.size+1) (g:=w.heap.size) (by omega) (.slice ac t.cols.length cc) (.int .i64 t.head) (.int .i64 t.foot) (.slice ar t.rows.length cr) (.int .i64 t.gap)));have HH6:=Hd (HH.out.since (z08.st5p (z:=w.heap.size+1) (g:=w.heap.size) (by omega) (.slice ac t.cols.length cc) (.int .i64 t.head) (.int .i64 t.foot) (.slice ar t.rows.length cr) (.int .i64 t.gap)));have HR6:Hid (Rd (st5 w7 w.heap.size (.slice ac t.cols.length cc) (.int .i64 t.head) (.int .i64 t.foot) (.slice ar t.rows.length cr) (.int .i64 t.gap)) r (B+4000)):=Hd ((HR7.out.keep (fun q hq=>hkb.block q (by have:=HR7.out.lt;omega) (by omega))).mono (by omega));have HK6:=Hd ((HK.out.trans HB7.out).via hkb (Nat.le_refl _));clear hsn hkb;go_wp2;exact bodyPost_ret (v:=.tuple #[.agg #[.slice ac t.cols.length cc,.int .i64 t.head,.int .i64 t.foot,.slice ar t.rows.length cr,.int .i64 t.gap],.int .i64 x,vh]) (by simp [results,Tryz.results34,go_sem,x0,x1,x2,x3,x4]) rfl ⟨ac,ar,cc,cr,t,x,vh,high,rfl,HD.out,HX.out,HS.out,HC6.out.base (by omega),HW6.out.base (by omega),HH6.out.base (by omega),HR6.out,HK6.out⟩
theorem z8T (a:Option Addr) (len cap:Nat) (w:World) (h:z1J w a len cap) :
  Calls Tryz.prog 10 #[.slice a len cap] w fun e w'=>∃ (ac ar:Option Addr) (cc cr:Nat) (t:T) (x:Int) (vh:Value) (high:List Int),e=.returned (.tuple #[.agg #[.slice ac t.cols.length cc,.int .i64 t.head,.int .i64 t.foot,.slice ar t.rows.length cr,.int .i64 t.gap],.int .i64 x,vh])∧zY t∧(-1≤x∧x≤301)∧z5n high∧zX w' w.heap.size (.slice ac t.cols.length cc) t.cols∧zT w' w.heap.size (.slice ar t.rows.length cr) t.rows∧z3s w' w.heap.size vh high∧Below w.heap.size w w':=by
 have K0:=ze (Below.refl w.heap.size w) (.cells #[.slice none 0 0,.int .i64 0,.int .i64 0,.slice none 0 0,.int .i64 0] 33);have HC:=Hd (h.keptP K0);have X0:=zl w (.cells #[.slice none 0 0,.int .i64 0,.int .i64 0,.slice none 0 0,.int .i64 0] 33);clear h;have hsz:(w.alloc (.cells #[.slice none 0 0,.int .i64 0,.int .i64 0,.slice none 0 0,.int .i64 0] 33)).heap.size=w.heap.size+1:=(by simp);go_enter Tryz.func10,Tryz.ntmps10;go_wp2_with fail
 refine (zaL _ _ _ _ HC.out).mono ?_;rintro e w1 ⟨rfl,hR1,hb1⟩;rw [hsz] at hR1 hb1;have X1:=(hb1.block w.heap.size (by omega)).trans X0;have K1:=zh K0 (by rw [hsz];exact hb1);have hz1:=hR1.lt;go_wp2_with fail
 refine (zbL (w.heap.size+1) 0 _ hR1 (by omega)).mono ?_;rintro e w2 ⟨ac,ar,cc,cr,t,x,vh,high,rfl,hD,hx,hsm,hC2,hW2,hH2,_,hb2⟩;have X2:=(hb2.block w.heap.size (by omega) (by omega)).trans X1;have K2:=K1.trans (hb2.below (by omega) (by omega));have hz2:=hb2.size;have hw1:w.heap.size+2≤w1.heap.size:=(by omega);have HC3:=Hd ((hC2.base hw1).since (z08.st5p (z:=w.heap.size+2) (g:=w.heap.size) (by omega) (.slice ac t.cols.length cc) (.int .i64 t.head) (.int .i64 t.foot) (.slice ar t.rows.length cr) (.int .i64 t.gap)));have HW3:=Hd ((hW2.base hw1).since (z08.st5p (z:=w.heap.size+2) (g:=w.heap.size) (by omega) (.slice ac t.cols.length cc) (.int .i64 t.head) (.int .i64 t.foot) (.slice ar t.rows.length cr) (.int .i64 t.gap)));have HH3:=Hd ((hH2.base hw1).since (z08.st5p (z:=w.heap.size+2) (g:=w.heap.size) (by omega) (.slice ac t.cols.length cc) (.int .i64 t.head) (.int .i64 t.foot) (.slice ar t.rows.length cr) (.int .i64 t.gap)));have K3:=Hd (K2.trans ((z25 w2 w.heap.size (.slice ac t.cols.length cc) (.int .i64 t.head) (.int .i64 t.foot) (.slice ar t.rows.length cr) (.int .i64 t.gap)).below (by omega) (Nat.le_refl _)));have HD:=Hd hD;have HSm:=Hd hsm;obtain ⟨⟨x0,x1,x2,x3,x4⟩,y0,y1,y2,y3,y4⟩:=z1s X2;clear hC2 hW2 hH2 hb2 X2 X1 X0 K0 K1 K2 hD HC hR1 hb1 hsm;go_wp2;exact bodyPost_ret (v:=.tuple #[.agg #[.slice ac t.cols.length cc,.int .i64 t.head,.int .i64 t.foot,.slice ar t.rows.length cr,.int .i64 t.gap],.int .i64 x,vh]) (by simp [results,Tryz.results10,go_sem,x0,x1,x2,x3,x4]) rfl ⟨ac,ar,cc,cr,t,x,vh,high,rfl,HD.out,hx,HSm.out,HC3.out.base (by omega),HW3.out.base (by omega),HH3.out.base (by omega),K3.out⟩
theorem z5o (v:Value) (pss:List (List PgS)) (row:Int) (w:World) {z:Nat} (h:z0H w z v pss) :
  Calls Tryz.prog 8 #[v,.int .i64 row] w fun e w'=>e=.returned (.int .i64 (z15 pss row))∧Below w.heap.size w w':=by
 obtain ⟨a,cap,rfl,hlen⟩:=At.form h;have H:=Hd h;clear h;go_enter Tryz.func8,Tryz.ntmps8;go_wp2_with fail
 go_loopw [11] (fun i W=>∃ k:Nat,k≤pss.length∧i=.int .i64 k∧Hid (∀ i,i < k→z1a row (pss.getD i [])=false)∧Hid (Below w.heap.size w W)) (fun i _=>pss.length - (intOf i).toNat)
 case atStart=>exact ⟨0,Nat.zero_le _,rfl,fun i hi=>absurd hi (Nat.not_lt_zero _),Below.refl _ _⟩
 case round =>
  obtain ⟨k,hk,rfl,HN,HB⟩:=hrel;by_cases hlt:k < pss.length
  ·obtain ⟨b,off,cap',u,e',hc1,hc2,hbl,hu,hx⟩:=z0H.get (H.out.kept HB.out) hlt;simp only [Value.slice.injEq,true_and] at e';obtain ⟨rfl,rfl⟩:=e';have HF:=Hd (fun hp=>z7U hlt HN.out hp);have HG:Hid (z1a row (pss.getD k [])=false→∀ i,i < k+1→z1a row (pss.getD i [])=false):=fun hp=>z5p HN.out hp;generalize pss.getD k []=ps at hx HF HG;obtain ⟨ua,ucap,rfl,hul⟩:=At.form hx;have HX:=Hd hx;unfold maxLen at hc2;clear hx;go_wp2_with fail
   go_loopw [18] (fun i W=>∃ j:Nat,j≤ps.length∧i=.int .i64 j∧Hid (∀ i,i < j→¬ (ps.getD i dP).r=row)∧Hid (Below wr.heap.size wr W)) (fun i _=>ps.length - (intOf i).toNat)
   case atStart=>exact ⟨0,Nat.zero_le _,rfl,fun i hi=>absurd hi (Nat.not_lt_zero _),Below.refl _ _⟩
   case round =>
    rename World=>w0
    rename World=>w1
    obtain ⟨j,hj,rfl,HN2,HB2⟩:=hrel;by_cases hlj:j < ps.length
    ·obtain ⟨b2,z5J,cap2,e2,hd1,hd2,hbl2,hy⟩:=At.get (HX.out.kept HB2.out) hlj;simp only [Value.slice.injEq,true_and] at e2;obtain ⟨rfl,rfl⟩:=e2;unfold maxLen at hd2;by_cases hr:(ps.getD j dP).r=row
     ·have HS:=Hd (HF.out (zay hlj hr));have hr':((ps.getD j dP).r == row)=true:=beq_iff_eq.2 hr;have HB3:=Hd (zh HB.out HB2.out);clear hr;generalize ps.getD j dP=x at hy hr';obtain ⟨x0,x1,x2⟩:=hy;go_wp2;go_ret;exact ⟨by rw [HS.out];rfl,ze HB3.out _⟩
     ·have HS:=Hd (z5p HN2.out hr);have hr':((ps.getD j dP).r == row)=false:=beq_eq_false_iff_ne.2 hr;clear hr;generalize ps.getD j dP=x at hy hr';obtain ⟨x0,x1,x2⟩:=hy;go_wp2;go_roundw
      case rel=>exact ⟨j+1,by omega,by go_num,HS,ze HB2.out _⟩
      case measure=>simp [intOf];omega
    ·obtain rfl:j=ps.length:=by omega
     have HS:=Hd (HG.out (zcl HN2.out));have HB3:=Hd (zh HB.out HB2.out);go_wp2;go_roundw
     case rel=>exact ⟨k+1,by omega,by go_num,HS,HB3⟩
     case measure=>simp [intOf];omega
  ·obtain rfl:k=pss.length:=by omega
   have HS:=Hd (z7g HN.out);go_wp2;go_ret;exact ⟨by rw [HS.out];rfl,HB.out⟩
theorem zbM (v:Value) (pss:List (List PgS)) (row:Int) (w:World) {z:Nat} (h:z0H w z v pss) :
  Calls Tryz.prog 9 #[v,.int .i64 row] w fun e w'=>e=.returned (.int .i64 (z15 pss row))∧Below w.heap.size w w':=by
 obtain ⟨a,cap,rfl,hlen⟩:=At.form h;have H:=Hd h;clear h;go_enter Tryz.func9,Tryz.ntmps9;go_wp2_with fail
 go_loopw [5] (fun i W=>∃ k:Nat,k≤pss.length∧i=.int .i64 k∧Hid (∀ i,i < k→z1a row (pss.getD i [])=false)∧Hid (Below w.heap.size w W)) (fun i _=>pss.length - (intOf i).toNat)
 case atStart=>exact ⟨0,Nat.zero_le _,rfl,fun i hi=>absurd hi (Nat.not_lt_zero _),Below.refl _ _⟩
 case round =>
  obtain ⟨k,hk,rfl,HN,HB⟩:=hrel;by_cases hlt:k < pss.length
  ·obtain ⟨b,off,cap',u,e',hc1,hc2,hbl,hu,hx⟩:=z0H.get (H.out.kept HB.out) hlt;simp only [Value.slice.injEq,true_and] at e';obtain ⟨rfl,rfl⟩:=e';have HF:=Hd (fun hp=>z7U hlt HN.out hp);have HG:Hid (z1a row (pss.getD k [])=false→∀ i,i < k+1→z1a row (pss.getD i [])=false):=fun hp=>z5p HN.out hp;generalize pss.getD k []=ps at hx HF HG;obtain ⟨ua,ucap,rfl,hul⟩:=At.form hx;have HX:=Hd hx;unfold maxLen at hc2;clear hx;go_wp2_with fail
   go_loopw [6] (fun i W=>∃ j:Nat,j≤ps.length∧i=.int .i64 j∧Hid (∀ i,i < j→¬ (ps.getD i dP).r=row)∧Hid (Below wr.heap.size wr W)) (fun i _=>ps.length - (intOf i).toNat)
   case atStart=>exact ⟨0,Nat.zero_le _,rfl,fun i hi=>absurd hi (Nat.not_lt_zero _),Below.refl _ _⟩
   case round =>
    rename World=>w0
    rename World=>w1
    obtain ⟨j,hj,rfl,HN2,HB2⟩:=hrel;have hlb:b < w1.heap.size:=Nat.lt_of_lt_of_le hbl HB2.out.size;by_cases hlj:j < ps.length
    ·obtain ⟨b2,z5J,cap2,e2,hd1,hd2,hbl2,hy⟩:=At.get (HX.out.kept HB2.out) hlj;simp only [Value.slice.injEq,true_and] at e2;obtain ⟨rfl,rfl⟩:=e2;unfold maxLen at hd2;have hu2:=(HB2.out.cell (p:=⟨b,off+k,none⟩) hbl).trans hu;by_cases hr:(ps.getD j dP).r=row
     ·have HS:=Hd (HF.out (zay hlj hr));have hr':((ps.getD j dP).r == row)=true:=beq_iff_eq.2 hr;have HB3:=Hd (zh HB.out HB2.out);clear hr;generalize ps.getD j dP=x at hy hr';obtain ⟨x0,x1,x2⟩:=hy;go_wp2;go_ret;exact ⟨by rw [HS.out];rfl,HB3.out⟩
     ·have HS:=Hd (z5p HN2.out hr);have hr':((ps.getD j dP).r == row)=false:=beq_eq_false_iff_ne.2 hr;clear hr;generalize ps.getD j dP=x at hy hr';obtain ⟨x0,x1,x2⟩:=hy;go_wp2;go_roundw
      case rel=>exact ⟨j+1,by omega,by go_num,HS,HB2.out⟩
      case measure=>simp [intOf];omega
    ·obtain rfl:j=ps.length:=by omega
     have hu2:=(HB2.out.cell (p:=⟨b,off+k,none⟩) hbl).trans hu;have HS:=Hd (HG.out (zcl HN2.out));have HB3:=Hd (zh HB.out HB2.out);go_wp2;go_roundw
     case rel=>exact ⟨k+1,by omega,by go_num,HS,HB3⟩
     case measure=>simp [intOf];omega
  ·obtain rfl:k=pss.length:=by omega
   have HS:=Hd (z7g HN.out);go_wp2;go_ret;exact ⟨by rw [HS.out];rfl,HB.out⟩
end Go.Proofs.YtggmjiddadjilaiGreat
