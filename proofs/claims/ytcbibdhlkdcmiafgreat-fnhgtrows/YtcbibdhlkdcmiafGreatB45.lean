/-
  PROVED HERE: the model's HgtRows at a drawn table and any width; nothing that was in memory is turned. Also: no line is lost in a row, and no row that no cell needs is high: facts on lists, of a drawn table. Also: the laws' own pwTexts says true of one and the same list of texts in two places, and words are a list of texts in memory. Also: the laws' own pwAll says true of one and the same list of lists of texts in two places; nothing that was in memory is turned. Also: what the model's GrdOf answers at a drawn table: its cells at their places, or nothing where it is not ok; nothing that was in memory is turned.
-/
import Derived.Test.YtcbibdhlkdcmiafGreatB44
import Derived.Test.YtcbibdhlkdcmiafGreatB39
import Derived.Test.YtcbibdhlkdcmiafGreatB17
import Derived.Test.YtcbibdhlkdcmiafGreatB35
import Derived.Test.YtcbibdhlkdcmiafGreatB40
import Derived.Test.YtcbibdhlkdcmiafGreatB25
import Derived.Test.YtcbibdhlkdcmiafGreatB33
import Derived.Test.YtcbibdhlkdcmiafGreatB26
import Derived.Test.YtcbibdhlkdcmiafGreatB13
import Derived.Test.YtcbibdhlkdcmiafGreatB22
import Derived.Test.YtcbibdhlkdcmiafGreatB21
import Derived.Deep.DeepCutAuto
import Derived.Deep.RegionWith
namespace Go.Proofs.YtcbibdhlkdcmiafGreat
open Go.RowKit

structure HgRJ (ac ar ag:Option Addr) (cc cr cg:Nat) (t:T) (width:Int) (l:List Int) (ls:List (List ByteArray)) (rs:List Int) (zz:Nat) (W3:World) (L:Nat→Bool) (W:World) (v17 v18 v19 v20 v21 v22 v23 v24 v25 v4:Value):Prop where
 f0:L 0=true→v17=.agg #[.int .i64 (gOf t).rows,.int .i64 (gOf t).cols,.slice ag (gOf t).cells.length cg]
 f1:L 1=true→v18=.agg #[.slice ac t.cols.length cc,.int .i64 t.head,.int .i64 t.foot,.slice ar t.rows.length cr,.int .i64 t.gap]
 f2:L 2=true→v19=.agg #[.int .i64 (gOf t).rows,.int .i64 (gOf t).cols,.slice ag (gOf t).cells.length cg]
 f3:L 3=true→v20=.agg #[.slice ac t.cols.length cc,.int .i64 t.head,.int .i64 t.foot,.slice ar t.rows.length cr,.int .i64 t.gap]
 f4:L 4=true→v21=.agg #[.int .i64 (gOf t).rows,.int .i64 (gOf t).cols,.slice ag (gOf t).cells.length cg]
 f5:L 5=true→v22=.int .i64 width
 f6:L 6=true→IntsAt W v23 l
 f7:L 7=true→LlsAt W zz v24 ls
 f8:L 8=true→RowI W zz W.heap.size v25 rs
 f9:L 9=true→RowI W zz W.heap.size v4 rs
 b:Below W3.heap.size W3 W


set_option maxRecDepth 100000 in
set_option maxHeartbeats 2000000 in
theorem specHgtRows (ac ar:Option Addr) (cc cr:Nat) (t:T) (hD:Drawn t) (width:Int) (w:World) {z:Nat} (hc:ColsAt w z (.slice ac t.cols.length cc) t.cols) (hr:RowsAt w z (.slice ar t.rows.length cr) t.rows) :
  Calls Tryz.prog 24 #[.agg #[.slice ac t.cols.length cc,.int .i64 t.head,.int .i64 t.foot,.slice ar t.rows.length cr,.int .i64 t.gap],.int .i64 width] w fun e w'=>∃ v,e=.returned v∧RowI w' w.heap.size w'.heap.size v (rowsT t width)∧Below w.heap.size w w':=by
 have hmx:Tryz.prog.follows .mixedOrders=true:=by kernel_rfl
 obtain ⟨W0,hW0⟩:∃ W0,w.alloc (.cells #[.slice ac t.cols.length cc,.int .i64 t.head,.int .i64 t.foot,.slice ar t.rows.length cr,.int .i64 t.gap] 26)=W0:=⟨_,rfl⟩
 have K0:Below w.heap.size w W0:=by rw [← hW0];exact k_alloc (Below.refl _ _) _
 have X0:W0.heap[w.heap.size]?=some (.cells #[.slice ac t.cols.length cc,.int .i64 t.head,.int .i64 t.foot,.slice ar t.rows.length cr,.int .i64 t.gap] 26):=by rw [← hW0];exact newestB _ _
 have HP:Hid (Below w.heap.size w W0∧TA W0 z ac ar cc cr t∧W0.heap[w.heap.size]?=some (.cells #[.slice ac t.cols.length cc,.int .i64 t.head,.int .i64 t.foot,.slice ar t.rows.length cr,.int .i64 t.gap] 26)):=⟨K0,⟨hc.kept K0,hr.kept K0⟩,X0⟩
 have KO:=Hid.intro (specTblOk ac ar cc cr t W0 HP.out.2.1.1 HP.out.2.1.2)
 obtain ⟨b0,b1,b2,b3,b4⟩:=fiveO X0
 clear hc hr K0 X0
 cases htk:tblB t with
 | false =>
  rw [htk] at KO
  have HE:Hid (rowsT t width=[]):=by rw [Hid,rowsT,htk];rfl
  clear htk
  go_enter Tryz.func24,Tryz.ntmps24
  go_upto_region 1 with fail
  clear hW0
  go_wp2_with fail
  refine KO.out.mono ?_
  rintro e w1 ⟨rfl,hb1⟩
  have HK1:=Hid.intro (k_trans HP.out.1 hb1)
  clear hb1 KO b0 b1 b2 b3 b4 HP
  go_wp2
  go_ret
  exact ⟨_,rfl,by rw [HE.out];exact row_lit0 _ _ HK1.out.size,k_alloc HK1.out _⟩
 | true =>
  rw [htk] at KO
  have HIn:=Hid.intro (l1In_any width 0 300)
  cases hin:inB width 0 300 with
  | false =>
   have HE:Hid (rowsT t width=[]):=by rw [Hid,rowsT,htk,hin];rfl
   rw [hin] at HIn
   clear htk hin hD
   go_enter Tryz.func24,Tryz.ntmps24
   go_upto_region 1 with fail
   clear hW0
   go_wp2_with fail
   refine KO.out.mono ?_
   rintro e w1 ⟨rfl,hb1⟩
   have HK1:=Hid.intro (k_trans HP.out.1 hb1)
   clear hb1 KO b0 b1 b2 b3 b4 HP
   go_wp2_with fail
   refine (HIn.out _).mono ?_
   rintro e w2 ⟨rfl,rfl⟩
   go_wp2
   go_ret
   exact ⟨_,rfl,by rw [HE.out];exact row_lit0 _ _ HK1.out.size,k_alloc HK1.out _⟩
  | true =>
   have hw:0≤width∧width≤300:=by simpa [inB] using hin
   have K3:=Hid.intro (fun W h=>l3Of_g ac ar cc cr t hD htk W (z:=z) h)
   have KL0:=Hid.intro (fun ag cg W zg h1 h2 h3=>specl6Cols ac ar cc cr t hD ag cg width hw htk W (z:=z) (zg:=zg) h1 h2 h3)
   obtain ⟨_,hlw,_⟩:=acr_wid hD htk hw
   obtain ⟨_,hC88,_⟩:=acr_least hD htk
   have hl1:(widL t width).length≤1048576:=by rw [hlw];omega
   have K70:=Hid.intro (fun ag cg al cl n W zg (h1:TA W z ac ar cc cr t) h2 h3=>specl7Lines ac ar ag al cc cr cg cl n t hD (widL t width) hl1 W (z:=z) (zg:=zg) h1 h2 h3)
   have HE:Hid (rowsT t width=rowsL (rcs (gOf t).cells (linesL t (widL t width) (gOf t).cells)) t.rows.length):=by rw [Hid,rowsT,htk,hin];rfl
   rw [hin] at HIn
   have h40:=gLen hD
   have hR8:=tRows hD htk
   have HGr:=gRows htk
   have HGc:=Hid.intro (gCell hD htk)
   have HLl:=Hid.intro (linesL_len t (widL t width) (gOf t).cells)
   have HLa:=Hid.intro (lnAll t (widL t width) (gOf t).cells)
   have KR0:=Hid.intro (fun ag cg al cl W {zg zl:Nat} (hg:GsAt W zg (.slice ag (gOf t).cells.length cg) (gOf t).cells) (hl:LlsAt W zl (.slice al (gOf t).cells.length cl) (linesL t (widL t width) (gOf t).cells))=>specl7Rows ag cg (gOf t) t.rows.length (by omega) HGr _ al cl HLl.out (by omega) HGc.out HLa.out W hg hl)
   clear htk hin hD hlw hC88 hl1 HGr
   generalize linesL t (widL t width) (gOf t).cells=ls at K70 HE KR0 HLl HLa
   generalize widL t width=l at KL0 K70
   generalize rowsL (rcs (gOf t).cells ls) t.rows.length=rs at KR0 HE
   go_enter Tryz.func24,Tryz.ntmps24
   go_upto_region 1 with fail
   clear hW0
   go_wp2_with fail
   refine KO.out.mono ?_
   rintro e w1 ⟨rfl,hb1⟩
   have HP1:Hid (Below w.heap.size w w1∧TA w1 z ac ar cc cr t∧w1.heap[w.heap.size]?=some (.cells #[.slice ac t.cols.length cc,.int .i64 t.head,.int .i64 t.foot,.slice ar t.rows.length cr,.int .i64 t.gap] 26)):=⟨k_trans HP.out.1 hb1,HP.out.2.1.kept hb1,(hb1.block _ (Array.getElem?_eq_some_iff.1 HP.out.2.2).1).trans HP.out.2.2⟩
   clear hb1 KO b0 b1 b2 b3 b4 HP
   go_wp2_with fail
   refine (HIn.out _).mono ?_
   rintro e w1 ⟨rfl,rfl⟩
   obtain ⟨b0,b1,b2,b3,b4⟩:=fiveO HP1.out.2.2
   have ht1:=(Array.getElem?_eq_some_iff.1 HP1.out.2.2).1
   go_wp2_with fail
   refine (K3.out _ HP1.out.2.1.2).mono ?_
   rintro e w2 ⟨ag,cg,rfl,hG2,hb2⟩
   have KA:=k_alloc (Below.refl w2.heap.size w2) (.cells #[.int .i64 (gOf t).rows,.int .i64 (gOf t).cols,.slice ag (gOf t).cells.length cg] 46)
   have HG3:=Hid.intro (hG2.kept KA)
   have HT3:=Hid.intro ((HP1.out.2.1.kept hb2).kept KA)
   have HK3:=Hid.intro (k_trans (k_trans HP1.out.1 hb2) KA)
   have HX:=Hid.intro ((k_trans hb2 KA).block _ ht1 |>.trans HP1.out.2.2)
   have HY:=Hid.intro (newestB w2 (.cells #[.int .i64 (gOf t).rows,.int .i64 (gOf t).cols,.slice ag (gOf t).cells.length cg] 46))
   have hlg:w2.heap.size < (w2.alloc (.cells #[.int .i64 (gOf t).rows,.int .i64 (gOf t).cols,.slice ag (gOf t).cells.length cg] 46)).heap.size:=by simp
   clear hG2 hb2 KA b0 b1 b2 b3 b4 HP1 K3 HIn ht1
   go_upto_region 4 with fail
   generalize w2.alloc (.cells #[.int .i64 (gOf t).rows,.int .i64 (gOf t).cols,.slice ag (gOf t).cells.length cg] 46)=W3 at HG3 HT3 HK3 HX HY hlg ⊢
   generalize w2.heap.size=gb at HY hlg HG3 ⊢
   have hl0:=(Array.getElem?_eq_some_iff.1 HX.out).1
   have HZ:Hid (w.heap.size≤W3.heap.size):=HK3.out.size
   have KL:=Hid.intro (fun W (h:Below W3.heap.size W3 W)=>KL0.out ag cg W _ (HT3.out.kept h).1 (HT3.out.kept h).2 (HG3.out.kept h))
   have K7:=Hid.intro (fun W (h:Below W3.heap.size W3 W) al cl (hI:IntsAt W (.slice al l.length cl) l)=>K70.out ag cg al cl l.length W _ (HT3.out.kept h) (HG3.out.kept h) hI)
   have KR:Hid (∀ W (_:Below W3.heap.size W3 W) al cl (_:LlsAt W w.heap.size (.slice al ls.length cl) ls),Calls Tryz.prog 57 #[.agg #[.int .i64 (gOf t).rows,.int .i64 (gOf t).cols,.slice ag (gOf t).cells.length cg],.slice al ls.length cl] W fun e w'=>∃ v,e=.returned v∧RowI w' W.heap.size w'.heap.size v rs∧Below W.heap.size W w'):=fun W h al cl hl=>by
    rw [HLl.out] at hl ⊢
    exact KR0.out ag cg al cl W (HG3.out.kept h) hl
   clear KL0 K70 KR0
   refine wp_region_inv2 (fun L act W=>∃ v17 v18 v19 v20 v21 v22 v23 v24 v25 v4:Value,act=⟨#[.agg #[.slice ac t.cols.length cc,.int .i64 t.head,.int .i64 t.foot,.slice ar t.rows.length cr,.int .i64 t.gap],.int .i64 width,.pointer (some ⟨w.heap.size,0,none⟩),undef,v4,.pointer (some ⟨gb,0,none⟩),.agg #[.slice ac t.cols.length cc,.int .i64 t.head,.int .i64 t.foot,.slice ar t.rows.length cr,.int .i64 t.gap],.bool true,.bool false,.bool false,.int .i64 width,.bool true,.bool false,.bool false,undef,.agg #[.slice ac t.cols.length cc,.int .i64 t.head,.int .i64 t.foot,.slice ar t.rows.length cr,.int .i64 t.gap],.agg #[.int .i64 (gOf t).rows,.int .i64 (gOf t).cols,.slice ag (gOf t).cells.length cg],v17,v18,v19,v20,v21,v22,v23,v24,v25],[]⟩∧HgRJ ac ar ag cc cr cg t width l ls rs w.heap.size W3 L W v17 v18 v19 v20 v21 v22 v23 v24 v25 v4) hmx (by kernel_rfl) ?hs ?hd ?h0
   case h0=>exact ⟨_,_,_,_,_,_,_,_,_,_,rfl,⟨(fun h=>by cases h),(fun h=>by cases h),(fun h=>by cases h),(fun h=>by cases h),(fun h=>by cases h),(fun h=>by cases h),(fun h=>by cases h),(fun h=>by cases h),(fun h=>by cases h),(fun h=>by cases h),k_drew (Below.refl _ _)⟩⟩
   case hd =>
    intro L act W hJ hall
    obtain ⟨v17,v18,v19,v20,v21,v22,v23,v24,v25,v4,ha,J⟩:=hJ
    subst ha
    have HF:=Hid.intro (J.f9 (hall 9 (by decide)))
    have HB:=Hid.intro (k_trans HK3.out J.b)
    clear J hall
    go_wp2
    go_ret
    exact ⟨_,rfl,by rw [HE.out];exact HF.out,HB.out⟩
   case hs =>
    intro L act W i o hJ hcl ho hLi haft K hK
    obtain ⟨v17,v18,v19,v20,v21,v22,v23,v24,v25,v4,ha,J⟩:=hJ
    subst ha
    have hi':i < 10:=by
     have:=(Array.getElem?_eq_some_iff.1 ho).1
     simpa using this
    rcases (by omega:i=0∨i=1∨i=2∨i=3∨i=4∨i=5∨i=6∨i=7∨i=8∨i=9) with rfl | rfl | rfl | rfl | rfl | rfl | rfl | rfl | rfl | rfl
    all_goals
     simp only [List.getElem?_toArray,List.getElem?_cons_zero,List.getElem?_cons_succ,Option.some.injEq] at ho
     subst ho
     clear hi'
    ·skip
     obtain ⟨q0,q1,q2⟩:=threeO ((J.b.block _ hlg).trans HY.out)
     have hl:=Nat.lt_of_lt_of_le hlg J.b.size
     go_simp
     exact hK _ _ ⟨_,_,_,_,_,_,_,_,_,_,rfl,⟨(fun _=>rfl),(fun h=>J.f1 (un h)),(fun h=>J.f2 (un h)),(fun h=>J.f3 (un h)),(fun h=>J.f4 (un h)),(fun h=>J.f5 (un h)),(fun h=>J.f6 (un h)),(fun h=>J.f7 (un h)),(fun h=>J.f8 (un h)),(fun h=>J.f9 (un h)),J.b⟩⟩
    ·skip
     obtain ⟨q0,q1,q2,q3,q4⟩:=fiveO ((J.b.block _ hl0).trans HX.out)
     have hl:=Nat.lt_of_lt_of_le hl0 J.b.size
     go_simp
     exact hK _ _ ⟨_,_,_,_,_,_,_,_,_,_,rfl,⟨(fun h=>J.f0 (un h)),(fun _=>rfl),(fun h=>J.f2 (un h)),(fun h=>J.f3 (un h)),(fun h=>J.f4 (un h)),(fun h=>J.f5 (un h)),(fun h=>J.f6 (un h)),(fun h=>J.f7 (un h)),(fun h=>J.f8 (un h)),(fun h=>J.f9 (un h)),J.b⟩⟩
    ·skip
     obtain ⟨q0,q1,q2⟩:=threeO ((J.b.block _ hlg).trans HY.out)
     have hl:=Nat.lt_of_lt_of_le hlg J.b.size
     go_simp
     exact hK _ _ ⟨_,_,_,_,_,_,_,_,_,_,rfl,⟨(fun h=>J.f0 (un h)),(fun h=>J.f1 (un h)),(fun _=>rfl),(fun h=>J.f3 (un h)),(fun h=>J.f4 (un h)),(fun h=>J.f5 (un h)),(fun h=>J.f6 (un h)),(fun h=>J.f7 (un h)),(fun h=>J.f8 (un h)),(fun h=>J.f9 (un h)),J.b⟩⟩
    ·skip
     obtain ⟨q0,q1,q2,q3,q4⟩:=fiveO ((J.b.block _ hl0).trans HX.out)
     have hl:=Nat.lt_of_lt_of_le hl0 J.b.size
     go_simp
     exact hK _ _ ⟨_,_,_,_,_,_,_,_,_,_,rfl,⟨(fun h=>J.f0 (un h)),(fun h=>J.f1 (un h)),(fun h=>J.f2 (un h)),(fun _=>rfl),(fun h=>J.f4 (un h)),(fun h=>J.f5 (un h)),(fun h=>J.f6 (un h)),(fun h=>J.f7 (un h)),(fun h=>J.f8 (un h)),(fun h=>J.f9 (un h)),J.b⟩⟩
    ·skip
     obtain ⟨q0,q1,q2⟩:=threeO ((J.b.block _ hlg).trans HY.out)
     have hl:=Nat.lt_of_lt_of_le hlg J.b.size
     go_simp
     exact hK _ _ ⟨_,_,_,_,_,_,_,_,_,_,rfl,⟨(fun h=>J.f0 (un h)),(fun h=>J.f1 (un h)),(fun h=>J.f2 (un h)),(fun h=>J.f3 (un h)),(fun _=>rfl),(fun h=>J.f5 (un h)),(fun h=>J.f6 (un h)),(fun h=>J.f7 (un h)),(fun h=>J.f8 (un h)),(fun h=>J.f9 (un h)),J.b⟩⟩
    ·skip
     go_simp
     exact hK _ _ ⟨_,_,_,_,_,_,_,_,_,_,rfl,⟨(fun h=>J.f0 (un h)),(fun h=>J.f1 (un h)),(fun h=>J.f2 (un h)),(fun h=>J.f3 (un h)),(fun h=>J.f4 (un h)),(fun _=>rfl),(fun h=>J.f6 (un h)),(fun h=>J.f7 (un h)),(fun h=>J.f8 (un h)),(fun h=>J.f9 (un h)),J.b⟩⟩
    ·skip
     obtain rfl:=J.f3 (haft ⟨3,.data⟩ (by simp) rfl)
     obtain rfl:=J.f4 (haft ⟨4,.data⟩ (by simp) rfl)
     obtain rfl:=J.f5 (haft ⟨5,.data⟩ (by simp) rfl)
     go_simp
     go_wp2_with (go_at_call 41;refine (KL.out W J.b).mono ?_;rintro e W2 ⟨v,rfl,hR,hb⟩;have hI:=hR.at;clear hR)
     exact ⟨_,_,_,_,_,_,_,_,_,_,rfl,⟨(fun h=>J.f0 (un h)),(fun h=>J.f1 (un h)),(fun h=>J.f2 (un h)),(fun h=>J.f3 (un h)),(fun h=>J.f4 (un h)),(fun h=>J.f5 (un h)),(fun _=>hI),(fun h=>(J.f7 (un h)).kept hb),(fun h=>((J.f8 (un h)).kept (fun j h0 _ _=>hb.block j h0)).base (Nat.le_refl _) hb.size),(fun h=>((J.f9 (un h)).kept (fun j h0 _ _=>hb.block j h0)).base (Nat.le_refl _) hb.size),k_trans J.b hb⟩⟩
    ·skip
     obtain rfl:=J.f1 (haft ⟨1,.data⟩ (by simp) rfl)
     obtain rfl:=J.f2 (haft ⟨2,.data⟩ (by simp) rfl)
     have hI:=J.f6 (haft ⟨6,.data⟩ (by simp) rfl)
     obtain ⟨aq,cq,rfl,_⟩:=hI.form
     go_simp
     go_wp2_with (go_at_call 58;refine (K7.out W J.b _ _ hI).mono ?_;rintro e W2 ⟨v,rfl,hR,hb⟩;have hI2:=hR.base (z':=w.heap.size) (Nat.le_trans HZ.out J.b.size);clear hR)
     exact ⟨_,_,_,_,_,_,_,_,_,_,rfl,⟨(fun h=>J.f0 (un h)),(fun h=>J.f1 (un h)),(fun h=>J.f2 (un h)),(fun h=>J.f3 (un h)),(fun h=>J.f4 (un h)),(fun h=>J.f5 (un h)),(fun h=>(J.f6 (un h)).kept hb),(fun _=>hI2),(fun h=>((J.f8 (un h)).kept (fun j h0 _ _=>hb.block j h0)).base (Nat.le_refl _) hb.size),(fun h=>((J.f9 (un h)).kept (fun j h0 _ _=>hb.block j h0)).base (Nat.le_refl _) hb.size),k_trans J.b hb⟩⟩
    ·skip
     obtain rfl:=J.f0 (haft ⟨0,.data⟩ (by simp) rfl)
     have hI:=J.f7 (haft ⟨7,.data⟩ (by simp) rfl)
     obtain ⟨aq,cq,rfl,_⟩:=At.form hI
     go_simp
     go_wp2_with (go_at_call 57;refine (KR.out W J.b _ _ hI).mono ?_;rintro e W2 ⟨v,rfl,hR,hb⟩;have hI2:=hR.base (B':=w.heap.size) (Nat.le_trans HZ.out J.b.size) (Nat.le_refl _);clear hR)
     exact ⟨_,_,_,_,_,_,_,_,_,_,rfl,⟨(fun h=>J.f0 (un h)),(fun h=>J.f1 (un h)),(fun h=>J.f2 (un h)),(fun h=>J.f3 (un h)),(fun h=>J.f4 (un h)),(fun h=>J.f5 (un h)),(fun h=>(J.f6 (un h)).kept hb),(fun h=>(J.f7 (un h)).kept hb),(fun _=>hI2),(fun h=>((J.f9 (un h)).kept (fun j h0 _ _=>hb.block j h0)).base (Nat.le_refl _) hb.size),k_trans J.b hb⟩⟩
    ·skip
     have hI2:=J.f8 (haft ⟨8,.data⟩ (by simp) rfl)
     go_simp
     exact hK _ _ ⟨_,_,_,_,_,_,_,_,_,_,rfl,⟨(fun h=>J.f0 (un h)),(fun h=>J.f1 (un h)),(fun h=>J.f2 (un h)),(fun h=>J.f3 (un h)),(fun h=>J.f4 (un h)),(fun h=>J.f5 (un h)),(fun h=>J.f6 (un h)),(fun h=>J.f7 (un h)),(fun h=>J.f8 (un h)),(fun _=>hI2),J.b⟩⟩
end Go.Proofs.YtcbibdhlkdcmiafGreat
namespace Go.Proofs.YtcbibdhlkdcmiafGreat
open Go.RowKit

theorem sumTo_small {l:List Int} (h:∀ x ∈ l,0≤x∧x≤1000) (k:Nat):0≤sumTo l k∧sumTo l k≤1000 * (l.length:Int):=by
 have h1:=sum_nn (l:=l.take k) (fun x hx=>(h x (List.mem_of_mem_take hx)).1)
 have h2:=sum_upM (l:=l.take k) (fun x hx=>h x (List.mem_of_mem_take hx))
 rw [List.length_take] at h2
 rw [sumTo]
 omega
theorem rows_small {cs:List RCell} (hc:∀ c ∈ cs,c.2.2≤1000) (R:Nat):∀ x ∈ rowsL cs R,0≤x∧x≤1000:=fun x hx=>⟨rows_nn cs R x hx,rows_max (by omega) cs hc R x hx⟩
theorem high_rows {cs:List RCell} (hc:∀ c ∈ cs,c.2.2≤1000) {R:Nat} (hR:R≤88) {x:GC} {a m:Nat} (hr:x.row=a) (hm:x.rows=m) (h1:1≤m) (h2:a+m≤R):highV (rowsL cs R) x=sumTo (rowsL cs R) (a+m) - sumTo (rowsL cs R) a:=by
 have s1:=sumTo_small (rows_small hc R) (a+m)
 have s2:=sumTo_small (rows_small hc R) a
 rw [rowsL_len] at s1 s2
 exact high_span hr hm h1 (by rw [rowsL_len];exact h2) (by omega)
theorem rowsT_yes {t:T} {x:Int} (hp:(rowsT t x).length ≠ 0):tblB t=true∧(0≤x∧x≤300)∧rowsT t x=rowsOfT t (widL t x)∧linesT t x=linesL t (widL t x) (gOf t).cells:=by
 unfold rowsT at hp
 unfold rowsT linesT
 by_cases h:(tblB t && inB x 0 300)=true
 ·rw [if_pos h,if_pos h]
  rw [Bool.and_eq_true] at h
  exact ⟨h.1,by simpa [inB] using h.2,rfl,rfl⟩
 ·rw [if_neg h] at hp
  exact absurd rfl hp
theorem rowsT_no {t:T} {x:Int} (hp:(rowsT t x).length=0):¬ (tblB t=true∧0≤x∧x≤300):=by
 rintro ⟨h1,h2⟩
 unfold rowsT at hp
 rw [if_pos (by rw [h1,inB_true h2.1 h2.2];rfl),rowsOfT,rowsL_len] at hp
 simp only [tblB,inB,Bool.and_eq_true,decide_eq_true_eq] at h1
 omega
structure HgF (t:T) (RL:List Int) (LL:List (List ByteArray)):Prop where
 len:RL.length=t.rows.length
 lln:LL.length=(gOf t).cells.length
 hold:∀ k,k < (gOf t).cells.length→¬ highV RL ((gOf t).cells.getD k dG) < ((LL.getD k []).length:Int)
 need:∀ r,r < t.rows.length→RL.getD r 0=0∨∃ k,k < (gOf t).cells.length∧(r:Int)=((gOf t).cells.getD k dG).row+((gOf t).cells.getD k dG).rows - 1∧highV RL ((gOf t).cells.getD k dG)=((LL.getD k []).length:Int)
 small:∀ k,k < (gOf t).cells.length→(0≤((gOf t).cells.getD k dG).row∧((gOf t).cells.getD k dG).row≤8)∧1≤((gOf t).cells.getD k dG).rows∧((gOf t).cells.getD k dG).rows≤8
theorem hgt_facts {t:T} (hD:Drawn t) {x:Int} (hp:(rowsT t x).length ≠ 0):HgF t (rowsT t x) (linesT t x):=by
 obtain ⟨hok,hx,e1,e2⟩:=rowsT_yes hp
 rw [e1,e2]
 have h8:=tRows hD hok
 have hll:=linesL_len t (widL t x) (gOf t).cells
 have hrc:=rc_le t (widL t x) (gOf t).cells
 have hcell:=gCell hD hok
 have hg:∀ k,k < (gOf t).cells.length→∃ a m:Nat,((gOf t).cells.getD k dG).row=a∧((gOf t).cells.getD k dG).rows=m∧1≤m∧a+m≤t.rows.length∧(rcs (gOf t).cells (linesL t (widL t x) (gOf t).cells))[k]?=some (a,m,(((linesL t (widL t x) (gOf t).cells).getD k []).length:Int)):=fun k hk=>by
  obtain ⟨a,m,f1,f2,f3,f4⟩:=hcell k hk
  refine ⟨a,m,f1,f2,f3,f4,?_⟩
  rw [rcs_get hll hk,rcOf,f1,f2,Int.toNat_natCast,Int.toNat_natCast]
 have hlr:=rcs_len hll
 unfold rowsOfT
 generalize linesL t (widL t x) (gOf t).cells=ls at hll hrc hg hlr ⊢
 generalize rcs (gOf t).cells ls=cs at hrc hg hlr ⊢
 refine ⟨rowsL_len cs _,hll,fun k hk=>?_,fun r hr=>?_,fun k hk=>?_⟩
 ·obtain ⟨a,m,f1,f2,f3,f4,f5⟩:=hg k hk
  rw [high_rows hrc (by omega) f1 f2 f3 f4]
  have:=rows_hold (cs:=cs) (n:=t.rows.length) (List.mem_of_getElem? f5) f3 f4
  dsimp only at this
  omega
 ·have hp:∀ c ∈ cs,1≤c.2.1:=fun c hc=>by
   obtain ⟨k,hk,e⟩:=List.mem_iff_getElem.mp hc
   obtain ⟨a,m,f1,f2,f3,f4,f5⟩:=hg k (by omega)
   rw [List.getElem?_eq_getElem hk,e] at f5
   rw [Option.some.inj f5]
   exact f3
  rcases rows_need hp hr with h1 | ⟨c,hc,h1,h2⟩
  ·exact .inl h1
  ·obtain ⟨k,hk,e⟩:=List.mem_iff_getElem.mp hc
   obtain ⟨a,m,f1,f2,f3,f4,f5⟩:=hg k (by omega)
   rw [List.getElem?_eq_getElem hk,e] at f5
   have e5:=Option.some.inj f5
   rw [e5] at h1 h2
   dsimp only at h1 h2
   refine .inr ⟨k,by omega,by rw [f1,f2];omega,?_⟩
   rw [high_rows hrc (by omega) f1 f2 f3 f4,h1]
   exact h2
 ·obtain ⟨a,m,f1,f2,f3,f4,f5⟩:=hg k hk
  rw [f1,f2]
  omega
/-- whether a row is needed by one of the first k cells -/
def needB (P:Nat→Bool) (b:Bool):Nat→Bool
 | 0=>b
 | k+1=>needB P b k || P k
theorem needB_true {P:Nat→Bool} {b:Bool}:∀ {n:Nat},(b=true∨∃ k,k < n∧P k=true)→needB P b n=true
 | 0,h=>by
  rcases h with h | ⟨k,hk,_⟩
  ·exact h
  ·omega
 | n+1,h=>by
  rw [needB]
  by_cases hk:b=true∨∃ k,k < n∧P k=true
  ·rw [needB_true hk];rfl
  ·rcases h with h | ⟨k,hk2,hp⟩
   ·exact absurd (.inl h) hk
   ·have:k=n:=by
     rcases Nat.lt_or_ge k n with h1 | h1
     ·exact absurd (.inr ⟨k,h1,hp⟩) hk
     ·omega
    subst this
    rw [hp,Bool.or_true]
end Go.Proofs.YtcbibdhlkdcmiafGreat
namespace Go.Proofs.YtcbibdhlkdcmiafGreat
open Go.RowKit

set_option maxRecDepth 100000 in
set_option maxHeartbeats 1000000 in
theorem pwTexts_any (v1 v2:Value) (ss:List ByteArray) (w:World) {z1 z2:Nat} (h1:StrsAt w z1 v1 ss) (h2:StrsAt w z2 v2 ss) :
  Calls Tryz.prog 59 #[v1,v2] w fun e w'=>e=.returned (.bool true)∧∃ n,w'=w.drewN n:=by
 obtain ⟨a1,cap1,rfl,hlen⟩:=At.form h1
 obtain ⟨a2,cap2,rfl,_⟩:=At.form h2
 unfold maxLen at hlen
 have hne:((ss.length:Int) != (ss.length:Int))=false:=by simp
 have H1:=Hid.intro h1
 have H2:=Hid.intro h2
 clear h1 h2
 go_enter Tryz.func59,Tryz.ntmps59
 go_wp2_with fail
 go_loopw [5] (fun i W=>∃ k n:Nat,k≤ss.length∧i=.int .i64 k∧W=w.drewN n) (fun i _=>ss.length - (intOf i).toNat)
 case atStart=>exact ⟨0,0,Nat.zero_le _,rfl,rfl⟩
 case round =>
  obtain ⟨k,nd,hk,rfl,rfl⟩:=hrel
  by_cases hlt:k < ss.length
  ·obtain ⟨b1,off1,cap1',e1,hc11,hc12,hbl1,x0,_⟩:=At.get H1.out hlt
   simp only [Value.slice.injEq,true_and] at e1
   obtain ⟨rfl,rfl⟩:=e1
   obtain ⟨b2,off2,cap2',e2,hc21,hc22,hbl2,y0,_⟩:=At.get H2.out hlt
   simp only [Value.slice.injEq,true_and] at e2
   obtain ⟨rfl,rfl⟩:=e2
   unfold maxLen at hc12 hc22
   rw [Nat.mul_one] at x0 y0
   generalize ss.getD k dS=x at x0 y0
   go_wp2_with fail
   go_quiet (fail)
   go_wp2
   go_roundw
   case rel=>exact ⟨k+1,nd+nq,by omega,by go_num,rfl⟩
   case measure=>simp [intOf];omega
  ·go_wp2
   go_ret
   exact ⟨rfl,nd,rfl⟩
end Go.Proofs.YtcbibdhlkdcmiafGreat
namespace Go.Proofs.YtcbibdhlkdcmiafGreat
open Go.RowKit Go.BigFrame

set_option maxRecDepth 100000 in
set_option maxHeartbeats 1000000 in
theorem pwAll_any (v1 v2:Value) (ls:List (List ByteArray)) (w:World) {z1 z2:Nat} (h1:LlsAt w z1 v1 ls) (h2:LlsAt w z2 v2 ls) :
  Calls Tryz.prog 25 #[v1,v2] w fun e w'=>e=.returned (.bool true)∧Below w.heap.size w w':=by
 obtain ⟨a1,cap1,rfl,hlen⟩:=At.form h1
 obtain ⟨a2,cap2,rfl,_⟩:=At.form h2
 unfold maxLen at hlen
 have hne:((ls.length:Int) != (ls.length:Int))=false:=by simp
 have hmx:Tryz.prog.follows .mixedOrders=true:=by kernel_rfl
 have H1:=Hid.intro h1
 have H2:=Hid.intro h2
 clear h1 h2
 go_enter Tryz.func25,Tryz.ntmps25
 go_wp2_with fail
 go_loopw [5] (fun i W=>∃ k:Nat,k≤ls.length∧i=.int .i64 k∧Hid (Below w.heap.size w W)) (fun i _=>ls.length - (intOf i).toNat)
 case atStart=>exact ⟨0,Nat.zero_le _,rfl,Below.refl _ _⟩
 case round =>
  obtain ⟨k,hk,rfl,HB⟩:=hrel
  by_cases hlt:k < ls.length
  ·obtain ⟨b1,off1,cap1',u1,e1,hc11,hc12,hbl1,x0,hs1⟩:=(H1.out.kept HB.out).get hlt
   simp only [Value.slice.injEq,true_and] at e1
   obtain ⟨rfl,rfl⟩:=e1
   obtain ⟨b2,off2,cap2',u2,e2,hc21,hc22,hbl2,y0,hs2⟩:=(H2.out.kept HB.out).get hlt
   simp only [Value.slice.injEq,true_and] at e2
   obtain ⟨rfl,rfl⟩:=e2
   unfold maxLen at hc12 hc22
   generalize ls.getD k []=l1 at hs1 hs2
   obtain ⟨au,cu,rfl,_⟩:=At.form hs1
   obtain ⟨av,cv,rfl,_⟩:=At.form hs2
   have hne2:=bw_some wr
   have m0:=bw_cell (a:=⟨b1,off1+k,none⟩) hbl1 x0
   have m1:=bw_cell (a:=⟨b2,off2+k,none⟩) hbl2 y0
   have KT:=Hid.intro (fun (p:BW wr)=>bw_of ((pwTexts_any _ _ _ p.u (hs1.kept p.h) (hs2.kept p.h)).mono (fun _ _ ⟨e1,n,e2⟩=>And.intro e1 (by rw [e2];exact k_drewN (Below.refl _ _) n))))
   clear hs1 hs2 x0 y0
   go_upto_region 6 with fail
   refine wp_region_quiet_below hmx (by kernel_rfl) ?_
   repeat (go_big_quiet_step (first | (go_at_call 59;refine KT.out _)))
   refine wpQuiet_nil ?_
   intro W5 hw'
   obtain ⟨⟨Wx,hW5⟩,hw''⟩:=hw'
   subst hw''
   have HB5:=Hid.intro (k_trans HB.out hW5)
   clear m0 m1 KT hne2 hW5
   go_wp2
   go_roundw
   case rel=>exact ⟨k+1,by omega,by go_num,HB5⟩
   case measure=>simp [intOf];omega
  ·go_wp2
   go_ret
   exact ⟨rfl,HB.out⟩
end Go.Proofs.YtcbibdhlkdcmiafGreat
namespace Go.Proofs.YtcbibdhlkdcmiafGreat
open Go.RowKit

set_option maxRecDepth 100000 in
set_option maxHeartbeats 1000000 in
theorem specGrdOf (ac ar:Option Addr) (cc cr:Nat) (t:T) (hD:Drawn t) (w:World) {z:Nat} (hc:ColsAt w z (.slice ac t.cols.length cc) t.cols) (hr:RowsAt w z (.slice ar t.rows.length cr) t.rows) :
  Calls Tryz.prog 105 #[.agg #[.slice ac t.cols.length cc,.int .i64 t.head,.int .i64 t.foot,.slice ar t.rows.length cr,.int .i64 t.gap]] w fun e w'=>∃ vg,e=.returned (.agg #[.int .i64 (gOf t).rows,.int .i64 (gOf t).cols,vg])∧OwnG w' w.heap.size vg (gOf t).cells∧Below w.heap.size w w':=by
 obtain ⟨W0,hW0⟩:∃ W0,(w.alloc (.cells #[.slice ac t.cols.length cc,.int .i64 t.head,.int .i64 t.foot,.slice ar t.rows.length cr,.int .i64 t.gap] 26)).alloc (.cells #[.int .i64 0,.int .i64 0,.slice none 0 0] 46)=W0:=⟨_,rfl⟩
 have K0:Below w.heap.size w W0:=by rw [← hW0];exact k_alloc (k_alloc (Below.refl _ _) _) _
 have hz0:W0.heap.size=w.heap.size+2:=by rw [← hW0];simp
 have T0:W0.heap[w.heap.size]?=some (.cells #[.slice ac t.cols.length cc,.int .i64 t.head,.int .i64 t.foot,.slice ar t.rows.length cr,.int .i64 t.gap] 26):=by rw [← hW0];exact (Below.heap_alloc _ _ _ (by simp)).trans (newestB _ _)
 have X0:W0.heap[w.heap.size+1]?=some (.cells #[.int .i64 0,.int .i64 0,.slice none 0 0] 46):=by
  have:=newestB (w.alloc (.cells #[.slice ac t.cols.length cc,.int .i64 t.head,.int .i64 t.foot,.slice ar t.rows.length cr,.int .i64 t.gap] 26)) (.cells #[.int .i64 0,.int .i64 0,.slice none 0 0] 46)
  rw [hW0] at this
  simpa using this
 have KO:=Hid.intro (specTblOk ac ar cc cr t W0 (hc.kept K0) (hr.kept K0))
 have HR:=Hid.intro hr
 obtain ⟨⟨t0,t1,t2,t3,t4⟩,_⟩:=fiveT T0
 clear hc hr
 cases htk:tblB t with
 | false =>
  rw [htk] at KO
  have hg:gOf t=⟨0,0,[]⟩:=by unfold gOf;rw [if_neg (by rw [htk];simp)]
  have HG:=Hid.intro hg
  clear htk hg hD
  go_enter Tryz.func105,Tryz.ntmps105
  go_wp2_with fail
  refine KO.out.mono ?_
  rintro e w1 ⟨rfl,hb1⟩
  have X1:=blk_kept X0 hb1
  have K1:=k_trans K0 hb1
  obtain ⟨⟨x0,x1,x2⟩,y0,y1,y2⟩:=threeZ X1
  have HB:=Hid.intro (((K1.setCell (p:=⟨w.heap.size+1,0,none⟩) (by show _≤w.heap.size+1;omega) (.int .i64 0)).setCell (p:=⟨w.heap.size+1,1,none⟩) (by show _≤w.heap.size+1;omega) (.int .i64 0)).setCell (p:=⟨w.heap.size+1,2,none⟩) (by show _≤w.heap.size+1;omega) (.slice none 0 0))
  clear hb1 K1 X1 KO hW0 t0 t1 t2 t3 t4
  go_wp2
  exact bodyPost_ret (v:=.agg #[.int .i64 0,.int .i64 0,.slice none 0 0]) (by simp [results,Tryz.results105,go_sem,x0,x1,x2]) rfl ⟨.slice none 0 0,by rw [HG.out],by rw [HG.out];exact ⟨rfl,.inl ⟨rfl,rfl⟩⟩,HB.out⟩
 | true =>
  rw [htk] at KO
  have hg:gOf t=⟨t.rows.length,colsOf (max 1 (t.cols.length:Int)) (gridOf t),gridOf t⟩:=by unfold gOf;rw [if_pos htk]
  have HG:=Hid.intro hg
  have HLow:=Hid.intro (low_of htk hD)
  clear htk hg hD
  go_enter Tryz.func105,Tryz.ntmps105
  go_wp2_with fail
  refine KO.out.mono ?_
  rintro e w1 ⟨rfl,hb1⟩
  have X1:=blk_kept X0 hb1
  have T1:=blk_kept T0 hb1
  have K1:=k_trans K0 hb1
  obtain ⟨⟨s0,s1,s2,s3,s4⟩,_⟩:=fiveT T1
  clear KO hW0 t0 t1 t2 t3 t4
  go_wp2_with fail
  refine (l3Of_any ac ar cc cr t HLow.out w1 (HR.out.kept K1)).mono ?_
  rintro e w2 ⟨vg,rfl,hO2,hb2⟩
  have X2:=blk_kept X1 hb2
  have K2:=k_trans K1 hb2
  obtain ⟨va,vq,rfl,_⟩:=row_form hO2
  obtain ⟨⟨x0,x1,x2⟩,y0,y1,y2⟩:=threeZ X2
  have h1:=setB (p:=0) X2 (.int .i64 (t.rows.length:Int))
  have h2:=setB (p:=1) h1 (.int .i64 (colsOf (max 1 (t.cols.length:Int)) (gridOf t)))
  have o1:=row_set (p:=0) hO2 X2 (by decide) (.int .i64 (t.rows.length:Int))
  have o2:=row_set (p:=1) o1 h1 (by decide) (.int .i64 (colsOf (max 1 (t.cols.length:Int)) (gridOf t)))
  have o3:=row_set (p:=2) o2 h2 (by decide) (.slice va (gridOf t).length vq)
  have hz1:w.heap.size≤w1.heap.size:=K1.size
  have HO:=Hid.intro (row_base o3 hz1)
  have HB:=Hid.intro (((K2.setCell (p:=⟨w.heap.size+1,0,none⟩) (by show _≤w.heap.size+1;omega) (.int .i64 (t.rows.length:Int))).setCell (p:=⟨w.heap.size+1,1,none⟩) (by show _≤w.heap.size+1;omega) (.int .i64 (colsOf (max 1 (t.cols.length:Int)) (gridOf t)))).setCell (p:=⟨w.heap.size+1,2,none⟩) (by show _≤w.heap.size+1;omega) (.slice va (gridOf t).length vq))
  clear h1 h2 o1 o2 o3 hO2 hb2 X2 K2 s0 s1 s2 s3 s4 X1 T1 K1 hb1 X0 T0
  generalize hC:colsOf (max 1 (t.cols.length:Int)) (gridOf t)=C at HG HO HB ⊢
  clear hC
  go_wp2
  exact bodyPost_ret (v:=.agg #[.int .i64 (t.rows.length:Int),.int .i64 C,.slice va (gridOf t).length vq]) (by simp [results,Tryz.results105,go_sem,x0,x1,x2]) rfl ⟨_,by rw [HG.out],by rw [HG.out];exact HO.out,HB.out⟩
end Go.Proofs.YtcbibdhlkdcmiafGreat
