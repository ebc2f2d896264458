/-
  PROVED HERE: the model's QryRects at a drawn table and any width: where each cell is, in memory of its own; nothing that was in memory is turned. Also: 2 more texts of the same proof.
-/
import Derived.Test.YtcbibdhlkdcmiaiGreatE40
import Derived.Test.YtcbibdhlkdcmiaiGreatE41
import Derived.Test.YtcbibdhlkdcmiaiGreatE39
import Derived.Test.YtcbibdhlkdcmiaiGreatE44
import Derived.Test.YtcbibdhlkdcmiaiGreatC12
import Derived.Test.YtcbibdhlkdcmiaiGreatC16
import Derived.Test.YtcbibdhlkdcmiaiGreatC32
import Derived.Test.YtcbibdhlkdcmiaiGreatC21
import Derived.Test.YtcbibdhlkdcmiaiGreatC20
import Derived.Deep.DeepCutAuto
import Derived.Deep.RegionWith
import Derived.Deep.QuietTactic
import Derived.BigQuiet
import Derived.Laws.StructEq
namespace Go.Proofs.YtcbibdhlkdcmiaiGreat
open Go.RowKit Go.BigFrame
structure QmJ (w W3:World) (BB:Nat) (ac ar:Option Addr) (cc cr cg:Nat) (t:T) (a m:Nat) (xc xs xi:Int) (U:Value) (qs:List QR) (q:QR) (va vb:Value) (k tb gb b off:Nat) (l rs:List Int) (L:Nat→Bool) (W:World) (v5 v39 v40 v41 v42 v43 v44 v45 v46 v47 v48 v49 v50:Value):Prop where
 f0:L 0=true→v39=U
 f1:L 1=true→v40=.agg #[.slice ac t.cols.length cc,.int .i64 t.head,.int .i64 t.foot,.slice ar t.rows.length cr,.int .i64 t.gap]
 f2:L 2=true→v41=.pointer (some ⟨gb,2,none⟩)
 f3:L 3=true→v42=.slice (some ⟨b,off,none⟩) (gOf t).cells.length cg
 f4:L 4=true→v43=.int .i64 (k:Int)
 f5:L 5=true→v44=.pointer (some ⟨b,off+k * 5,none⟩)
 f6:L 6=true→v45=.agg #[.int .i64 (a:Int),.int .i64 xc,.int .i64 (m:Int),.int .i64 xs,.int .i64 xi]
 f7:L 7=true→v46=va
 f8:L 8=true→v47=vb
 f9:L 9=true→v48=.agg #[.int .i64 q.x,.int .i64 q.y,.int .i64 q.w,.int .i64 q.h]
 f10:L 10=true→∃ g,v49=.slice (some ⟨g,0,none⟩) 1 1∧(L 11=false→QrIs W g 0 q)
 fA:L 12=true→v5=v50
 nA:L 12=false→v5=U
 b4:L 11=false→Below W3.heap.size W3 W
 bel:Qk w ac ar (some ⟨b,off,none⟩) cc cr cg t gb va vb l rs W
 ownA:L 11=true→OwnQ W BB v50 (qs ++ [q])
structure Qm6J (ac ar ag:Option Addr) (cc cr cg:Nat) (t:T) (width:Int) (l:List Int) (ls:List (List ByteArray)) (rs:List Int) (a7:Option Addr) (c7 zz:Nat) (W3:World) (L:Nat→Bool) (W:World) (v26 v27 v28 v29 v30 v31 v8:Value):Prop where
 f0:L 0=true→v26=.agg #[.int .i64 (gOf t).rows,.int .i64 (gOf t).cols,.slice ag (gOf t).cells.length cg]
 f1:L 1=true→v27=.agg #[.slice ac t.cols.length cc,.int .i64 t.head,.int .i64 t.foot,.slice ar t.rows.length cr,.int .i64 t.gap]
 f2:L 2=true→v28=.agg #[.int .i64 (gOf t).rows,.int .i64 (gOf t).cols,.slice ag (gOf t).cells.length cg]
 f3:L 3=true→v29=.slice a7 l.length c7
 f4:L 4=true→LlsAt W zz v30 ls
 f5:L 5=true→RowI W zz W.heap.size v31 rs
 f6:L 6=true→RowI W zz W.heap.size v8 rs
 b:Below W3.heap.size W3 W
set_option maxRecDepth 100000 in
set_option maxHeartbeats 4000000 in
theorem specQryRects (ac ar:Option Addr) (cc cr:Nat) (t:T) (hD:Drawn t) (width:Int) (w:World) {z:Nat} (hc:ColsAt w z (.slice ac t.cols.length cc) t.cols) (hr:RowsAt w z (.slice ar t.rows.length cr) t.rows) :
  Calls Tryz.prog 16 #[.agg #[.slice ac t.cols.length cc,.int .i64 t.head,.int .i64 t.foot,.slice ar t.rows.length cr,.int .i64 t.gap],.int .i64 width] w fun e w'=>∃ v,e=.returned v∧QsAt w' w.heap.size v (rectsT t width)∧Below w.heap.size w w':=by
 have hmx:Tryz.prog.follows .mixedOrders=true:=by kernel_rfl
 obtain ⟨i0,hi0,hz0,hz1,hz2⟩:=info_parts infoQR
 obtain ⟨W0,hW0⟩:∃ W0,(w.alloc (.cells #[.slice ac t.cols.length cc,.int .i64 t.head,.int .i64 t.foot,.slice ar t.rows.length cr,.int .i64 t.gap] 33)).alloc (.cells #[] 50)=W0:=⟨_,rfl⟩
 have hs0:W0.heap.size=w.heap.size+2:=by rw [← hW0];simp
 have K0:Below w.heap.size w W0:=by rw [← hW0];exact k_alloc (k_alloc (Below.refl _ _) _) _
 have X0:W0.heap[w.heap.size]?=some (.cells #[.slice ac t.cols.length cc,.int .i64 t.head,.int .i64 t.foot,.slice ar t.rows.length cr,.int .i64 t.gap] 33):=by rw [← hW0];exact (Below.heap_alloc _ _ _ (by simp)).trans (newestB _ _)
 have E0:OwnQ W0 (w.heap.size+1) (.slice (some ⟨w.heap.size+1,0,none⟩) 0 0) []:=by
  rw [← hW0]
  have:=World.ownsRow_made (base:=w.heap.size+1) (e:=50) (size:=4) (w.alloc (.cells #[.slice ac t.cols.length cc,.int .i64 t.head,.int .i64 t.foot,.slice ar t.rows.length cr,.int .i64 t.gap] 33)) #[] 0 (by simp) (Nat.zero_le _) rfl
  have e:(w.alloc (.cells #[.slice ac t.cols.length cc,.int .i64 t.head,.int .i64 t.foot,.slice ar t.rows.length cr,.int .i64 t.gap] 33)).heap.size=w.heap.size+1:=by simp
  rw [e] at this
  exact this
 have HP:Hid (Below w.heap.size w W0∧TA W0 z ac ar cc cr t∧W0.heap[w.heap.size]?=some (.cells #[.slice ac t.cols.length cc,.int .i64 t.head,.int .i64 t.foot,.slice ar t.rows.length cr,.int .i64 t.gap] 33)∧OwnQ W0 (w.heap.size+1) (.slice (some ⟨w.heap.size+1,0,none⟩) 0 0) []):=⟨K0,⟨hc.kept K0,hr.kept K0⟩,X0,E0⟩
 have KO:=Hd (specTblOk ac ar cc cr t W0 HP.out.2.1.1 HP.out.2.1.2)
 obtain ⟨b0,b1,b2,b3,b4⟩:=fiveO X0
 clear hc hr K0 X0 E0
 cases htk:tblB t with
 | false =>
  rw [htk] at KO
  have HE:Hid (rectsT t width=[]):=by rw [Hid,rectsT,htk];rfl
  clear htk
  go_enter Tryz.func16,Tryz.ntmps16
  go_upto_region 2 with fail
  clear hW0
  go_wp2_with fail
  refine KO.out.mono ?_
  rintro e w1 ⟨rfl,hb1⟩
  have HK1:=Hd (k_trans HP.out.1 hb1)
  have HQ1:=Hd ((HP.out.2.2.2.at.kept hb1).base (z':=w.heap.size) (by omega))
  clear hb1 KO b0 b1 b2 b3 b4 HP
  go_wp2
  go_ret
  exact ⟨_,rfl,by rw [HE.out];exact HQ1.out,HK1.out⟩
 | true =>
  rw [htk] at KO
  have HIn:=Hd (l1In_any width 0 300)
  cases hin:inB width 0 300 with
  | false =>
   have HE:Hid (rectsT t width=[]):=by rw [Hid,rectsT,htk,hin];rfl
   rw [hin] at HIn
   clear htk hin hD
   go_enter Tryz.func16,Tryz.ntmps16
   go_upto_region 2 with fail
   clear hW0
   go_wp2_with fail
   refine KO.out.mono ?_
   rintro e w1 ⟨rfl,hb1⟩
   have HK1:=Hd (k_trans HP.out.1 hb1)
   have HQ1:=Hd ((HP.out.2.2.2.at.kept hb1).base (z':=w.heap.size) (by omega))
   clear hb1 KO b0 b1 b2 b3 b4 HP
   go_wp2_with fail
   refine (HIn.out _).mono ?_
   rintro e w2 ⟨rfl,rfl⟩
   go_wp2
   go_ret
   exact ⟨_,rfl,by rw [HE.out];exact HQ1.out,HK1.out⟩
  | true =>
   have hw:0≤width∧width≤300:=by simpa [inB] using hin
   have K3:=Hd (fun W h=>l3Of_o ac ar cc cr t hD htk W (z:=z) h)
   have KL0:=Hd (fun ag cg W zg h1 h2 h3=>specl6Cols ac ar cc cr t hD ag cg width hw htk W (z:=z) (zg:=zg) h1 h2 h3)
   obtain ⟨_,hlw,_⟩:=acr_wid hD htk hw
   obtain ⟨_,hC88,_⟩:=acr_least hD htk
   have hl1:(widL t width).length≤1048576:=by rw [hlw];omega
   have K70:=Hd (fun ag cg al cl n W zg (h1:TA W z ac ar cc cr t) h2 h3=>specl7Lines ac ar ag al cc cr cg cl n t hD (widL t width) hl1 W (z:=z) (zg:=zg) h1 h2 h3)
   have HE:Hid (rectsT t width=rectsL t (widL t width) (rowsOfT t (widL t width)) (gOf t).cells):=by rw [Hid,rectsT,htk,hin];rfl
   rw [hin] at HIn
   have h40:=gLen hD
   have hR8':=tRows hD htk
   have HGr:=gRows htk
   have HGc:=Hd (gCell hD htk)
   have HGk:=Hd (gOf_gok hD)
   have HLl:=Hd (linesL_len t (widL t width) (gOf t).cells)
   have HLa:=Hd (lnAll t (widL t width) (gOf t).cells)
   have KR0:=Hd (fun ag cg al cl W {zg zl:Nat} (hg:GsAt W zg (.slice ag (gOf t).cells.length cg) (gOf t).cells) (hl:LlsAt W zl (.slice al (gOf t).cells.length cl) (linesL t (widL t width) (gOf t).cells))=>specl7Rows ag cg (gOf t) t.rows.length (by omega) HGr _ al cl HLl.out (by omega) HGc.out HLa.out W hg hl)
   have HSm:Hid (∀ x ∈ rowsOfT t (widL t width),0≤x∧x≤1000):=rows_small (rc_le t (widL t width) (gOf t).cells) t.rows.length
   have hlr:(rowsOfT t (widL t width)).length=t.rows.length:=by rw [rowsOfT,rowsL_len]
   have HLr:=Hd hlr
   have hl8:(rowsOfT t (widL t width)).length≤8:=by rw [hlr];exact hR8'
   have hR1:0 < t.rows.length:=by
    have h1:=htk
    simp only [tblB,inB,Bool.and_eq_true,decide_eq_true_eq] at h1
    omega
   have HLe:=Hd (rectsL_len t (widL t width) (rowsOfT t (widL t width)) (gOf t).cells)
   have HLn:=Hd (fun k (h:k < (gOf t).cells.length)=>rectsL_next t (widL t width) (rowsOfT t (widL t width)) h)
   have eR:rowsL (rcs (gOf t).cells (linesL t (widL t width) (gOf t).cells)) t.rows.length=rowsOfT t (widL t width):=rfl
   rw [eR] at KR0
   clear htk hin hD hlw hC88 HGr hlr eR
   generalize linesL t (widL t width) (gOf t).cells=ls at K70 KR0 HLl HLa
   generalize rowsOfT t (widL t width)=rs at KR0 HE HSm HLr hl8 HLe HLn
   generalize widL t width=l at KL0 K70 HE HLe HLn hl1
   go_enter Tryz.func16,Tryz.ntmps16
   go_upto_region 2 with fail
   clear hW0
   go_wp2_with fail
   refine KO.out.mono ?_
   rintro e w1 ⟨rfl,hb1⟩
   have HP1:Hid (Below w.heap.size w w1∧TA w1 z ac ar cc cr t∧w1.heap[w.heap.size]?=some (.cells #[.slice ac t.cols.length cc,.int .i64 t.head,.int .i64 t.foot,.slice ar t.rows.length cr,.int .i64 t.gap] 33)∧OwnQ w1 (w.heap.size+1) (.slice (some ⟨w.heap.size+1,0,none⟩) 0 0) []):=⟨k_trans HP.out.1 hb1,HP.out.2.1.kept hb1,(hb1.block _ (bL HP.out.2.2.1)).trans HP.out.2.2.1,ownsRow_keptS HP.out.2.2.2 hb1⟩
   have hz1':w.heap.size+2≤w1.heap.size:=by have:=hb1.size;omega
   clear hb1 KO b0 b1 b2 b3 b4 HP
   go_wp2_with fail
   refine (HIn.out _).mono ?_
   rintro e w1 ⟨rfl,rfl⟩
   obtain ⟨b0,b1,b2,b3,b4⟩:=fiveO HP1.out.2.2.1
   have ht1:=(bL HP1.out.2.2.1)
   go_wp2_with fail
   refine (K3.out _ HP1.out.2.1.2).mono ?_
   rintro e w2 ⟨ag,cg,rfl,hG2,hb2⟩
   have KA:=k_alloc (Below.refl w2.heap.size w2) (.cells #[.int .i64 (gOf t).rows,.int .i64 (gOf t).cols,.slice ag (gOf t).cells.length cg] 56)
   have HO2:Hid (OwnG (w2.alloc (.cells #[.int .i64 (gOf t).rows,.int .i64 (gOf t).cols,.slice ag (gOf t).cells.length cg] 56)) w.heap.size (.slice ag (gOf t).cells.length cg) (gOf t).cells):=(hG2.baseQ HP1.out.1.size).keptQ KA
   have HT2:=Hd ((HP1.out.2.1.kept hb2).kept KA)
   have HK2:=Hd (k_trans (k_trans HP1.out.1 hb2) KA)
   have HX2:=Hd ((k_trans hb2 KA).block _ ht1 |>.trans HP1.out.2.2.1)
   have HE2:Hid (OwnQ (w2.alloc (.cells #[.int .i64 (gOf t).rows,.int .i64 (gOf t).cols,.slice ag (gOf t).cells.length cg] 56)) (w.heap.size+1) (.slice (some ⟨w.heap.size+1,0,none⟩) 0 0) []):=ownsRow_keptS (ownsRow_keptS HP1.out.2.2.2 hb2) KA
   have HY2:=Hd (newestB w2 (.cells #[.int .i64 (gOf t).rows,.int .i64 (gOf t).cols,.slice ag (gOf t).cells.length cg] 56))
   have hlg2:w2.heap.size < (w2.alloc (.cells #[.int .i64 (gOf t).rows,.int .i64 (gOf t).cols,.slice ag (gOf t).cells.length cg] 56)).heap.size:=by simp
   have hz2':w.heap.size+2≤(w2.alloc (.cells #[.int .i64 (gOf t).rows,.int .i64 (gOf t).cols,.slice ag (gOf t).cells.length cg] 56)).heap.size:=by have:=hb2.size;omega
   clear hG2 hb2 KA b0 b1 b2 b3 b4 HP1 K3 HIn ht1
   go_upto_region 5 with fail
   generalize w2.alloc (.cells #[.int .i64 (gOf t).rows,.int .i64 (gOf t).cols,.slice ag (gOf t).cells.length cg] 56)=W2 at HO2 HT2 HK2 HX2 HE2 HY2 hlg2 hz2' ⊢
   generalize w2.heap.size=gb at HY2 hlg2 ⊢
   obtain ⟨b0,b1,b2,b3,b4⟩:=fiveO HX2.out
   obtain ⟨y0,y1,y2⟩:=threeO HY2.out
   have hl02:=(bL HX2.out)
   go_wp2_with fail
   refine (KL0.out ag cg _ _ HT2.out.1 HT2.out.2 (HO2.out.at HGk.out)).mono ?_
   rintro e W3 ⟨v7,rfl,hR7,hb7⟩
   obtain ⟨a7,c7,rfl⟩:=hR7.form
   have HI3:=Hd (hR7.base (B':=w.heap.size) HK2.out.size (Nat.le_refl _))
   have HO3:=Hd (HO2.out.keptQ hb7)
   have HT3:=Hd (HT2.out.kept hb7)
   have HK3:=Hd (k_trans HK2.out hb7)
   have HX:=Hd ((hb7.block _ hl02).trans HX2.out)
   have HY:=Hd ((hb7.block _ hlg2).trans HY2.out)
   have HE3:Hid (OwnQ W3 (w.heap.size+1) (.slice (some ⟨w.heap.size+1,0,none⟩) 0 0) []):=ownsRow_keptS HE2.out hb7
   have HZ1:Hid (w.heap.size+1≤W3.heap.size):=by have:=hb7.size;show w.heap.size+1≤W3.heap.size;omega
   have HZ:Hid (w.heap.size≤W3.heap.size):=HK3.out.size
   clear hR7 hb7 b0 b1 b2 b3 b4 y0 y1 y2 HO2 HT2 HK2 HX2 HY2 HE2 hl02 hlg2 KL0
   go_upto_region 6 with fail
   have hl0:=(bL HX.out)
   have hlg:=(bL HY.out)
   have K7:=Hd (fun W (h:Below W3.heap.size W3 W)=>K70.out ag cg a7 c7 l.length W _ (HT3.out.kept h) ((HO3.out.at HGk.out).kept h) (HI3.out.at.kept h))
   have KR:Hid (∀ W (_:Below W3.heap.size W3 W) al cl (_:LlsAt W w.heap.size (.slice al ls.length cl) ls),Calls Tryz.prog 48 #[.agg #[.int .i64 (gOf t).rows,.int .i64 (gOf t).cols,.slice ag (gOf t).cells.length cg],.slice al ls.length cl] W fun e w'=>∃ v,e=.returned v∧RowI w' W.heap.size w'.heap.size v rs∧Below W.heap.size W w'):=fun W h al cl hl=>by
    rw [HLl.out] at hl ⊢
    exact KR0.out ag cg al cl W ((HO3.out.at HGk.out).kept h) hl
   clear K70 KR0
   refine wp_region_inv2 (fun L act W=>∃ v26 v27 v28 v29 v30 v31 v8:Value,act=⟨#[.agg #[.slice ac t.cols.length cc,.int .i64 t.head,.int .i64 t.foot,.slice ar t.rows.length cr,.int .i64 t.gap],.int .i64 width,.pointer (some ⟨w.heap.size,0,none⟩),undef,.slice none 0 0,.slice (some ⟨w.heap.size+1,0,none⟩) 0 0,.pointer (some ⟨gb,0,none⟩),.slice a7 l.length c7,v8,undef,.slice (some ⟨w.heap.size+1,0,none⟩) 0 0,.agg #[.slice ac t.cols.length cc,.int .i64 t.head,.int .i64 t.foot,.slice ar t.rows.length cr,.int .i64 t.gap],.bool true,.bool false,.bool false,.int .i64 width,.bool true,.bool false,.bool false,undef,.agg #[.slice ac t.cols.length cc,.int .i64 t.head,.int .i64 t.foot,.slice ar t.rows.length cr,.int .i64 t.gap],.agg #[.int .i64 (gOf t).rows,.int .i64 (gOf t).cols,.slice ag (gOf t).cells.length cg],.agg #[.slice ac t.cols.length cc,.int .i64 t.head,.int .i64 t.foot,.slice ar t.rows.length cr,.int .i64 t.gap],.agg #[.int .i64 (gOf t).rows,.int .i64 (gOf t).cols,.slice ag (gOf t).cells.length cg],.int .i64 width,.slice a7 l.length c7,v26,v27,v28,v29,v30,v31,undef,undef,undef,undef,undef,undef,undef,undef,undef,undef,undef,undef,undef,undef,undef,undef,undef,undef,undef,undef],[]⟩∧Qm6J ac ar ag cc cr cg t width l ls rs a7 c7 w.heap.size W3 L W v26 v27 v28 v29 v30 v31 v8) hmx (by kernel_rfl) ?hs ?hd ?h0
   case h0=>exact ⟨_,_,_,_,_,_,_,rfl,⟨(fun h=>by cases h),(fun h=>by cases h),(fun h=>by cases h),(fun h=>by cases h),(fun h=>by cases h),(fun h=>by cases h),(fun h=>by cases h),k_drew (Below.refl _ _)⟩⟩
   case hd =>
    intro L act W hJ hall
    obtain ⟨v26,v27,v28,v29,v30,v31,v8,ha,J⟩:=hJ
    subst ha
    obtain rfl:=J.f0 (hall 0 (by decide))
    obtain rfl:=J.f1 (hall 1 (by decide))
    obtain rfl:=J.f2 (hall 2 (by decide))
    obtain rfl:=J.f3 (hall 3 (by decide))
    have hR8:=J.f6 (hall 6 (by decide))
    obtain ⟨g8,c8,e8,_,_,_,_,_,_,_⟩:=hR8.get (i:=0) (by rw [HLr.out];exact hR1)
    subst e8
    have HQ0:Hid (Qk w ac ar ag cc cr cg t gb (.slice a7 l.length c7) (.slice (some ⟨g8,0,none⟩) rs.length c8) l rs W):=⟨k_trans HK3.out J.b,(J.b.block _ hl0).trans HX.out,(J.b.block _ hlg).trans HY.out,HO3.out.keptQ J.b,(HI3.out.kept (fun j h0 _ _=>J.b.block j h0)).base (Nat.le_refl _) J.b.size,hR8,Nat.le_trans HZ1.out J.b.size⟩
    have HE0:Hid (OwnQ W (w.heap.size+1) (.slice (some ⟨w.heap.size+1,0,none⟩) 0 0) []):=ownsRow_keptS HE3.out J.b
    clear J hall hR8 K7 KR HX HY HO3 HI3 HE3 HK3 HT3
    generalize W=W1 at HQ0 HE0 ⊢
    go_wp2_with fail
    go_loopw [5,9] (fun o i W=>∃ (k:Nat),i=.int .i64 k∧k≤(gOf t).cells.length∧Hid (OwnQ W (w.heap.size+1) o ((rectsL t l rs (gOf t).cells).take k))∧Hid (Qk w ac ar ag cc cr cg t gb (.slice a7 l.length c7) (.slice (some ⟨g8,0,none⟩) rs.length c8) l rs W)) (fun _ i _=>(gOf t).cells.length - (intOf i).toNat)
    case atStart=>exact ⟨0,rfl,Nat.zero_le _,HE0,HQ0⟩
    case round =>
     clear HE0 HQ0
     obtain ⟨k,rfl,hk,HO,HB1⟩:=hrel
     obtain ⟨y0,y1,y2⟩:=threeO HB1.out.gx
     have hlg':=(bL HB1.out.gx)
     by_cases hkl:k < (gOf t).cells.length
     case neg =>
      obtain rfl:k=(gOf t).cells.length:=by omega
      rw [← HLe.out,List.take_length] at HO
      have HF:=Hd (HO.out.at.base (z':=w.heap.size) (by omega))
      have HK:=Hd HB1.out.bw
      go_wp2
      go_ret
      exact ⟨_,rfl,by rw [HE.out];exact HF.out,HK.out⟩
     obtain ⟨b,off,cap',e',hc1,hc2,hbl,hx,hxo⟩:=At.get (HB1.out.og.at HGk.out) hkl
     simp only [Value.slice.injEq,true_and] at e'
     obtain ⟨rfl,rfl⟩:=e'
     have HNx:=Hd (HLn.out k hkl)
     have hql:((rectsL t l rs (gOf t).cells).take k).length≤40:=by rw [List.length_take,HLe.out];omega
     obtain ⟨a,m,ea,em,h1m,ham⟩:=HGc.out k hkl
     generalize (rectsL t l rs (gOf t).cells).take k=qs at HO HNx hql
     generalize (gOf t).cells.getD k dG=x at hx hxo HNx ea em
     obtain ⟨xr,xc,xm,xs,xi⟩:=x
     dsimp only at ea em
     subst ea em
     obtain ⟨x0,x1,x2,x3,x4⟩:=hx
     dsimp only at x0 x1 x2 x3 x4
     unfold maxLen at hc2
     have HX:Hid (wr.heap[w.heap.size]?=some (.cells #[.slice ac t.cols.length cc,.int .i64 t.head,.int .i64 t.foot,.slice ar t.rows.length cr,.int .i64 t.gap] 33)):=HB1.out.tx
     have HY:Hid (wr.heap[gb]?=some (.cells #[.int .i64 (gOf t).rows,.int .i64 (gOf t).cols,.slice (some ⟨b,off,none⟩) (gOf t).cells.length cg] 56)):=HB1.out.gx
     have hlt0:=(bL HX.out)
     have hlg:=hlg'
     have KQ:=Hd (fun W (h:Below wr.heap.size wr W)=>specl10Rect ac ar a7 cc cr c7 t a m xc xs xi hxo l rs hl1 g8 c8 HSm.out hl8 h1m (by rw [HLr.out];exact ham) W ((HB1.out.kept h).i7.at) ((HB1.out.kept h).i8))
     obtain ⟨q,hq⟩:∃ q,rectOf t l rs ⟨(a:Int),xc,(m:Int),xs,xi⟩=q:=⟨_,rfl⟩
     rw [hq] at KQ HNx
     clear hq hxo HLn HLe HGc
     go_upto_region 10 with fail
     clear y0 y1 y2
     refine wp_region_inv2 (fun L act W=>∃ v5 v39 v40 v41 v42 v43 v44 v45 v46 v47 v48 v49 v50:Value,act=⟨#[.agg #[.slice ac t.cols.length cc,.int .i64 t.head,.int .i64 t.foot,.slice ar t.rows.length cr,.int .i64 t.gap],.int .i64 width,.pointer (some ⟨w.heap.size,0,none⟩),undef,.slice none 0 0,v5,.pointer (some ⟨gb,0,none⟩),.slice a7 l.length c7,.slice (some ⟨g8,0,none⟩) rs.length c8,.int .i64 (k:Int),.slice (some ⟨w.heap.size+1,0,none⟩) 0 0,.agg #[.slice ac t.cols.length cc,.int .i64 t.head,.int .i64 t.foot,.slice ar t.rows.length cr,.int .i64 t.gap],.bool true,.bool false,.bool false,.int .i64 width,.bool true,.bool false,.bool false,undef,.agg #[.slice ac t.cols.length cc,.int .i64 t.head,.int .i64 t.foot,.slice ar t.rows.length cr,.int .i64 t.gap],.agg #[.int .i64 (gOf t).rows,.int .i64 (gOf t).cols,.slice (some ⟨b,off,none⟩) (gOf t).cells.length cg],.agg #[.slice ac t.cols.length cc,.int .i64 t.head,.int .i64 t.foot,.slice ar t.rows.length cr,.int .i64 t.gap],.agg #[.int .i64 (gOf t).rows,.int .i64 (gOf t).cols,.slice (some ⟨b,off,none⟩) (gOf t).cells.length cg],.int .i64 width,.slice a7 l.length c7,.agg #[.int .i64 (gOf t).rows,.int .i64 (gOf t).cols,.slice (some ⟨b,off,none⟩) (gOf t).cells.length cg],.agg #[.slice ac t.cols.length cc,.int .i64 t.head,.int .i64 t.foot,.slice ar t.rows.length cr,.int .i64 t.gap],.agg #[.int .i64 (gOf t).rows,.int .i64 (gOf t).cols,.slice (some ⟨b,off,none⟩) (gOf t).cells.length cg],.slice a7 l.length c7,v30,v31,.int .i64 (k:Int),.pointer (some ⟨gb,2,none⟩),.slice (some ⟨b,off,none⟩) (gOf t).cells.length cg,.int .i64 ((gOf t).cells.length:Int),.bool true,u37,u38,v39,v40,v41,v42,v43,v44,v45,v46,v47,v48,v49,v50,undef],[]⟩∧QmJ w wr (w.heap.size+1) ac ar cc cr cg t a m xc xs xi u5 qs q (.slice a7 l.length c7) (.slice (some ⟨g8,0,none⟩) rs.length c8) k w.heap.size gb b off l rs L W v5 v39 v40 v41 v42 v43 v44 v45 v46 v47 v48 v49 v50) hmx (by kernel_rfl) ?hs2 ?hd2 ?h02
     case h02=>exact ⟨_,_,_,_,_,_,_,_,_,_,_,_,_,rfl,⟨(fun h=>by cases h),(fun h=>by cases h),(fun h=>by cases h),(fun h=>by cases h),(fun h=>by cases h),(fun h=>by cases h),(fun h=>by cases h),(fun h=>by cases h),(fun h=>by cases h),(fun h=>by cases h),(fun h=>by cases h),(fun h=>by cases h),(fun _=>rfl),(fun _=>k_drew (Below.refl _ _)),HB1.out.kept (k_drew (Below.refl _ _)),(fun h=>by cases h)⟩⟩
     case hd2 =>
      intro L act W hJ hall
      obtain ⟨v5,v39,v40,v41,v42,v43,v44,v45,v46,v47,v48,v49,v50,ha,J⟩:=hJ
      subst ha
      obtain rfl:=J.fA (hall 12 (by decide))
      have HO5:=Hd (J.ownA (hall 11 (by decide)))
      have HB5:=Hd J.bel
      obtain ⟨g',cap'',rfl⟩:=Joins.ownsRow_form HO5.out (by simp)
      clear J hall
      go_wp2
      go_roundw
      case rel=>exact ⟨k+1,by go_num,by omega,by rw [HNx.out];exact HO5,HB5⟩
      case measure=>simp [intOf];omega
     case hs2 =>
      intro L act W i o hJ hcl ho hLi haft K hK
      obtain ⟨v5,v39,v40,v41,v42,v43,v44,v45,v46,v47,v48,v49,v50,ha,J⟩:=hJ
      subst ha
      have hi':i < 13:=by
       have:=(bL ho)
       simpa using this
      rcases (by omega:i=0∨i=1∨i=2∨i=3∨i=4∨i=5∨i=6∨i=7∨i=8∨i=9∨i=10∨i=11∨i=12) with rfl | rfl | rfl | rfl | rfl | rfl | rfl | rfl | rfl | rfl | rfl | rfl | rfl
      all_goals
       simp only [List.getElem?_toArray,List.getElem?_cons_zero,List.getElem?_cons_succ,Option.some.injEq] at ho
       subst ho
       clear hi'
      ·skip
       have hAp:L 11=false:=(hcl 11 0 (by kernel_rfl) hLi)
       have hAs:L 12=false:=(hcl 12 11 (by kernel_rfl) (hcl 11 0 (by kernel_rfl) hLi))
       have B4:=J.b4 hAp
       obtain rfl:=J.nA hAs
       go_simp
       exact hK _ _ ⟨_,_,_,_,_,_,_,_,_,_,_,_,_,rfl,⟨(fun _=>rfl),(uq J.f1),(uq J.f2),(uq J.f3),(uq J.f4),(uq J.f5),(uq J.f6),(uq J.f7),(uq J.f8),(uq J.f9),(ub J.f10),(uf hAs),(uq J.nA),(fun _=>B4),J.bel,(uf hAp)⟩⟩
      ·skip
       have hAp:L 11=false:=(hcl 11 10 (by kernel_rfl) (hcl 10 9 (by kernel_rfl) (hcl 9 1 (by kernel_rfl) hLi)))
       have hAs:L 12=false:=(hcl 12 11 (by kernel_rfl) (hcl 11 10 (by kernel_rfl) (hcl 10 9 (by kernel_rfl) (hcl 9 1 (by kernel_rfl) hLi))))
       have B4:=J.b4 hAp
       obtain ⟨q0,q1,q2,q3,q4⟩:=fiveO ((B4.block _ hlt0).trans HX.out)
       have hl:=Nat.lt_of_lt_of_le hlt0 B4.size
       go_simp
       exact hK _ _ ⟨_,_,_,_,_,_,_,_,_,_,_,_,_,rfl,⟨(uq J.f0),(fun _=>rfl),(uq J.f2),(uq J.f3),(uq J.f4),(uq J.f5),(uq J.f6),(uq J.f7),(uq J.f8),(uq J.f9),(ub J.f10),(uf hAs),(uq J.nA),(fun _=>B4),J.bel,(uf hAp)⟩⟩
      ·skip
       have hAp:L 11=false:=(hcl 11 10 (by kernel_rfl) (hcl 10 9 (by kernel_rfl) (hcl 9 6 (by kernel_rfl) (hcl 6 5 (by kernel_rfl) (hcl 5 3 (by kernel_rfl) (hcl 3 2 (by kernel_rfl) hLi))))))
       have hAs:L 12=false:=(hcl 12 11 (by kernel_rfl) (hcl 11 10 (by kernel_rfl) (hcl 10 9 (by kernel_rfl) (hcl 9 6 (by kernel_rfl) (hcl 6 5 (by kernel_rfl) (hcl 5 3 (by kernel_rfl) (hcl 3 2 (by kernel_rfl) hLi)))))))
       have B4:=J.b4 hAp
       go_simp
       exact hK _ _ ⟨_,_,_,_,_,_,_,_,_,_,_,_,_,rfl,⟨(uq J.f0),(uq J.f1),(fun _=>rfl),(uq J.f3),(uq J.f4),(uq J.f5),(uq J.f6),(uq J.f7),(uq J.f8),(uq J.f9),(ub J.f10),(uf hAs),(uq J.nA),(fun _=>B4),J.bel,(uf hAp)⟩⟩
      ·skip
       have hAp:L 11=false:=(hcl 11 10 (by kernel_rfl) (hcl 10 9 (by kernel_rfl) (hcl 9 6 (by kernel_rfl) (hcl 6 5 (by kernel_rfl) (hcl 5 3 (by kernel_rfl) hLi)))))
       have hAs:L 12=false:=(hcl 12 11 (by kernel_rfl) (hcl 11 10 (by kernel_rfl) (hcl 10 9 (by kernel_rfl) (hcl 9 6 (by kernel_rfl) (hcl 6 5 (by kernel_rfl) (hcl 5 3 (by kernel_rfl) hLi))))))
       have B4:=J.b4 hAp
       obtain ⟨q0,q1,q2⟩:=threeO ((B4.block _ hlg).trans HY.out)
       have hl:=Nat.lt_of_lt_of_le hlg B4.size
       obtain rfl:=J.f2 (haft ⟨2,.data⟩ (by simp) rfl)
       go_simp
       exact hK _ _ ⟨_,_,_,_,_,_,_,_,_,_,_,_,_,rfl,⟨(uq J.f0),(uq J.f1),(uq J.f2),(fun _=>rfl),(uq J.f4),(uq J.f5),(uq J.f6),(uq J.f7),(uq J.f8),(uq J.f9),(ub J.f10),(uf hAs),(uq J.nA),(fun _=>B4),J.bel,(uf hAp)⟩⟩
      ·skip
       have hAp:L 11=false:=(hcl 11 10 (by kernel_rfl) (hcl 10 9 (by kernel_rfl) (hcl 9 6 (by kernel_rfl) (hcl 6 5 (by kernel_rfl) (hcl 5 4 (by kernel_rfl) hLi)))))
       have hAs:L 12=false:=(hcl 12 11 (by kernel_rfl) (hcl 11 10 (by kernel_rfl) (hcl 10 9 (by kernel_rfl) (hcl 9 6 (by kernel_rfl) (hcl 6 5 (by kernel_rfl) (hcl 5 4 (by kernel_rfl) hLi))))))
       have B4:=J.b4 hAp
       go_simp
       exact hK _ _ ⟨_,_,_,_,_,_,_,_,_,_,_,_,_,rfl,⟨(uq J.f0),(uq J.f1),(uq J.f2),(uq J.f3),(fun _=>rfl),(uq J.f5),(uq J.f6),(uq J.f7),(uq J.f8),(uq J.f9),(ub J.f10),(uf hAs),(uq J.nA),(fun _=>B4),J.bel,(uf hAp)⟩⟩
      ·skip
       have hAp:L 11=false:=(hcl 11 10 (by kernel_rfl) (hcl 10 9 (by kernel_rfl) (hcl 9 6 (by kernel_rfl) (hcl 6 5 (by kernel_rfl) hLi))))
       have hAs:L 12=false:=(hcl 12 11 (by kernel_rfl) (hcl 11 10 (by kernel_rfl) (hcl 10 9 (by kernel_rfl) (hcl 9 6 (by kernel_rfl) (hcl 6 5 (by kernel_rfl) hLi)))))
       have B4:=J.b4 hAp
       obtain rfl:=J.f3 (haft ⟨3,.data⟩ (by simp) rfl)
       obtain rfl:=J.f4 (haft ⟨4,.data⟩ (by simp) rfl)
       go_simp
       exact hK _ _ ⟨_,_,_,_,_,_,_,_,_,_,_,_,_,rfl,⟨(uq J.f0),(uq J.f1),(uq J.f2),(uq J.f3),(uq J.f4),(fun _=>rfl),(uq J.f6),(uq J.f7),(uq J.f8),(uq J.f9),(ub J.f10),(uf hAs),(uq J.nA),(fun _=>B4),J.bel,(uf hAp)⟩⟩
      ·skip
       have hAp:L 11=false:=(hcl 11 10 (by kernel_rfl) (hcl 10 9 (by kernel_rfl) (hcl 9 6 (by kernel_rfl) hLi)))
       have hAs:L 12=false:=(hcl 12 11 (by kernel_rfl) (hcl 11 10 (by kernel_rfl) (hcl 10 9 (by kernel_rfl) (hcl 9 6 (by kernel_rfl) hLi))))
       have B4:=J.b4 hAp
       have q0:=(B4.cell (p:=⟨b,off+k * 5,none⟩) hbl).trans x0
       have q1:=(B4.cell (p:=⟨b,off+k * 5+1,none⟩) hbl).trans x1
       have q2:=(B4.cell (p:=⟨b,off+k * 5+2,none⟩) hbl).trans x2
       have q3:=(B4.cell (p:=⟨b,off+k * 5+3,none⟩) hbl).trans x3
       have q4:=(B4.cell (p:=⟨b,off+k * 5+4,none⟩) hbl).trans x4
       obtain rfl:=J.f5 (haft ⟨5,.data⟩ (by simp) rfl)
       go_simp
       exact hK _ _ ⟨_,_,_,_,_,_,_,_,_,_,_,_,_,rfl,⟨(uq J.f0),(uq J.f1),(uq J.f2),(uq J.f3),(uq J.f4),(uq J.f5),(fun _=>rfl),(uq J.f7),(uq J.f8),(uq J.f9),(ub J.f10),(uf hAs),(uq J.nA),(fun _=>B4),J.bel,(uf hAp)⟩⟩
      ·skip
       have hAp:L 11=false:=(hcl 11 10 (by kernel_rfl) (hcl 10 9 (by kernel_rfl) (hcl 9 7 (by kernel_rfl) hLi)))
       have hAs:L 12=false:=(hcl 12 11 (by kernel_rfl) (hcl 11 10 (by kernel_rfl) (hcl 10 9 (by kernel_rfl) (hcl 9 7 (by kernel_rfl) hLi))))
       have B4:=J.b4 hAp
       go_simp
       exact hK _ _ ⟨_,_,_,_,_,_,_,_,_,_,_,_,_,rfl,⟨(uq J.f0),(uq J.f1),(uq J.f2),(uq J.f3),(uq J.f4),(uq J.f5),(uq J.f6),(fun _=>rfl),(uq J.f8),(uq J.f9),(ub J.f10),(uf hAs),(uq J.nA),(fun _=>B4),J.bel,(uf hAp)⟩⟩
      ·skip
       have hAp:L 11=false:=(hcl 11 10 (by kernel_rfl) (hcl 10 9 (by kernel_rfl) (hcl 9 8 (by kernel_rfl) hLi)))
       have hAs:L 12=false:=(hcl 12 11 (by kernel_rfl) (hcl 11 10 (by kernel_rfl) (hcl 10 9 (by kernel_rfl) (hcl 9 8 (by kernel_rfl) hLi))))
       have B4:=J.b4 hAp
       go_simp
       exact hK _ _ ⟨_,_,_,_,_,_,_,_,_,_,_,_,_,rfl,⟨(uq J.f0),(uq J.f1),(uq J.f2),(uq J.f3),(uq J.f4),(uq J.f5),(uq J.f6),(uq J.f7),(fun _=>rfl),(uq J.f9),(ub J.f10),(uf hAs),(uq J.nA),(fun _=>B4),J.bel,(uf hAp)⟩⟩
      ·skip
       have hAp:L 11=false:=(hcl 11 10 (by kernel_rfl) (hcl 10 9 (by kernel_rfl) hLi))
       have hAs:L 12=false:=(hcl 12 11 (by kernel_rfl) (hcl 11 10 (by kernel_rfl) (hcl 10 9 (by kernel_rfl) hLi)))
       have B4:=J.b4 hAp
       obtain rfl:=J.f1 (haft ⟨1,.data⟩ (by simp) rfl)
       obtain rfl:=J.f6 (haft ⟨6,.data⟩ (by simp) rfl)
       obtain rfl:=J.f7 (haft ⟨7,.data⟩ (by simp) rfl)
       obtain rfl:=J.f8 (haft ⟨8,.data⟩ (by simp) rfl)
       go_simp
       go_wp2_with (go_at_call 50;refine (KQ.out W B4).mono ?_;rintro e WN ⟨rfl,hb⟩)
       exact ⟨_,_,_,_,_,_,_,_,_,_,_,_,_,rfl,⟨(uq J.f0),(uq J.f1),(uq J.f2),(uq J.f3),(uq J.f4),(uq J.f5),(uq J.f6),(uq J.f7),(uq J.f8),(fun _=>rfl),(fun h=>by rw [upd_ne rfl,(hcl 10 9 (by kernel_rfl) hLi)] at h;cases h),(uf hAs),(uq J.nA),(fun _=>k_trans B4 hb),J.bel.kept hb,(uf hAp)⟩⟩
      ·skip
       have hAp:L 11=false:=(hcl 11 10 (by kernel_rfl) hLi)
       have hAs:L 12=false:=(hcl 12 11 (by kernel_rfl) (hcl 11 10 (by kernel_rfl) hLi))
       have B4:=J.b4 hAp
       obtain rfl:=J.f9 (haft ⟨9,.data⟩ (by simp) rfl)
       go_simp
       exact hK _ _ ⟨_,_,_,_,_,_,_,_,_,_,_,_,_,rfl,⟨(uq J.f0),(uq J.f1),(uq J.f2),(uq J.f3),(uq J.f4),(uq J.f5),(uq J.f6),(uq J.f7),(uq J.f8),(uq J.f9),(fun _=>⟨_,rfl,fun _=>⟨by simp,by simp,by simp,by simp⟩⟩),(uf hAs),(uq J.nA),(fun _=>k_alloc B4 _),J.bel.kept (k_alloc (Below.refl _ _) _),(uf hAp)⟩⟩
      ·skip
       have hAp:L 11=false:=hLi
       have hAs:L 12=false:=(hcl 12 11 (by kernel_rfl) hLi)
       have B4:=J.b4 hAp
       obtain rfl:=J.f0 (haft ⟨0,.data⟩ (by simp) rfl)
       obtain ⟨g,rfl,hg⟩:=J.f10 (haft ⟨10,.data⟩ (by simp) rfl)
       have hO4:=ownsRow_keptS HO.out B4
       obtain ⟨g0,g1,g2,g3⟩:=hg hAp
       rw [if_pos (by rfl)]
       refine wp_append_own _ (.tmp 39) (.tmp 49) 42 rfl (w.heap.size+1) 50 i0 (.agg #[.int .i64 0,.int .i64 0,.int .i64 0,.int .i64 0]) 4 32 Tryz.underlying42 hi0 hz0 hz1 hz2 rfl (by decide) _ _ _ rfl hO4 ⟨g,0,none⟩ 1 1 [.int .i64 q.x,.int .i64 q.y,.int .i64 q.w,.int .i64 q.h] rfl rfl ?c1 ?c2 ?c3 ?c4 ?c5 ?_
       case c1 =>
        intro i u hi
        match i,hi with
        | 0,hi=>simp at hi;subst hi;simpa [Addr.add] using g0
        | 1,hi=>simp at hi;subst hi;simpa [Addr.add] using g1
        | 2,hi=>simp at hi;subst hi;simpa [Addr.add] using g2
        | 3,hi=>simp at hi;subst hi;simpa [Addr.add] using g3
       case c2=>intro u hu;simp at hu;rcases hu with rfl | rfl | rfl | rfl <;> rfl
       case c3=>unfold maxLen;omega
       case c4=>omega
       case c5=>exact J.bel.sz
       intro v' w5 hown' hgrow' _
       have hB5:=J.bel.grown hO4 hgrow'
       have hO5:=own_next hown'
       exact hK _ _ ⟨_,_,_,_,_,_,_,_,_,_,_,_,_,rfl,⟨(uq J.f0),(uq J.f1),(uq J.f2),(uq J.f3),(uq J.f4),(uq J.f5),(uq J.f6),(uq J.f7),(uq J.f8),(uq J.f9),(fun _=>⟨g,rfl,fun h2=>by rw [upd_self] at h2;cases h2⟩),(uf hAs),(uq J.nA),(fun h=>by rw [upd_self] at h;cases h),hB5,(fun _=>hO5)⟩⟩
      ·skip
       go_simp
       exact hK _ _ ⟨_,_,_,_,_,_,_,_,_,_,_,_,_,rfl,⟨(uq J.f0),(uq J.f1),(uq J.f2),(uq J.f3),(uq J.f4),(uq J.f5),(uq J.f6),(uq J.f7),(uq J.f8),(uq J.f9),(ub J.f10),(fun _=>rfl),(fun h=>by rw [upd_self] at h;cases h),(uq J.b4),J.bel,(uq J.ownA)⟩⟩
   case hs =>
    intro L act W i o hJ hcl ho hLi haft K hK
    obtain ⟨v26,v27,v28,v29,v30,v31,v8,ha,J⟩:=hJ
    subst ha
    have hi':i < 7:=by
     have:=(bL ho)
     simpa using this
    rcases (by omega:i=0∨i=1∨i=2∨i=3∨i=4∨i=5∨i=6) with rfl | rfl | rfl | rfl | rfl | rfl | rfl
    all_goals
     simp only [List.getElem?_toArray,List.getElem?_cons_zero,List.getElem?_cons_succ,Option.some.injEq] at ho
     subst ho
     clear hi'
    ·skip
     obtain ⟨q0,q1,q2⟩:=threeO ((J.b.block _ hlg).trans HY.out)
     have hl:=Nat.lt_of_lt_of_le hlg J.b.size
     go_simp
     exact hK _ _ ⟨_,_,_,_,_,_,_,rfl,⟨(fun _=>rfl),(uq J.f1),(uq J.f2),(uq J.f3),(uq J.f4),(uq J.f5),(uq J.f6),J.b⟩⟩
    ·skip
     obtain ⟨q0,q1,q2,q3,q4⟩:=fiveO ((J.b.block _ hl0).trans HX.out)
     have hl:=Nat.lt_of_lt_of_le hl0 J.b.size
     go_simp
     exact hK _ _ ⟨_,_,_,_,_,_,_,rfl,⟨(uq J.f0),(fun _=>rfl),(uq J.f2),(uq J.f3),(uq J.f4),(uq J.f5),(uq J.f6),J.b⟩⟩
    ·skip
     obtain ⟨q0,q1,q2⟩:=threeO ((J.b.block _ hlg).trans HY.out)
     have hl:=Nat.lt_of_lt_of_le hlg J.b.size
     go_simp
     exact hK _ _ ⟨_,_,_,_,_,_,_,rfl,⟨(uq J.f0),(uq J.f1),(fun _=>rfl),(uq J.f3),(uq J.f4),(uq J.f5),(uq J.f6),J.b⟩⟩
    ·skip
     go_simp
     exact hK _ _ ⟨_,_,_,_,_,_,_,rfl,⟨(uq J.f0),(uq J.f1),(uq J.f2),(fun _=>rfl),(uq J.f4),(uq J.f5),(uq J.f6),J.b⟩⟩
    ·skip
     obtain rfl:=J.f1 (haft ⟨1,.data⟩ (by simp) rfl)
     obtain rfl:=J.f2 (haft ⟨2,.data⟩ (by simp) rfl)
     obtain rfl:=J.f3 (haft ⟨3,.data⟩ (by simp) rfl)
     go_simp
     go_wp2_with (go_at_call 49;refine (K7.out W J.b).mono ?_;rintro e W2 ⟨v,rfl,hR,hb⟩;have hI2:=hR.base (z':=w.heap.size) (Nat.le_trans HZ.out J.b.size);clear hR)
     exact ⟨_,_,_,_,_,_,_,rfl,⟨(uq J.f0),(uq J.f1),(uq J.f2),(uq J.f3),(fun _=>hI2),(fun h=>((J.f5 (un h)).kept (fun j h0 _ _=>hb.block j h0)).base (Nat.le_refl _) hb.size),(fun h=>((J.f6 (un h)).kept (fun j h0 _ _=>hb.block j h0)).base (Nat.le_refl _) hb.size),k_trans J.b hb⟩⟩
    ·skip
     obtain rfl:=J.f0 (haft ⟨0,.data⟩ (by simp) rfl)
     have hI:=J.f4 (haft ⟨4,.data⟩ (by simp) rfl)
     obtain ⟨aq,cq,rfl,_⟩:=At.form hI
     go_simp
     go_wp2_with (go_at_call 48;refine (KR.out W J.b _ _ hI).mono ?_;rintro e W2 ⟨v,rfl,hR,hb⟩;have hI2:=hR.base (B':=w.heap.size) (Nat.le_trans HZ.out J.b.size) (Nat.le_refl _);clear hR)
     exact ⟨_,_,_,_,_,_,_,rfl,⟨(uq J.f0),(uq J.f1),(uq J.f2),(uq J.f3),(fun h=>(J.f4 (un h)).kept hb),(fun _=>hI2),(fun h=>((J.f6 (un h)).kept (fun j h0 _ _=>hb.block j h0)).base (Nat.le_refl _) hb.size),k_trans J.b hb⟩⟩
    ·skip
     have hI2:=J.f5 (haft ⟨5,.data⟩ (by simp) rfl)
     go_simp
     exact hK _ _ ⟨_,_,_,_,_,_,_,rfl,⟨(uq J.f0),(uq J.f1),(uq J.f2),(uq J.f3),(uq J.f4),(uq J.f5),(fun _=>hI2),J.b⟩⟩
set_option maxRecDepth 100000 in
set_option maxHeartbeats 1000000 in
theorem pwRects_any (v1 v2:Value) (qs:List QR) (w:World) {z1 z2:Nat} (h1:QsAt w z1 v1 qs) (h2:QsAt w z2 v2 qs) :
  Calls Tryz.prog 15 #[v1,v2] w fun e w'=>e=.returned (.bool true)∧Below w.heap.size w w':=by
 obtain ⟨a1,cap1,rfl,hlen⟩:=At.form h1
 obtain ⟨a2,cap2,rfl,_⟩:=At.form h2
 unfold maxLen at hlen
 have hmx:Tryz.prog.follows .mixedOrders=true:=by kernel_rfl
 have hne:((qs.length:Int) != (qs.length:Int))=false:=by simp
 have H1:=Hd h1
 have H2:=Hd h2
 clear h1 h2
 go_enter Tryz.func15,Tryz.ntmps15
 go_wp2_with fail
 go_loopw [5] (fun i W=>∃ k:Nat,k≤qs.length∧i=.int .i64 k∧Hid (Below w.heap.size w W)) (fun i _=>qs.length - (intOf i).toNat)
 case atStart=>exact ⟨0,Nat.zero_le _,rfl,Below.refl _ _⟩
 case round =>
  obtain ⟨k,hk,rfl,HB⟩:=hrel
  by_cases hlt:k < qs.length
  ·obtain ⟨b1,off1,cap1',e1,hc11,hc12,hbl1,x0,x1,x2,x3⟩:=At.get (H1.out.kept HB.out) hlt
   simp only [Value.slice.injEq,true_and] at e1
   obtain ⟨rfl,rfl⟩:=e1
   obtain ⟨b2,off2,cap2',e2,hc21,hc22,hbl2,y0,y1,y2,y3⟩:=At.get (H2.out.kept HB.out) hlt
   simp only [Value.slice.injEq,true_and] at e2
   obtain ⟨rfl,rfl⟩:=e2
   unfold maxLen at hc12 hc22
   generalize qs.getD k dQ=q at x0 x1 x2 x3 y0 y1 y2 y3
   have f0:(q.x == q.x)=true:=by simp
   have f1:(q.y == q.y)=true:=by simp
   have f2:(q.w == q.w)=true:=by simp
   have f3:(q.h == q.h)=true:=by simp
   have hne2:=bw_some wr
   have m0:=bw_cell hbl1 x0
   have m1:=bw_cell hbl1 x1
   have m2:=bw_cell hbl1 x2
   have m3:=bw_cell hbl1 x3
   have m4:=bw_cell hbl2 y0
   have m5:=bw_cell hbl2 y1
   have m6:=bw_cell hbl2 y2
   have m7:=bw_cell hbl2 y3
   clear x0 x1 x2 x3 y0 y1 y2 y3
   go_upto_region 6 with fail
   refine wp_region_quiet_below hmx (by kernel_rfl) ?_
   repeat (go_big_quiet_step (fail))
   refine wpQuiet_nil ?_
   intro W5 hw'
   obtain ⟨⟨Wx,hW5⟩,hw''⟩:=hw'
   subst hw''
   have HB5:=Hd (k_trans HB.out hW5)
   clear m0 m1 m2 m3 m4 m5 m6 m7 hne2 hW5
   go_wp2
   go_roundw
   case rel=>exact ⟨k+1,by omega,by go_num,HB5⟩
   case measure=>simp [intOf];omega
  ·go_wp2
   go_ret
   exact ⟨rfl,HB.out⟩
end Go.Proofs.YtcbibdhlkdcmiaiGreat
namespace Go.Proofs.YtcbibdhlkdcmiaiGreat
open Go.RowKit
set_option maxRecDepth 100000 in
set_option maxHeartbeats 1000000 in
theorem specGrdOf (ac ar:Option Addr) (cc cr:Nat) (t:T) (hD:Drawn t) (w:World) {z:Nat} (hc:ColsAt w z (.slice ac t.cols.length cc) t.cols) (hr:RowsAt w z (.slice ar t.rows.length cr) t.rows) :
  Calls Tryz.prog 119 #[.agg #[.slice ac t.cols.length cc,.int .i64 t.head,.int .i64 t.foot,.slice ar t.rows.length cr,.int .i64 t.gap]] w fun e w'=>∃ vg,e=.returned (.agg #[.int .i64 (gOf t).rows,.int .i64 (gOf t).cols,vg])∧OwnG w' w.heap.size vg (gOf t).cells∧Below w.heap.size w w':=by
 obtain ⟨W0,hW0⟩:∃ W0,(w.alloc (.cells #[.slice ac t.cols.length cc,.int .i64 t.head,.int .i64 t.foot,.slice ar t.rows.length cr,.int .i64 t.gap] 33)).alloc (.cells #[.int .i64 0,.int .i64 0,.slice none 0 0] 56)=W0:=⟨_,rfl⟩
 have K0:Below w.heap.size w W0:=by rw [← hW0];exact k_alloc (k_alloc (Below.refl _ _) _) _
 have hz0:W0.heap.size=w.heap.size+2:=by rw [← hW0];simp
 have T0:W0.heap[w.heap.size]?=some (.cells #[.slice ac t.cols.length cc,.int .i64 t.head,.int .i64 t.foot,.slice ar t.rows.length cr,.int .i64 t.gap] 33):=by rw [← hW0];exact (Below.heap_alloc _ _ _ (by simp)).trans (newestB _ _)
 have X0:W0.heap[w.heap.size+1]?=some (.cells #[.int .i64 0,.int .i64 0,.slice none 0 0] 56):=by
  have:=newestB (w.alloc (.cells #[.slice ac t.cols.length cc,.int .i64 t.head,.int .i64 t.foot,.slice ar t.rows.length cr,.int .i64 t.gap] 33)) (.cells #[.int .i64 0,.int .i64 0,.slice none 0 0] 56)
  rw [hW0] at this
  simpa using this
 have KO:=Hd (specTblOk ac ar cc cr t W0 (hc.kept K0) (hr.kept K0))
 have HR:=Hd hr
 obtain ⟨⟨t0,t1,t2,t3,t4⟩,_⟩:=fiveT T0
 clear hc hr
 cases htk:tblB t with
 | false =>
  rw [htk] at KO
  have hg:gOf t=⟨0,0,[]⟩:=by unfold gOf;rw [if_neg (by rw [htk];simp)]
  have HG:=Hd hg
  clear htk hg hD
  go_enter Tryz.func119,Tryz.ntmps119
  go_wp2_with fail
  refine KO.out.mono ?_
  rintro e w1 ⟨rfl,hb1⟩
  have X1:=blk_kept X0 hb1
  have K1:=k_trans K0 hb1
  obtain ⟨⟨x0,x1,x2⟩,y0,y1,y2⟩:=threeZ X1
  have HB:=Hd (((K1.setCell (p:=⟨w.heap.size+1,0,none⟩) (by show _≤w.heap.size+1;omega) (.int .i64 0)).setCell (p:=⟨w.heap.size+1,1,none⟩) (by show _≤w.heap.size+1;omega) (.int .i64 0)).setCell (p:=⟨w.heap.size+1,2,none⟩) (by show _≤w.heap.size+1;omega) (.slice none 0 0))
  clear hb1 K1 X1 KO hW0 t0 t1 t2 t3 t4
  go_wp2
  exact bodyPost_ret (v:=.agg #[.int .i64 0,.int .i64 0,.slice none 0 0]) (by simp [results,Tryz.results119,go_sem,x0,x1,x2]) rfl ⟨.slice none 0 0,by rw [HG.out],by rw [HG.out];exact ⟨rfl,.inl ⟨rfl,rfl⟩⟩,HB.out⟩
 | true =>
  rw [htk] at KO
  have hg:gOf t=⟨t.rows.length,colsOf (max 1 (t.cols.length:Int)) (gridOf t),gridOf t⟩:=by unfold gOf;rw [if_pos htk]
  have HG:=Hd hg
  have HLow:=Hd (low_of htk hD)
  clear htk hg hD
  go_enter Tryz.func119,Tryz.ntmps119
  go_wp2_with fail
  refine KO.out.mono ?_
  rintro e w1 ⟨rfl,hb1⟩
  have X1:=blk_kept X0 hb1
  have T1:=blk_kept T0 hb1
  have K1:=k_trans K0 hb1
  obtain ⟨⟨s0,s1,s2,s3,s4⟩,_⟩:=fiveT T1
  clear KO hW0 t0 t1 t2 t3 t4
  go_wp2_with fail
  refine (l3Of_any ac ar cc cr t HLow.out w1 (HR.out.kept K1)).mono ?_
  rintro e w2 ⟨vg,rfl,hO2,hb2⟩
  have X2:=blk_kept X1 hb2
  have K2:=k_trans K1 hb2
  obtain ⟨va,vq,rfl,_⟩:=row_form hO2
  obtain ⟨⟨x0,x1,x2⟩,y0,y1,y2⟩:=threeZ X2
  have h1:=setB (p:=0) X2 (.int .i64 (t.rows.length:Int))
  have h2:=setB (p:=1) h1 (.int .i64 (colsOf (max 1 (t.cols.length:Int)) (gridOf t)))
  have o1:=row_set (p:=0) hO2 X2 (by decide) (.int .i64 (t.rows.length:Int))
  have o2:=row_set (p:=1) o1 h1 (by decide) (.int .i64 (colsOf (max 1 (t.cols.length:Int)) (gridOf t)))
  have o3:=row_set (p:=2) o2 h2 (by decide) (.slice va (gridOf t).length vq)
  have hz1:w.heap.size≤w1.heap.size:=K1.size
  have HO:=Hd (row_base o3 hz1)
  have HB:=Hd (((K2.setCell (p:=⟨w.heap.size+1,0,none⟩) (by show _≤w.heap.size+1;omega) (.int .i64 (t.rows.length:Int))).setCell (p:=⟨w.heap.size+1,1,none⟩) (by show _≤w.heap.size+1;omega) (.int .i64 (colsOf (max 1 (t.cols.length:Int)) (gridOf t)))).setCell (p:=⟨w.heap.size+1,2,none⟩) (by show _≤w.heap.size+1;omega) (.slice va (gridOf t).length vq))
  clear h1 h2 o1 o2 o3 hO2 hb2 X2 K2 s0 s1 s2 s3 s4 X1 T1 K1 hb1 X0 T0
  generalize hC:colsOf (max 1 (t.cols.length:Int)) (gridOf t)=C at HG HO HB ⊢
  clear hC
  go_wp2
  exact bodyPost_ret (v:=.agg #[.int .i64 (t.rows.length:Int),.int .i64 C,.slice va (gridOf t).length vq]) (by simp [results,Tryz.results119,go_sem,x0,x1,x2]) rfl ⟨_,by rw [HG.out],by rw [HG.out];exact HO.out,HB.out⟩
end Go.Proofs.YtcbibdhlkdcmiaiGreat
