/-
  PROVED HERE: l20AllFixed gives a table with the same rows, of whose columns widths are said, and turns nothing that was in memory but the reader. Also: 2 more texts of the same proof.
-/
import Derived.Test.YtggmjiddadjilaeGreatC30
import Derived.Test.YtggmjiddadjilaeGreatC17
import Derived.Test.YtggmjiddadjilaeGreatC41
import Derived.Test.YtggmjiddadjilaeGreatC18
import Derived.Test.YtggmjiddadjilaeGreatC31
import Derived.Deep.DeepCutAuto
import Derived.Deep.RegionWith
namespace Go.Proofs.YtggmjiddadjilaeGreat
open Go.RowKit
structure AfJ (w:World) (r B tb base:Nat) (U:Value) (nn:Nat) (xs:List Value) (hd ft:Int) (vr:Value) (gp:Int) (L:Nat→Bool) (W:World) (v21 v22 v23 v24 v25 v26 v27 v28:Value):Prop where
 f0:L 0=true→v21=.pointer (some ⟨tb,0,none⟩)
 f1:L 1=true→v22=U
 f2:L 2=true→v23=.pointer (some ⟨r,0,none⟩)
 f3:L 3=true→∃ x:Int,v24=.int .i64 x
 f4:L 4=true→∃ x:Int,v25=.agg #[.int .i64 1,.int .i64 x]
 f5:L 5=true→∃ (g:Nat) (x:Int),v26=.slice (some ⟨g,0,none⟩) 1 1∧(L 6=false→W.heap[g]?=some (.cells #[.int .i64 1,.int .i64 x] 45))
 f7:L 7=true→v28=.pointer (some ⟨tb,0,none⟩)
 rd:Rd W r (B+if L 3=true then 1 else 0)
 bk:Bk r w W
 own:L 6=false→W.ownsRow base 45 2 U nn xs
 ownA:L 6=true→∃ x:Int,W.ownsRow base 45 2 v27 (nn+1) (xs ++ [.int .i64 1,.int .i64 x])
 tb0:L 8=false→W.heap[tb]?=some (.cells #[U,.int .i64 hd,.int .i64 ft,vr,.int .i64 gp] 26)
 tb1:L 8=true→W.heap[tb]?=some (.cells #[v27,.int .i64 hd,.int .i64 ft,vr,.int .i64 gp] 26)
theorem Since.st5a {w:World} {z g:Nat} (hg:g < z) (y0 y1 y2 y3 y4:Value):Since z w (st5 w g y0 y1 y2 y3 y4):=⟨(st5_bk w g y0 y1 y2 y3 y4).size,fun k h1 h2=>(st5_bk w g y0 y1 y2 y3 y4).block k h2 (by omega)⟩
theorem field_cols (a b c:Value) (W:World):(Instr.field 36 (.agg #[a,b,c]) 1).run Tryz.prog W=.ok b W:=by kernel_rfl
set_option maxRecDepth 100000 in
set_option maxHeartbeats 4000000 in
theorem l20AllFixed_any (r B:Nat) (ac ar:Option Addr) (cc cr:Nat) (t:T) (hD:Drawn t) {z:Nat} (w:World) (h:Rd w r B) (hB:B≤800000) (hc:ColsAt w z (.slice ac t.cols.length cc) t.cols) (hr:RowsAt w z (.slice ar t.rows.length cr) t.rows) :
  Calls Tryz.prog 80 #[.pointer (some ⟨r,0,none⟩),.agg #[.slice ac t.cols.length cc,.int .i64 t.head,.int .i64 t.foot,.slice ar t.rows.length cr,.int .i64 t.gap]] w fun e w'=>∃ (ad:Option Addr) (cd:Nat) (ps:List (Int × Int)),e=.returned (.agg #[.slice ad ps.length cd,.int .i64 t.head,.int .i64 t.foot,.slice ar t.rows.length cr,.int .i64 t.gap])∧ps.length≤8∧ColsAt w' w.heap.size (.slice ad ps.length cd) ps∧Rd w' r (B+8)∧Bk r w w':=by
 obtain ⟨i0,hi0,hz0,hz1,hz2⟩:=info_parts infoCol
 have hfl:=field_cols
 have hlt:=h.lt
 have K2:=k_alloc (k_alloc (Below.refl w.heap.size w) (.cells #[.slice ac t.cols.length cc,.int .i64 t.head,.int .i64 t.foot,.slice ar t.rows.length cr,.int .i64 t.gap] 26)) (.cells #[.slice none 0 0,.int .i64 0,.int .i64 0,.slice none 0 0,.int .i64 0] 26)
 have X0:=more (newest w (.cells #[.slice ac t.cols.length cc,.int .i64 t.head,.int .i64 t.foot,.slice ar t.rows.length cr,.int .i64 t.gap] 26)) (.cells #[.slice none 0 0,.int .i64 0,.int .i64 0,.slice none 0 0,.int .i64 0] 26)
 have X1:=newest1 w (.cells #[.slice ac t.cols.length cc,.int .i64 t.head,.int .i64 t.foot,.slice ar t.rows.length cr,.int .i64 t.gap] 26) (.cells #[.slice none 0 0,.int .i64 0,.int .i64 0,.slice none 0 0,.int .i64 0] 26)
 have hs2:((w.alloc (.cells #[.slice ac t.cols.length cc,.int .i64 t.head,.int .i64 t.foot,.slice ar t.rows.length cr,.int .i64 t.gap] 26)).alloc (.cells #[.slice none 0 0,.int .i64 0,.int .i64 0,.slice none 0 0,.int .i64 0] 26)).heap.size=w.heap.size+2:=by simp
 have HR:=Hd (h.kept K2)
 have HT:=Hd (And.intro (hc.kept K2) (hr.kept K2))
 have HK2:=Hd K2
 clear h hc hr K2
 go_enter Tryz.func80,Tryz.ntmps80
 go_upto_region 1 with fail
 generalize (w.alloc (.cells #[.slice ac t.cols.length cc,.int .i64 t.head,.int .i64 t.foot,.slice ar t.rows.length cr,.int .i64 t.gap] 26)).alloc (.cells #[.slice none 0 0,.int .i64 0,.int .i64 0,.slice none 0 0,.int .i64 0] 26)=W2 at X0 X1 hs2 HR HT HK2 ⊢
 obtain ⟨⟨x0,x1,x2,x3,x4⟩,_⟩:=fiveZ X0
 go_wp2_with fail
 refine (specGrdOf ac ar cc cr t hD _ HT.out.1 HT.out.2).mono ?_
 rintro e w3 ⟨vg,rfl,_,hb3⟩
 have hz3:=hb3.size
 have Y0:=(hb3.block _ (bL X0)).trans X0
 have Y1:=(hb3.block _ (bL X1)).trans X1
 have HR3:=Hd (HR.out.kept hb3)
 have HK3:=Hd (k_trans HK2.out hb3)
 generalize (gOf t).cols=N
 clear hb3 x0 x1 x2 x3 x4 X0 X1 HR HT HK2
 obtain ⟨⟨x0,_,_,_,_⟩,y0,_⟩:=fiveZ Y0
 have hl0:w.heap.size < w3.heap.size:=by omega
 have hl1:w.heap.size+1 < w3.heap.size:=by omega
 clear hs2
 go_upto_region 3 with fail
 have Y0':((w3.setCell ⟨w.heap.size,0,none⟩ (.slice (some ⟨w3.heap.size,0,none⟩) 0 0)).alloc (.cells #[] 45)).heap[w.heap.size]?=some (.cells #[.slice (some ⟨w3.heap.size,0,none⟩) 0 0,.int .i64 t.head,.int .i64 t.foot,.slice ar t.rows.length cr,.int .i64 t.gap] 26):=by
  have h1:=setB Y0 (p:=0) (.slice (some ⟨w3.heap.size,0,none⟩) 0 0)
  have h2:=more h1 (.cells #[] 45)
  simpa using h2
 have Y1':((w3.setCell ⟨w.heap.size,0,none⟩ (.slice (some ⟨w3.heap.size,0,none⟩) 0 0)).alloc (.cells #[] 45)).heap[w.heap.size+1]?=some (.cells #[.slice none 0 0,.int .i64 0,.int .i64 0,.slice none 0 0,.int .i64 0] 26):=more (other Y1 (by dsimp only;omega) _) _
 have HOw:=Hd (World.ownsRow_made (base:=w.heap.size+2) (e:=45) (size:=2) (w3.setCell ⟨w.heap.size,0,none⟩ (.slice (some ⟨w3.heap.size,0,none⟩) 0 0)) #[] 0 (by rw [sizeSet];omega) (Nat.zero_le _) rfl)
 rw [sizeSet] at HOw
 have HBk:=Hd (((Bk.of_below (r:=r) HK3.out).set (p:=⟨w.heap.size,0,none⟩) (.inr (Nat.le_refl _)) (.slice (some ⟨w3.heap.size,0,none⟩) 0 0)).alloc (.cells #[] 45))
 have HRd:=Hd ((HR3.out.set (p:=⟨w.heap.size,0,none⟩) (by dsimp only;omega) (.slice (some ⟨w3.heap.size,0,none⟩) 0 0)).alloc (.cells #[] 45))
 have HY:=Hd (And.intro Y0' Y1')
 clear Y0' Y1' Y0 Y1 x0 y0 HR3 HK3
 generalize (w3.setCell ⟨w.heap.size,0,none⟩ (.slice (some ⟨w3.heap.size,0,none⟩) 0 0)).alloc (.cells #[] 45)=W4 at HOw HBk HRd HY ⊢
 generalize Value.slice (some ⟨w3.heap.size,0,none⟩) 0 0=U0 at HOw HY ⊢
 go_wp2_with fail
 go_loopw [6] (fun o W=>∃ (k:Nat) (U:Value) (ps:List (Int × Int)),o=.int .i64 k∧k≤8∧ps.length=k∧Hid (OwnCol W (w.heap.size+2) U ps)∧Hid (Rd W r (B+k))∧Hid (Bk r w W)∧Hid (W.heap[w.heap.size]?=some (.cells #[U,.int .i64 t.head,.int .i64 t.foot,.slice ar t.rows.length cr,.int .i64 t.gap] 26))∧Hid (W.heap[w.heap.size+1]?=some (.cells #[.slice none 0 0,.int .i64 0,.int .i64 0,.slice none 0 0,.int .i64 0] 26))) (fun o _=>8 - (intOf o).toNat)
 case atStart=>exact ⟨0,U0,[],rfl,by omega,rfl,HOw,HRd,HBk,HY.out.1,HY.out.2⟩
 case round =>
  clear HOw HRd HBk HY
  obtain ⟨k,U,ps,rfl,hk,hpl,HO,HRd,HBk,HT,HZ⟩:=hrel
  have Hpl:=Hd hpl
  have hps:ps.length≤8:=by omega
  clear hpl
  by_cases hgo:(k:Int) < N∧(k:Int) < 8
  case pos =>
   obtain ⟨hg1,hg2⟩:=hgo
   go_upto_region 6 with fail
   have hrb:r < w.heap.size+2:=by omega
   have hwb:w.heap.size≤w.heap.size+2:=by omega
   have htr:r < w.heap.size:=hlt
   have htn:w.heap.size≤w.heap.size:=Nat.le_refl _
   have htb:w.heap.size ≠ r:=by omega
   have hbz:w.heap.size+2≤wr.heap.size:=by have:=(bL HZ.out);omega
   refine wp_region_inv2 (fun L act W=>∃ v21 v22 v23 v24 v25 v26 v27 v28:Value,act=⟨#[.pointer (some ⟨r,0,none⟩),.agg #[.slice ac t.cols.length cc,.int .i64 t.head,.int .i64 t.foot,.slice ar t.rows.length cr,.int .i64 t.gap],undef,.pointer (some ⟨w.heap.size,0,none⟩),.pointer (some ⟨w.heap.size+1,0,none⟩),.int .i64 N,.int .i64 (k:Int),.agg #[.slice ac t.cols.length cc,.int .i64 t.head,.int .i64 t.foot,.slice ar t.rows.length cr,.int .i64 t.gap],.agg #[.int .i64 (gOf t).rows,.int .i64 N,vg],.int .i64 N,U0,.pointer (some ⟨w.heap.size,0,none⟩),.int .i64 (k:Int),.int .i64 N,.bool true,.bool true,.int .i64 (k:Int),.bool true,.bool true,u19,u20,v21,v22,v23,v24,v25,v26,v27,v28,undef],[]⟩∧wr.heap.size≤W.heap.size∧W.heap[w.heap.size+1]?=some (.cells #[.slice none 0 0,.int .i64 0,.int .i64 0,.slice none 0 0,.int .i64 0] 26)∧AfJ w r (B+k) w.heap.size (w.heap.size+2) U ps.length (ps.flatMap colVs) t.head t.foot (.slice ar t.rows.length cr) t.gap L W v21 v22 v23 v24 v25 v26 v27 v28) (by kernel_rfl) (by kernel_rfl) ?hs ?hd ?h0
   case h0=>exact ⟨_,_,_,_,_,_,_,_,rfl,Nat.le_refl _,HZ.out,⟨(fun h=>by cases h),(fun h=>by cases h),(fun h=>by cases h),(fun h=>by cases h),(fun h=>by cases h),(fun h=>by cases h),(fun h=>by cases h),by rw [if_neg (by simp)];exact HRd.out.drew,HBk.out.drew,fun _=>HO.out,(fun h=>by cases h),fun _=>HT.out,(fun h=>by cases h)⟩⟩
   case hd =>
    intro L act W hJ hall
    obtain ⟨v21,v22,v23,v24,v25,v26,v27,v28,ha,_,hZ,J⟩:=hJ
    subst ha
    obtain ⟨x,hO⟩:=J.ownA (hall 6 (by decide))
    have hT:=J.tb1 (hall 8 (by decide))
    have hR:=J.rd
    rw [if_pos (hall 3 (by decide))] at hR
    have HO5:Hid (OwnCol W (w.heap.size+2) v27 (ps ++ [(1,x)])):=by unfold OwnCol;rw [Hid,List.length_append,List.flatMap_append];exact hO
    have HT5:=Hd hT
    have HR5:=Hd hR
    have HB5:=Hd J.bk
    have HZ5:=Hd hZ
    clear J hall hO hT hR hZ
    go_wp2
    go_roundw
    case rel=>exact ⟨k+1,v27,ps ++ [(1,x)],by go_num,by omega,by rw [List.length_append,Hpl.out];rfl,HO5,HR5,HB5,HT5,HZ5⟩
    case measure=>simp [intOf];omega
   case hs =>
    intro L act W i o hJ hcl ho hLi haft K hK0
    obtain ⟨v21,v22,v23,v24,v25,v26,v27,v28,ha,hsW,hZ,J⟩:=hJ
    subst ha
    have hbs:w.heap.size+2≤W.heap.size:=Nat.le_trans hbz hsW
    have hi':i < 9:=by
     have:=(bL ho)
     simpa using this
    rcases (by omega:i=0∨i=1∨i=2∨i=3∨i=4∨i=5∨i=6∨i=7∨i=8) with rfl | rfl | rfl | rfl | rfl | rfl | rfl | rfl | rfl
    all_goals
     simp only [List.getElem?_toArray,List.getElem?_cons_zero,List.getElem?_cons_succ,Option.some.injEq] at ho
     subst ho
     clear hi'
    ·skip
     go_simp
     exact hK0 _ _ ⟨_,_,_,_,_,_,_,_,rfl,hsW,(hZ),⟨(fun _=>rfl),(uq J.f1),(uq J.f2),(uq J.f3),(uq J.f4),(fun h=>by obtain ⟨g,x,e,c⟩:=J.f5 (un h);exact ⟨g,x,e,fun h2=>c (by rwa [upd_ne rfl] at h2)⟩),(uq J.f7),(by rw [upd_ne rfl];exact J.rd),(J.bk),(uq J.own),(uq J.ownA),(uq J.tb0),(uq J.tb1)⟩⟩
    ·skip
     obtain rfl:=J.f0 (haft ⟨0,.data⟩ (by simp) rfl)
     have hL8:L 8=false:=hcl 8 6 (by kernel_rfl) (hcl 6 1 (by kernel_rfl) hLi)
     have hc:=cellB (p:=0) (J.tb0 hL8)
     go_simp
     exact hK0 _ _ ⟨_,_,_,_,_,_,_,_,rfl,hsW,(hZ),⟨(uq J.f0),(fun _=>rfl),(uq J.f2),(uq J.f3),(uq J.f4),(fun h=>by obtain ⟨g,x,e,c⟩:=J.f5 (un h);exact ⟨g,x,e,fun h2=>c (by rwa [upd_ne rfl] at h2)⟩),(uq J.f7),(by rw [upd_ne rfl];exact J.rd),(J.bk),(uq J.own),(uq J.ownA),(uq J.tb0),(uq J.tb1)⟩⟩
    ·skip
     go_simp
     exact hK0 _ _ ⟨_,_,_,_,_,_,_,_,rfl,hsW,(hZ),⟨(uq J.f0),(uq J.f1),(fun _=>rfl),(uq J.f3),(uq J.f4),(fun h=>by obtain ⟨g,x,e,c⟩:=J.f5 (un h);exact ⟨g,x,e,fun h2=>c (by rwa [upd_ne rfl] at h2)⟩),(uq J.f7),(by rw [upd_ne rfl];exact J.rd),(J.bk),(uq J.own),(uq J.ownA),(uq J.tb0),(uq J.tb1)⟩⟩
    ·skip
     obtain rfl:=J.f2 (haft ⟨2,.data⟩ (by simp) rfl)
     have hL5:L 5=false:=hcl 5 4 (by kernel_rfl) (hcl 4 3 (by kernel_rfl) hLi)
     have hL6:L 6=false:=hcl 6 5 (by kernel_rfl) hL5
     have hL8:L 8=false:=hcl 8 6 (by kernel_rfl) hL6
     have hRd:=J.rd
     rw [if_neg (by rw [hLi];simp)] at hRd
     go_simp
     go_wp2_with (go_at_call 61;refine (pick_any r _ _ _ hRd (by omega)).mono ?_;rintro e W2 ⟨kk,rfl,_,hR,hb⟩)
     exact ⟨_,_,_,_,_,_,_,_,rfl,(Nat.le_trans hsW hb.size),((hb.block _ (bL hZ) (by omega)).trans hZ),⟨(uq J.f0),(uq J.f1),(uq J.f2),(fun _=>⟨kk,rfl⟩),(uq J.f4),(uf hL5),(uq J.f7),(by rw [upd_self,if_pos rfl];exact hR),(J.bk.trans hb),(fun _=>row_bk (J.own hL6) hb hrb),(uf hL6),(fun _=>(hb.block w.heap.size (Array.getElem?_eq_some_iff.1 (J.tb0 hL8)).1 htb).trans (J.tb0 hL8)),(uf hL8)⟩⟩
    ·skip
     obtain ⟨x,rfl⟩:=J.f3 (haft ⟨3,.data⟩ (by simp) rfl)
     go_simp
     exact hK0 _ _ ⟨_,_,_,_,_,_,_,_,rfl,hsW,(hZ),⟨(uq J.f0),(uq J.f1),(uq J.f2),(uq J.f3),(fun _=>⟨x,rfl⟩),(fun h=>by obtain ⟨g,x,e,c⟩:=J.f5 (un h);exact ⟨g,x,e,fun h2=>c (by rwa [upd_ne rfl] at h2)⟩),(uq J.f7),(by rw [upd_ne rfl];exact J.rd),(J.bk),(uq J.own),(uq J.ownA),(uq J.tb0),(uq J.tb1)⟩⟩
    ·skip
     obtain ⟨x,rfl⟩:=J.f4 (haft ⟨4,.data⟩ (by simp) rfl)
     go_simp
     exact hK0 _ _ ⟨_,_,_,_,_,_,_,_,rfl,(by simp;omega),((Below.heap_alloc _ _ _ (bL hZ)).trans hZ),⟨(uq J.f0),(uq J.f1),(uq J.f2),(uq J.f3),(uq J.f4),(fun _=>⟨W.heap.size,x,rfl,fun _=>newestB _ _⟩),(uq J.f7),(by rw [upd_ne rfl];exact J.rd.alloc _),(J.bk.alloc _),(fun h=>(J.own (un h)).alloc _),(fun h=>by obtain ⟨y,hO⟩:=J.ownA (un h);exact ⟨y,hO.alloc _⟩),(fun h=>(Below.heap_alloc _ _ _ (Array.getElem?_eq_some_iff.1 (J.tb0 (un h))).1).trans (J.tb0 (un h))),(fun h=>(Below.heap_alloc _ _ _ (Array.getElem?_eq_some_iff.1 (J.tb1 (un h))).1).trans (J.tb1 (un h)))⟩⟩
    ·skip
     obtain rfl:=J.f1 (haft ⟨1,.data⟩ (by simp) rfl)
     obtain ⟨g,x,rfl,hg⟩:=J.f5 (haft ⟨5,.data⟩ (by simp) rfl)
     have hL8:L 8=false:=hcl 8 6 (by kernel_rfl) hLi
     rw [if_pos (by rfl)]
     refine wp_append_own _ (.tmp 22) (.tmp 26) 23 rfl (w.heap.size+2) 45 i0 _ 2 16 Tryz.underlying23 hi0 hz0 hz1 hz2 rfl (by decide) _ ps.length (ps.flatMap colVs) rfl (J.own hLi) ⟨g,0,none⟩ 1 1 [.int .i64 1,.int .i64 x] rfl rfl (news_at (hg hLi)) (by simp [Value.oneCell']) (by unfold maxLen;omega) (by omega) hbs ?_
     intro v' W2 hown2 hg2 _
     exact hK0 _ _ ⟨_,_,_,_,_,_,_,_,rfl,(Nat.le_trans hsW hg2.size),(blk_grown hZ hg2 (fun e=>by have:=((J.own hLi).lt _ e.symm).1;omega)),⟨(uq J.f0),(uq J.f1),(uq J.f2),(uq J.f3),(uq J.f4),(fun h=>⟨g,x,rfl,fun h2=>by rw [upd_self] at h2;cases h2⟩),(uq J.f7),(by rw [upd_ne rfl];exact J.rd.grown hg2 (fun q hq=>Nat.lt_of_lt_of_le hrb ((J.own hLi).lt q hq).1)),(J.bk.grown hg2 (fun q hq=>Nat.le_trans hwb ((J.own hLi).lt q hq).1)),(fun h=>by rw [upd_self] at h;cases h),(fun _=>⟨x,hown2⟩),(fun _=>blk_grown (J.tb0 hL8) hg2 (ne_of_own (row_ne_block (J.own hLi) (J.tb0 hL8) (by decide)))),(uf hL8)⟩⟩
    ·skip
     go_simp
     exact hK0 _ _ ⟨_,_,_,_,_,_,_,_,rfl,hsW,(hZ),⟨(uq J.f0),(uq J.f1),(uq J.f2),(uq J.f3),(uq J.f4),(fun h=>by obtain ⟨g,x,e,c⟩:=J.f5 (un h);exact ⟨g,x,e,fun h2=>c (by rwa [upd_ne rfl] at h2)⟩),(fun _=>rfl),(by rw [upd_ne rfl];exact J.rd),(J.bk),(uq J.own),(uq J.ownA),(uq J.tb0),(uq J.tb1)⟩⟩
    ·skip
     have hTop:L 6=true:=(haft ⟨6,.data⟩ (by simp) rfl)
     obtain ⟨y,hO⟩:=J.ownA hTop
     obtain ⟨aa,cc,rfl,_⟩:=row_form hO
     obtain rfl:=J.f7 (haft ⟨7,.data⟩ (by simp) rfl)
     have hc:=cellB (p:=0) (J.tb0 hLi)
     have hf:W.frozen? ⟨w.heap.size,0,none⟩=false:=freeB (J.tb0 hLi)
     go_simp
     exact hK0 _ _ ⟨_,_,_,_,_,_,_,_,rfl,(by rw [sizeSet];exact hsW),((Below.heap_setCell _ _ _ _ (by dsimp only;omega)).trans hZ),⟨(uq J.f0),(uq J.f1),(uq J.f2),(uq J.f3),(uq J.f4),(fun h=>by obtain ⟨g,x,e,_⟩:=J.f5 (un h);exact ⟨g,x,e,fun h2=>by rw [upd_ne rfl,hTop] at h2;cases h2⟩),(uq J.f7),(by rw [upd_ne rfl];exact J.rd.set (p:=⟨w.heap.size,0,none⟩) htr _),(J.bk.set (p:=⟨w.heap.size,0,none⟩) (.inr htn) _),(fun h=>by rw [upd_ne rfl,hTop] at h;cases h),(fun _=>⟨y,row_set (p:=0) hO (J.tb0 hLi) (by decide) _⟩),(fun h=>by rw [upd_self] at h;cases h),(fun _=>(setB (J.tb0 hLi) (p:=0) _).trans (by simp))⟩⟩
  case neg =>
   have HF:=Hd hgo
   have htz:w.heap.size < wr.heap.size:=(bL HT.out)
   obtain ⟨aa,cq,rfl,_⟩:=row_form HO.out
   obtain ⟨⟨d0,d1,d2,d3,d4⟩,_⟩:=fiveZ HT.out
   obtain ⟨⟨x0,x1,x2,x3,x4⟩,y0,y1,y2,y3,y4⟩:=fiveZ HZ.out
   have HC5:=Hd ((HO.out.at).since (Since.st5a (z:=w.heap.size+2) (g:=w.heap.size+1) (by omega) (.slice aa ps.length cq) (.int .i64 t.head) (.int .i64 t.foot) (.slice ar t.rows.length cr) (.int .i64 t.gap)))
   have HB5:=Hd (HBk.out.via (st5_bk wr (w.heap.size+1) (.slice aa ps.length cq) (.int .i64 t.head) (.int .i64 t.foot) (.slice ar t.rows.length cr) (.int .i64 t.gap)) (by omega))
   have HR5:Hid (Rd (st5 wr (w.heap.size+1) (.slice aa ps.length cq) (.int .i64 t.head) (.int .i64 t.foot) (.slice ar t.rows.length cr) (.int .i64 t.gap)) r (B+8)):=(HRd.out.keep (fun q hq=>(st5_bk _ _ _ _ _ _ _).block q (by omega) (by omega))).mono (by omega)
   clear HO HRd HBk HT HZ
   by_cases h1:(k:Int) < N
   ·have h2:¬ (k:Int) < 8:=fun h=>HF.out ⟨h1,h⟩
    go_wp2
    exact bodyPost_ret (v:=.agg #[.slice aa ps.length cq,.int .i64 t.head,.int .i64 t.foot,.slice ar t.rows.length cr,.int .i64 t.gap]) (by simp [results,Tryz.results80,go_sem,x0,x1,x2,x3,x4]) rfl ⟨aa,cq,ps,rfl,hps,HC5.out.base (by omega),HR5.out,HB5.out⟩
   ·go_wp2
    exact bodyPost_ret (v:=.agg #[.slice aa ps.length cq,.int .i64 t.head,.int .i64 t.foot,.slice ar t.rows.length cr,.int .i64 t.gap]) (by simp [results,Tryz.results80,go_sem,x0,x1,x2,x3,x4]) rfl ⟨aa,cq,ps,rfl,hps,HC5.out.base (by omega),HR5.out,HB5.out⟩
theorem IsCode.keptD {w w':World} {a:Option Addr} {len cap:Nat} (h:IsCode w a len cap) (hb:Below w.heap.size w w'):IsCode w' a len cap:=by
 obtain ⟨h1,h2,hc⟩:=h
 refine ⟨h1,h2,fun i hi=>?_⟩
 obtain ⟨b,off,z,e,l,c,z0,z1⟩:=hc i hi
 exact ⟨b,off,z,e,Nat.lt_of_lt_of_le l hb.size,(hb.cell (p:=⟨b,off+i,none⟩) l).trans c,z0,z1⟩
theorem st5_is {w:World} {g:Nat} {x0 x1 x2 x3 x4:Value} {t:TypeId} (h:w.heap[g]?=some (.cells #[x0,x1,x2,x3,x4] t)) (y0 y1 y2 y3 y4:Value):(st5 w g y0 y1 y2 y3 y4).heap[g]?=some (.cells #[y0,y1,y2,y3,y4] t) :=
 (setB (setB (setB (setB (setB h (p:=0) y0) (p:=1) y1) (p:=2) y2) (p:=3) y3) (p:=4) y4).trans (by simp)
set_option maxRecDepth 100000 in
set_option maxHeartbeats 4000000 in
theorem l20Laid_any (r B:Nat) (w:World) (h:Rd w r B) (hB:B≤100) :
  Calls Tryz.prog 49 #[.pointer (some ⟨r,0,none⟩)] w fun e w'=>∃ (ac ar:Option Addr) (cc cr:Nat) (t:T) (x:Int),e=.returned (.tuple #[.agg #[.slice ac t.cols.length cc,.int .i64 t.head,.int .i64 t.foot,.slice ar t.rows.length cr,.int .i64 t.gap],.int .i64 x])∧Drawn t∧(-1≤x∧x≤301)∧ColsAt w' w.heap.size (.slice ac t.cols.length cc) t.cols∧RowsAt w' w.heap.size (.slice ar t.rows.length cr) t.rows∧Bk r w w':=by
 have hlt:=h.lt
 have HR0:=Hd (h.alloc (.cells #[.slice none 0 0,.int .i64 0,.int .i64 0,.slice none 0 0,.int .i64 0] 26))
 have X0:=newest w (.cells #[.slice none 0 0,.int .i64 0,.int .i64 0,.slice none 0 0,.int .i64 0] 26)
 have hs0:(w.alloc (.cells #[.slice none 0 0,.int .i64 0,.int .i64 0,.slice none 0 0,.int .i64 0] 26)).heap.size=w.heap.size+1:=by simp
 have K0:=(Bk.refl r w).alloc (.cells #[.slice none 0 0,.int .i64 0,.int .i64 0,.slice none 0 0,.int .i64 0] 26)
 clear h
 go_enter Tryz.func49,Tryz.ntmps49
 go_wp2_with fail
 refine (l20AnyTable_any r B 24 (by omega) _ HR0.out (by omega)).mono ?_
 rintro e w1 ⟨ac,ar,cc,cr,t,rfl,hD,hC1,hW1,hR1,hb1⟩
 rw [hs0] at hC1 hW1
 have X1:=(hb1.block w.heap.size (by omega) (by omega)).trans X0
 have hz1:=hb1.size
 have hlt1:=hR1.lt
 have hT2:=newest w1 (.cells #[.slice ac t.cols.length cc,.int .i64 t.head,.int .i64 t.foot,.slice ar t.rows.length cr,.int .i64 t.gap] 26)
 have hZ2:=more X1 (.cells #[.slice ac t.cols.length cc,.int .i64 t.head,.int .i64 t.foot,.slice ar t.rows.length cr,.int .i64 t.gap] 26)
 have hC2:=hC1.kept (k_alloc (Below.refl w1.heap.size w1) (.cells #[.slice ac t.cols.length cc,.int .i64 t.head,.int .i64 t.foot,.slice ar t.rows.length cr,.int .i64 t.gap] 26))
 have hW2:=hW1.kept (k_alloc (Below.refl w1.heap.size w1) (.cells #[.slice ac t.cols.length cc,.int .i64 t.head,.int .i64 t.foot,.slice ar t.rows.length cr,.int .i64 t.gap] 26))
 have hR2:=hR1.alloc (.cells #[.slice ac t.cols.length cc,.int .i64 t.head,.int .i64 t.foot,.slice ar t.rows.length cr,.int .i64 t.gap] 26)
 have hK2:=(K0.trans hb1).alloc (.cells #[.slice ac t.cols.length cc,.int .i64 t.head,.int .i64 t.foot,.slice ar t.rows.length cr,.int .i64 t.gap] 26)
 have hS2:Since (w.heap.size+1) w1 (w1.alloc (.cells #[.slice ac t.cols.length cc,.int .i64 t.head,.int .i64 t.foot,.slice ar t.rows.length cr,.int .i64 t.gap] 26)):=Since.of_below (k_alloc (Below.refl _ _) _)
 have HW1:=Hd hW1
 have htr:w1.heap.size ≠ r:=by omega
 have htn:w.heap.size < w1.heap.size:=by omega
 go_upto_region 2 with fail
 generalize w1.alloc (.cells #[.slice ac t.cols.length cc,.int .i64 t.head,.int .i64 t.foot,.slice ar t.rows.length cr,.int .i64 t.gap] 26)=W2 at hT2 hZ2 hC2 hW2 hR2 hK2 hS2 ⊢
 obtain ⟨tb,htb0⟩:∃ tb,tb=w1.heap.size:=⟨_,rfl⟩
 rw [← htb0] at hT2 htr htn ⊢
 have hs1:Since (w.heap.size+1) w1 W2:=hS2
 have htw:tb=w1.heap.size:=htb0
 clear hC1 hR1 hb1 X1 hz1 hlt1 X0 K0 HR0 hs0
 have HT2:=Hd hT2
 have HZ2:=Hd hZ2
 have HD:=Hd hD
 go_wp2_with fail
 refine (pick_any r _ _ _ hR2 (by omega)).mono ?_
 rintro e w3 ⟨k,rfl,_,hR3,hb3⟩
 have hz3:=hb3.size
 have HT:=Hd ((hb3.block tb (bL hT2) htr).trans hT2)
 have HZ:=Hd ((hb3.block w.heap.size (bL hZ2) (by omega)).trans hZ2)
 have hsn:Since (w.heap.size+1) W2 w3:=⟨hb3.size,fun q h1 h2=>hb3.block q h2 (by omega)⟩
 have HC:=Hd (hC2.since hsn)
 have HW:=Hd (hW2.since hsn)
 have HS3:=Hd (hs1.trans hsn)
 have Htw:=Hd htw
 clear htw htb0 hs1 hS2 hW1
 have HR:=Hd hR3
 have HK:=Hd (hK2.trans hb3)
 clear hT2 hZ2 hC2 hW2 hR2 hK2 hR3 hb3 hsn HT2 HZ2 hD
 by_cases h0:k=0
 case neg =>
  have hne:(k == 0)=false:=beq_eq_false_iff_ne.2 h0
  clear h0
  obtain ⟨W4,hW4⟩:∃ W4,W4=w3:=⟨_,rfl⟩
  subst hW4
  obtain ⟨⟨d0,d1,d2,d3,d4⟩,_⟩:=fiveZ HT.out
  have hR4:=HR.out.drew
  have hK4:=(Bk.refl r W4).drew
  have hlW:w.heap.size < W4.heap.size:=(bL HZ.out)
  go_upto_region 4 with fail
  go_region_with (first
   | (go_at_call 81;refine (l20Width_any r (B+3000+1) _ hR4 (by omega)).mono ?_;rintro e w6 ⟨x,rfl,hx,_,hb6⟩;have hb6':=hK4.trans hb6;have hTz:=(hb6'.block tb (bL HT.out) htr).trans HT.out;have hZz:=(hb6'.block w.heap.size hlW (by omega)).trans HZ.out;obtain ⟨⟨e0,e1,e2,e3,e4⟩,_⟩:=fiveZ hTz;obtain ⟨⟨x0,x1,x2,x3,x4⟩,y0,y1,y2,y3,y4⟩:=fiveZ hZz;have HX:=Hd hx;have HB6:=Hd hb6';clear hTz hZz hb6 hx hb6'))
  all_goals
   have hw6:=HB6.out.size
   have hsn:Since (w.heap.size+1) W4 w6:=⟨HB6.out.size,fun q h1 h2=>HB6.out.block q h2 (by omega)⟩
   have HC6:=Hd ((HC.out.since hsn).since (Since.st5a (z:=w.heap.size+1) (g:=w.heap.size) (by omega) (.slice ac t.cols.length cc) (.int .i64 t.head) (.int .i64 t.foot) (.slice ar t.rows.length cr) (.int .i64 t.gap)))
   have HW6:=Hd ((HW.out.since hsn).since (Since.st5a (z:=w.heap.size+1) (g:=w.heap.size) (by omega) (.slice ac t.cols.length cc) (.int .i64 t.head) (.int .i64 t.foot) (.slice ar t.rows.length cr) (.int .i64 t.gap)))
   have HK6:=Hd ((HK.out.trans HB6.out).via (st5_bk w6 w.heap.size (.slice ac t.cols.length cc) (.int .i64 t.head) (.int .i64 t.foot) (.slice ar t.rows.length cr) (.int .i64 t.gap)) (Nat.le_refl _))
   clear hsn
   go_wp2
   exact bodyPost_ret (v:=.tuple #[.agg #[.slice ac t.cols.length cc,.int .i64 t.head,.int .i64 t.foot,.slice ar t.rows.length cr,.int .i64 t.gap],.int .i64 x]) (by simp [results,Tryz.results49,go_sem,x0,x1,x2,x3,x4]) rfl ⟨ac,ar,cc,cr,t,x,rfl,HD.out,HX.out,HC6.out.base (by omega),HW6.out.base (by omega),HK6.out⟩
 case pos =>
  subst h0
  obtain ⟨⟨d0,d1,d2,d3,d4⟩,_⟩:=fiveZ HT.out
  go_wp2_with fail
  refine (l20AllFixed_any r _ ac ar cc cr t HD.out _ HR.out (by omega) HC.out HW.out).mono ?_
  rintro e w5 ⟨ad,cd,ps,rfl,hps,hC5,hR5,hb5⟩
  have hz5:=hb5.size
  have hw3:w.heap.size+1≤w3.heap.size:=by have:=(bL HT.out);omega
  have HT5:=Hd ((hb5.block tb (bL HT.out) htr).trans HT.out)
  have HZ5:=Hd ((hb5.block w.heap.size (bL HZ.out) (by omega)).trans HZ.out)
  have hW5:=HW.out.since (z:=w.heap.size+1) ⟨hb5.size,fun q h1 h2=>hb5.block q h2 (by omega)⟩
  obtain ⟨⟨q0,q1,q2,q3,q4⟩,p0,p1,p2,p3,p4⟩:=fiveZ HT5.out
  clear d0 d1 d2 d3 d4
  have hbq:=st5_bk w5 tb (.slice ad ps.length cd) (.int .i64 t.head) (.int .i64 t.foot) (.slice ar t.rows.length cr) (.int .i64 t.gap)
  have htb3:tb < w3.heap.size:=(bL HT.out)
  have hT6:=st5_is HT5.out (.slice ad ps.length cd) (.int .i64 t.head) (.int .i64 t.foot) (.slice ar t.rows.length cr) (.int .i64 t.gap)
  have hZ6:=(hbq.block w.heap.size (bL HZ5.out) (by omega)).trans HZ5.out
  have hC6:=(hC5.since (Since.st5a (z:=w3.heap.size) (g:=tb) htb3 (.slice ad ps.length cd) (.int .i64 t.head) (.int .i64 t.foot) (.slice ar t.rows.length cr) (.int .i64 t.gap))).base hw3
  have hW6:RowsAt (st5 w5 tb (.slice ad ps.length cd) (.int .i64 t.head) (.int .i64 t.foot) (.slice ar t.rows.length cr) (.int .i64 t.gap)) (w.heap.size+1) (.slice ar t.rows.length cr) t.rows :=
   HW1.out.since ⟨Nat.le_trans HS3.out.size (Nat.le_trans hb5.size hbq.size),fun q h1 h2=>(hbq.block q (by have:=HS3.out.size;omega) (by rw [Htw.out];omega)).trans ((hb5.block q (by have:=HS3.out.size;omega) (by omega)).trans (HS3.out.block q h1 h2))⟩
  have hR6:Rd (st5 w5 tb (.slice ad ps.length cd) (.int .i64 t.head) (.int .i64 t.foot) (.slice ar t.rows.length cr) (.int .i64 t.gap)) r (B+3000+1+8):=hR5.keep (fun q hq=>hbq.block q (by have:=hR5.lt;omega) (by omega))
  have hK6:=(HK.out.trans hb5).via hbq (by omega)
  have HDp:Hid (Drawn ⟨ps,t.head,t.foot,t.rows,t.gap⟩):=⟨HD.out.rows,by show ps.length≤9;omega,HD.out.head,HD.out.foot,HD.out.gap,HD.out.cells,HD.out.few⟩
  clear HT HZ HC HW HR HK HT5 HZ5 hW5 hC5 hR5 hb5 hbq HD HW1 HS3 Htw
  go_upto_region 4 with fail
  unfold st5 at hT6 hZ6 hC6 hW6 hR6 hK6
  generalize (((((w5.setCell ⟨tb,0,none⟩ (.slice ad ps.length cd)).setCell ⟨tb,1,none⟩ (.int .i64 t.head)).setCell ⟨tb,2,none⟩ (.int .i64 t.foot)).setCell ⟨tb,3,none⟩ (.slice ar t.rows.length cr)).setCell ⟨tb,4,none⟩ (.int .i64 t.gap))=W4 at hT6 hZ6 hC6 hW6 hR6 hK6 ⊢
  have HT:=Hd hT6
  have HZ:=Hd hZ6
  have HC:=Hd hC6
  have HW:=Hd hW6
  have HR:=Hd hR6
  have HK:=Hd hK6
  have HD:=HDp
  clear hT6 hZ6 hC6 hW6 hR6 hK6 HDp q0 q1 q2 q3 q4 p0 p1 p2 p3 p4
  obtain ⟨⟨d0,d1,d2,d3,d4⟩,_⟩:=fiveZ HT.out
  have hR4:=HR.out.drew
  have hK4:=(Bk.refl r W4).drew
  have hlW:w.heap.size < W4.heap.size:=(bL HZ.out)
  go_region_with (first
   | (go_at_call 81;refine (l20Width_any r (B+3000+1+8) _ hR4 (by omega)).mono ?_;rintro e w6 ⟨x,rfl,hx,_,hb6⟩;have hb6':=hK4.trans hb6;have hTz:=(hb6'.block tb (bL HT.out) htr).trans HT.out;have hZz:=(hb6'.block w.heap.size hlW (by omega)).trans HZ.out;obtain ⟨⟨e0,e1,e2,e3,e4⟩,_⟩:=fiveZ hTz;obtain ⟨⟨x0,x1,x2,x3,x4⟩,y0,y1,y2,y3,y4⟩:=fiveZ hZz;have HX:=Hd hx;have HB6:=Hd hb6';clear hTz hZz hb6 hx hb6'))
  all_goals
   have hw6:=HB6.out.size
   have hsn:Since (w.heap.size+1) W4 w6:=⟨HB6.out.size,fun q h1 h2=>HB6.out.block q h2 (by omega)⟩
   have HC6:=Hd ((HC.out.since hsn).since (Since.st5a (z:=w.heap.size+1) (g:=w.heap.size) (by omega) (.slice ad ps.length cd) (.int .i64 t.head) (.int .i64 t.foot) (.slice ar t.rows.length cr) (.int .i64 t.gap)))
   have HW6:=Hd ((HW.out.since hsn).since (Since.st5a (z:=w.heap.size+1) (g:=w.heap.size) (by omega) (.slice ad ps.length cd) (.int .i64 t.head) (.int .i64 t.foot) (.slice ar t.rows.length cr) (.int .i64 t.gap)))
   have HK6:=Hd ((HK.out.trans HB6.out).via (st5_bk w6 w.heap.size (.slice ad ps.length cd) (.int .i64 t.head) (.int .i64 t.foot) (.slice ar t.rows.length cr) (.int .i64 t.gap)) (Nat.le_refl _))
   clear hsn
   go_wp2
   exact bodyPost_ret (v:=.tuple #[.agg #[.slice ad ps.length cd,.int .i64 t.head,.int .i64 t.foot,.slice ar t.rows.length cr,.int .i64 t.gap],.int .i64 x]) (by simp [results,Tryz.results49,go_sem,x0,x1,x2,x3,x4]) rfl ⟨ad,ar,cd,cr,⟨ps,t.head,t.foot,t.rows,t.gap⟩,x,rfl,HD.out,HX.out,HC6.out.base (by omega),HW6.out.base (by omega),HK6.out⟩
set_option maxRecDepth 100000 in
set_option maxHeartbeats 1000000 in
theorem drawWidCols_any (a:Option Addr) (len cap:Nat) (w:World) (h:IsCode w a len cap) :
  Calls Tryz.prog 18 #[.slice a len cap] w fun e w'=>∃ (ac ar:Option Addr) (cc cr:Nat) (t:T) (x:Int),e=.returned (.tuple #[.agg #[.slice ac t.cols.length cc,.int .i64 t.head,.int .i64 t.foot,.slice ar t.rows.length cr,.int .i64 t.gap],.int .i64 x])∧Drawn t∧(-1≤x∧x≤301)∧ColsAt w' w.heap.size (.slice ac t.cols.length cc) t.cols∧RowsAt w' w.heap.size (.slice ar t.rows.length cr) t.rows∧Below w.heap.size w w':=by
 have K0:=k_alloc (Below.refl w.heap.size w) (.cells #[.slice none 0 0,.int .i64 0,.int .i64 0,.slice none 0 0,.int .i64 0] 26)
 have HC:=Hd (h.keptD K0)
 have X0:=newestB w (.cells #[.slice none 0 0,.int .i64 0,.int .i64 0,.slice none 0 0,.int .i64 0] 26)
 clear h
 have hsz:(w.alloc (.cells #[.slice none 0 0,.int .i64 0,.int .i64 0,.slice none 0 0,.int .i64 0] 26)).heap.size=w.heap.size+1:=by simp
 go_enter Tryz.func18,Tryz.ntmps18
 go_wp2_with fail
 refine (open_any _ _ _ _ HC.out).mono ?_
 rintro e w1 ⟨rfl,hR1,hb1⟩
 rw [hsz] at hR1 hb1
 have X1:=(hb1.block w.heap.size (by omega)).trans X0
 have K1:=k_trans K0 (by rw [hsz];exact hb1)
 have hz1:=hR1.lt
 go_wp2_with fail
 refine (l20Laid_any (w.heap.size+1) 0 _ hR1 (by omega)).mono ?_
 rintro e w2 ⟨ac,ar,cc,cr,t,x,rfl,hD,hx,hC2,hW2,hb2⟩
 have X2:=(hb2.block w.heap.size (by omega) (by omega)).trans X1
 have K2:=K1.trans (hb2.below (by omega) (by omega))
 have hz2:=hb2.size
 have hw1:w.heap.size+2≤w1.heap.size:=by omega
 have HC3:=Hd ((hC2.base hw1).since (Since.st5a (z:=w.heap.size+2) (g:=w.heap.size) (by omega) (.slice ac t.cols.length cc) (.int .i64 t.head) (.int .i64 t.foot) (.slice ar t.rows.length cr) (.int .i64 t.gap)))
 have HW3:=Hd ((hW2.base hw1).since (Since.st5a (z:=w.heap.size+2) (g:=w.heap.size) (by omega) (.slice ac t.cols.length cc) (.int .i64 t.head) (.int .i64 t.foot) (.slice ar t.rows.length cr) (.int .i64 t.gap)))
 have K3:=Hd (K2.trans ((st5_bk w2 w.heap.size (.slice ac t.cols.length cc) (.int .i64 t.head) (.int .i64 t.foot) (.slice ar t.rows.length cr) (.int .i64 t.gap)).below (by omega) (Nat.le_refl _)))
 have HD:=Hd hD
 obtain ⟨⟨x0,x1,x2,x3,x4⟩,y0,y1,y2,y3,y4⟩:=fiveZ X2
 clear hC2 hW2 hb2 X2 X1 X0 K0 K1 K2 hD HC hR1 hb1
 go_wp2
 exact bodyPost_ret (v:=.tuple #[.agg #[.slice ac t.cols.length cc,.int .i64 t.head,.int .i64 t.foot,.slice ar t.rows.length cr,.int .i64 t.gap],.int .i64 x]) (by simp [results,Tryz.results18,go_sem,x0,x1,x2,x3,x4]) rfl ⟨ac,ar,cc,cr,t,x,rfl,HD.out,hx,HC3.out.base (by omega),HW3.out.base (by omega),K3.out⟩
end Go.Proofs.YtggmjiddadjilaeGreat
