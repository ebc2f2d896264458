/-
  PROVED HERE: a region that draws its order, whose own operations only read and whose callees turn nothing that was in memory, may be walked once, in its text's order. Also: the laws' own pwRow and pwTable say true of two rows, and of two tables, in memory that are the same; nothing that was in memory is turned. Also: the laws' own pwOk says true; nothing in memory is turned. Also: what the drawing reader's l20Open and pick answer: a reader over the code; a number from 0 to n - 1; of what was in memory nothing is turned but the reader's own place. Also: a region that draws its order may be walked by what holds between two of its operations, whichever have been carried out.
-/
import Derived.Test.YtggmjiddadjilajC1
import Derived.Test.YtggmjiddadjilajC3
import Derived.Test.YtggmjiddadjilajC2
import Derived.Test.YtggmjiddadjilajC5
import Derived.Deep.QuietTactic
import Derived.BigQuiet
import Derived.Deep.RegionWith
import Derived.Deep.Cut
import Derived.WalkLawsBesides
import Derived.WalkSpells
import Derived.Laws.BitsAllLaws
import Derived.RegionTactic
import Derived.Lib.SmallJoins
import Derived.OpenShut
import Derived.Orders
namespace Go.Proofs.Ytggmjiddadjilaj
open Go.RowKit

/-- a world in which what was in memory is as it was -/
structure BW (w:World) where
 u:World
 h:Below w.heap.size w u
theorem bw_some (w:World):Nonempty (BW w):=⟨⟨w,Below.refl _ _⟩⟩
theorem wp_region_quiet_below {P:Program} {id:Nat} {Q:Exit→Act→World→Prop} {a:Act} {w:World} {l:List Oper} (hm:P.follows .mixedOrders=true) (hB:Region.lexB .any l.toArray=true)
  (h:wpQuiet P l.toArray (fun w'=>∃ p:BW w,w'=p.u) (fun a'=>∀ w',(∃ p:BW w,w'=p.u)→Q .normal a' w') l a):(Code.region id l.toArray true).wp P Q a w :=
 wp_region_quiet (C:=fun w'=>∃ p:BW w,w'=p.u) hm hB ⟨⟨_,k_drew (Below.refl _ _)⟩,rfl⟩ (by simpa using h)
theorem bw_of {P:Program} {f:FuncId} {args:Array Value} {w:World} {p:BW w} {v:Value} (h:Calls P f args p.u fun e w'=>e=.returned v∧Below p.u.heap.size p.u w') :
  Calls P f args p.u fun e w''=>e=.returned v∧∃ p:BW w,w''=p.u :=
 h.mono fun _ _ ⟨he,hb⟩=>⟨he,⟨_,k_trans p.h hb⟩,rfl⟩
theorem bw_cell {w:World} {a:Addr} {v:Value} (hb:a.block < w.heap.size) (h:w.cell? a=some v) (p:BW w):p.u.cell? a=some v:=(p.h.cell hb).trans h
end Go.Proofs.Ytggmjiddadjilaj
namespace Go.Proofs.Ytggmjiddadjilaj
open Go.RowKit Go.BigFrame

set_option maxRecDepth 100000 in
set_option maxHeartbeats 2000000 in
theorem pwRow_same (u1 u2:Value) (cs:List C) (q:Bool) (w:World) {z1 z2:Nat} (h1:CellsAt w z1 u1 cs) (h2:CellsAt w z2 u2 cs) :
  Calls Try.prog 54 #[.agg #[u1,.bool q],.agg #[u2,.bool q]] w fun e w'=>e=.returned (.bool true)∧Below w.heap.size w w':=by
 obtain ⟨a1,cap1,rfl,hlen⟩:=At.form h1
 obtain ⟨a2,cap2,rfl,_⟩:=At.form h2
 unfold maxLen at hlen
 have hne:((cs.length:Int) != (cs.length:Int))=false:=by simp
 have hqq:(q != q)=false:=by simp
 have K0:=k_alloc (k_alloc (Below.refl w.heap.size w) (.cells #[.slice a1 cs.length cap1,.bool q] 52)) (.cells #[.slice a2 cs.length cap2,.bool q] 52)
 have H1:=Hid.intro (h1.kept K0)
 have H2:=Hid.intro (h2.kept K0)
 have HK:=Hid.intro K0
 clear h1 h2 K0
 go_enter Try.func54,Try.ntmps54
 go_wp2_with fail
 generalize hW:(w.alloc (.cells #[.slice a1 cs.length cap1,.bool q] 52)).alloc (.cells #[.slice a2 cs.length cap2,.bool q] 52)=W0 at H1 H2 HK
 have y1:W0.cell? ⟨w.heap.size,0,none⟩=some (.slice a1 cs.length cap1):=by rw [← hW];exact cellB ((Below.heap_alloc _ _ _ (by simp)).trans (newestB _ _))
 have y2:W0.cell? ⟨w.heap.size+1,0,none⟩=some (.slice a2 cs.length cap2):=by
  have h:=newestB (w.alloc (.cells #[.slice a1 cs.length cap1,.bool q] 52)) (.cells #[.slice a2 cs.length cap2,.bool q] 52)
  rw [hW] at h
  exact cellB (by simpa using h)
 go_loopw [5] (fun i W=>∃ k n:Nat,k≤cs.length∧i=.int .i64 k∧W=W0.drewN n) (fun i _=>cs.length - (intOf i).toNat)
 case atStart=>exact ⟨0,0,Nat.zero_le _,rfl,hW ▸ rfl⟩
 case round =>
  obtain ⟨k,nd,hk,rfl,rfl⟩:=hrel
  by_cases hlt:k < cs.length
  ·obtain ⟨b1,off1,cap1',e1,hc11,hc12,hbl1,x0,_⟩:=At.get H1.out hlt
   simp only [Value.slice.injEq,true_and] at e1
   obtain ⟨rfl,rfl⟩:=e1
   obtain ⟨b2,off2,cap2',e2,hc21,hc22,hbl2,z0,_⟩:=At.get H2.out hlt
   simp only [Value.slice.injEq,true_and] at e2
   obtain ⟨rfl,rfl⟩:=e2
   unfold maxLen at hc12 hc22
   generalize cs.getD k dC=x at x0 z0
   obtain ⟨x0,x1,x2,x3,x4,x5,x6,x7,x8,x9,x10⟩:=x0
   obtain ⟨z0,z1,z2,z3,z4,z5,z6,z7,z8,z9,z10⟩:=z0
   go_wp2_with fail
   go_quiet (fail)
   go_wp2
   go_roundw
   case rel=>exact ⟨k+1,nd+nq,by omega,by go_num,rfl⟩
   case measure=>simp [intOf];omega
  ·go_wp2
   go_ret
   exact ⟨rfl,k_drewN HK.out _⟩
set_option maxRecDepth 100000 in
set_option maxHeartbeats 4000000 in
theorem pwTable_same (v1 v2:Value) (t:T) (w:World) {z1 z2:Nat} (h1:TblAt w z1 v1 t) (h2:TblAt w z2 v2 t) :
  Calls Try.prog 16 #[v1,v2] w fun e w'=>e=.returned (.bool true)∧Below w.heap.size w w':=by
 obtain ⟨vc1,vr1,rfl,h1c,h1r⟩:=h1
 obtain ⟨vc2,vr2,rfl,h2c,h2r⟩:=h2
 obtain ⟨ac1,cc1,rfl,hl1⟩:=At.form h1c
 obtain ⟨ar1,cr1,rfl,hl2⟩:=At.form h1r
 obtain ⟨ac2,cc2,rfl,_⟩:=At.form h2c
 obtain ⟨ar2,cr2,rfl,_⟩:=At.form h2r
 unfold maxLen at hl1 hl2
 have hmx:Try.prog.follows .mixedOrders=true:=by kernel_rfl
 have hh:(t.head != t.head)=false:=by simp
 have hf:(t.foot != t.foot)=false:=by simp
 have hg:(t.gap != t.gap)=false:=by simp
 have hn1:((t.cols.length:Int) != (t.cols.length:Int))=false:=by simp
 have hn2:((t.rows.length:Int) != (t.rows.length:Int))=false:=by simp
 have K0:=k_alloc (k_alloc (Below.refl w.heap.size w) (.cells #[.slice ac1 t.cols.length cc1,.int .i64 t.head,.int .i64 t.foot,.slice ar1 t.rows.length cr1,.int .i64 t.gap] 37)) (.cells #[.slice ac2 t.cols.length cc2,.int .i64 t.head,.int .i64 t.foot,.slice ar2 t.rows.length cr2,.int .i64 t.gap] 37)
 have HC1:=Hid.intro (h1c.kept K0)
 have HC2:=Hid.intro (h2c.kept K0)
 have HR1:=Hid.intro (h1r.kept K0)
 have HR2:=Hid.intro (h2r.kept K0)
 have HK:=Hid.intro K0
 clear h1c h2c h1r h2r K0
 go_enter Try.func16,Try.ntmps16
 go_wp2_with fail
 generalize hW:(w.alloc (.cells #[.slice ac1 t.cols.length cc1,.int .i64 t.head,.int .i64 t.foot,.slice ar1 t.rows.length cr1,.int .i64 t.gap] 37)).alloc (.cells #[.slice ac2 t.cols.length cc2,.int .i64 t.head,.int .i64 t.foot,.slice ar2 t.rows.length cr2,.int .i64 t.gap] 37)=W0 at HC1 HC2 HR1 HR2 HK
 have Y1:Hid (W0.heap[w.heap.size]?=some (.cells #[.slice ac1 t.cols.length cc1,.int .i64 t.head,.int .i64 t.foot,.slice ar1 t.rows.length cr1,.int .i64 t.gap] 37)):=by
  show _=_
  rw [← hW]
  exact (Below.heap_alloc _ _ _ (by simp)).trans (newestB _ _)
 have Y2:Hid (W0.heap[w.heap.size+1]?=some (.cells #[.slice ac2 t.cols.length cc2,.int .i64 t.head,.int .i64 t.foot,.slice ar2 t.rows.length cr2,.int .i64 t.gap] 37)):=by
  have h:=newestB (w.alloc (.cells #[.slice ac1 t.cols.length cc1,.int .i64 t.head,.int .i64 t.foot,.slice ar1 t.rows.length cr1,.int .i64 t.gap] 37)) (.cells #[.slice ac2 t.cols.length cc2,.int .i64 t.head,.int .i64 t.foot,.slice ar2 t.rows.length cr2,.int .i64 t.gap] 37)
  rw [hW] at h
  show _=_
  simpa using h
 go_loopw [5] (fun i W=>∃ k:Nat,k≤t.cols.length∧i=.int .i64 k∧Hid (Below W0.heap.size W0 W)) (fun i _=>t.cols.length - (intOf i).toNat)
 case atStart=>exact ⟨0,Nat.zero_le _,rfl,hW ▸ Below.refl _ _⟩
 case round =>
  obtain ⟨k,hk,rfl,HB⟩:=hrel
  obtain ⟨p0,p1,p2,p3,p4⟩:=fiveO ((HB.out.block _ (Array.getElem?_eq_some_iff.1 Y1.out).1).trans Y1.out)
  obtain ⟨r0,r1,r2,r3,r4⟩:=fiveO ((HB.out.block _ (Array.getElem?_eq_some_iff.1 Y2.out).1).trans Y2.out)
  by_cases hlt:k < t.cols.length
  ·obtain ⟨b1,off1,cap1',e1,hc11,hc12,hbl1,x0,x1⟩:=At.get (HC1.out.kept HB.out) hlt
   simp only [Value.slice.injEq,true_and] at e1
   obtain ⟨rfl,rfl⟩:=e1
   obtain ⟨b2,off2,cap2',e2,hc21,hc22,hbl2,z0,z1⟩:=At.get (HC2.out.kept HB.out) hlt
   simp only [Value.slice.injEq,true_and] at e2
   obtain ⟨rfl,rfl⟩:=e2
   unfold maxLen at hc12 hc22
   generalize t.cols.getD k (0,0)=x at x0 x1 z0 z1
   go_wp2_with fail
   go_quiet (fail)
   go_wp2
   go_roundw
   case rel=>exact ⟨k+1,by omega,by go_num,k_drewN HB.out _⟩
   case measure=>simp [intOf];omega
  ·go_wp2_with fail
   go_loopw [6] (fun i W=>∃ k:Nat,k≤t.rows.length∧i=.int .i64 k∧Hid (Below W0.heap.size W0 W)) (fun i _=>t.rows.length - (intOf i).toNat)
   case atStart=>exact ⟨0,Nat.zero_le _,rfl,HB⟩
   case round =>
    clear p0 p1 p2 p3 p4 r0 r1 r2 r3 r4 hlt hk HB
    rename World=>wr
    obtain ⟨k,hk,rfl,HB⟩:=hrel
    have HY1:=(HB.out.block _ (Array.getElem?_eq_some_iff.1 Y1.out).1).trans Y1.out
    have HY2:=(HB.out.block _ (Array.getElem?_eq_some_iff.1 Y2.out).1).trans Y2.out
    by_cases hlt:k < t.rows.length
    ·obtain ⟨b1,off1,cap1',e1,hc11,hc12,hbl1,u1,x0,x1,x2⟩:=At.get (HR1.out.kept HB.out) hlt
     simp only [Value.slice.injEq,true_and] at e1
     obtain ⟨rfl,rfl⟩:=e1
     obtain ⟨b2,off2,cap2',e2,hc21,hc22,hbl2,u2,z0,z1,z2⟩:=At.get (HR2.out.kept HB.out) hlt
     simp only [Value.slice.injEq,true_and] at e2
     obtain ⟨rfl,rfl⟩:=e2
     unfold maxLen at hc12 hc22
     generalize t.rows.getD k dR=x at x1 x2 z1 z2
     obtain ⟨c1,d1,rfl,_⟩:=At.form x2
     obtain ⟨c2,d2,rfl,_⟩:=At.form z2
     have X2:=Hid.intro x2
     have Z2:=Hid.intro z2
     clear x2 z2
     have l1:=(Array.getElem?_eq_some_iff.1 HY1).1
     have l2:=(Array.getElem?_eq_some_iff.1 HY2).1
     obtain ⟨p0,p1,p2,p3,p4⟩:=fiveO HY1
     obtain ⟨r0,r1,r2,r3,r4⟩:=fiveO HY2
     have KR:=Hid.intro (fun (p:BW wr)=>bw_of (pwRow_same (.slice c1 x.cells.length d1) (.slice c2 x.cells.length d2) x.cells x.whole p.u (X2.out.kept p.h) (Z2.out.kept p.h)))
     go_upto_region 11 with fail
     have m3:=bw_cell (a:=⟨w.heap.size,3,none⟩) l1 p3
     have n3:=bw_cell (a:=⟨w.heap.size+1,3,none⟩) l2 r3
     have m5:=bw_cell hbl1 x0
     have m6:=bw_cell hbl1 x1
     have n5:=bw_cell hbl2 z0
     have n6:=bw_cell hbl2 z1
     have hne:=bw_some wr
     clear p0 p1 p2 p3 p4 r0 r1 r2 r3 r4 x0 x1 z0 z1
     refine wp_region_quiet_below hmx (by kernel_rfl) ?_
     repeat (go_big_quiet_step (first | (go_at_call 54;refine KR.out _)))
     refine wpQuiet_nil ?_
     intro W9 hw'
     obtain ⟨⟨Wx,hW9⟩,hw''⟩:=hw'
     subst hw''
     have HB9:=Hid.intro (k_trans HB.out hW9)
     clear m3 n3 m5 m6 n5 n6 hne KR hW9
     go_wp2
     go_roundw
     case rel=>exact ⟨k+1,by omega,by go_num,HB9⟩
     case measure=>simp [intOf];omega
    ·obtain ⟨p0,p1,p2,p3,p4⟩:=fiveO HY1
     go_wp2
     go_ret
     exact ⟨rfl,k_trans HK.out HB.out⟩
end Go.Proofs.Ytggmjiddadjilaj
namespace Go.Proofs.Ytggmjiddadjilaj
open Go.RowKit

theorem abcOk:txtOkB ⟨#[97,98,32,99]⟩=true:=by decide +kernel
theorem pwOk_any (w:World):Calls Try.prog 12 #[] w fun e w'=>e=.returned (.bool true)∧w'=w:=by
 go_enter Try.func12,Try.ntmps12
 go_wp2_with fail
 refine (implTxtOk _ _ (by unfold maxLen;decide)).mono ?_
 rw [abcOk]
 rintro e w1 ⟨rfl,rfl⟩
 go_wp2
 go_ret
 exact ⟨rfl,rfl⟩
end Go.Proofs.Ytggmjiddadjilaj
namespace Go.Proofs.Ytggmjiddadjilaj
open Go.RowKit

/-- A reader at block r: over a code of at most 2000 bytes; at most B numbers have been picked. -/
def Rd (w:World) (r B:Nat):Prop :=
 ∃ (a:Option Addr) (len cap p:Nat),p≤B∧len≤2000∧w.heap[r]?=some (.cells #[.slice a len cap,.int .i64 p] 98) ∧
  ∀ i,i < len→∃ (b off:Nat) (z:Int),a=some ⟨b,off,none⟩∧b < r∧w.cell? ⟨b,off+i,none⟩=some (.int .u8 z)∧0≤z∧z≤255

theorem Rd.lt {w:World} {r B:Nat} (h:Rd w r B):r < w.heap.size:=by
 obtain ⟨a,len,cap,p,_,_,hb,_⟩:=h
 exact (Array.getElem?_eq_some_iff.1 hb).1
theorem Rd.mono {w:World} {r B B':Nat} (h:Rd w r B) (hB:B≤B'):Rd w r B':=by
 obtain ⟨a,len,cap,p,h1,h⟩:=h
 exact ⟨a,len,cap,p,by omega,h⟩
/-- A reader stays one where its own block and all older ones stay. -/
theorem Rd.kept {w w':World} {r B:Nat} (h:Rd w r B) (hb:Below w.heap.size w w'):Rd w' r B:=by
 have hlt:=h.lt
 obtain ⟨a,len,cap,p,h1,h2,hk,hc⟩:=h
 refine ⟨a,len,cap,p,h1,h2,(hb.block r hlt).trans hk,fun i hi=>?_⟩
 obtain ⟨b,off,z,e,l,c,z0,z1⟩:=hc i hi
 exact ⟨b,off,z,e,l,(hb.cell (p:=⟨b,off+i,none⟩) (Nat.lt_trans l hlt)).trans c,z0,z1⟩
/-- .. where its own block and all ahead of it stay. -/
theorem Rd.keep {w w':World} {r B:Nat} (h:Rd w r B) (hk:∀ k,k≤r→w'.heap[k]?=w.heap[k]?):Rd w' r B:=by
 obtain ⟨a,len,cap,p,h1,h2,hb,hc⟩:=h
 refine ⟨a,len,cap,p,h1,h2,(hk r (Nat.le_refl _)).trans hb,fun i hi=>?_⟩
 obtain ⟨b,off,z,e,l,c,z0,z1⟩:=hc i hi
 exact ⟨b,off,z,e,l,(World.cell?_of_block (w:=w) (a:=⟨b,off+i,none⟩) (hk b (Nat.le_of_lt l))).trans c,z0,z1⟩
theorem Rd.alloc {w:World} {r B:Nat} (h:Rd w r B) (o:Obj):Rd (w.alloc o) r B:=h.kept (k_alloc (Below.refl _ _) _)
theorem Rd.set {w:World} {r B:Nat} (h:Rd w r B) {p:Addr} (hp:r < p.block) (u:Value):Rd (w.setCell p u) r B:=h.keep (fun _ hk=>Below.heap_setCell _ _ _ _ (by omega))
theorem Rd.drew {w:World} {r B:Nat} (h:Rd w r B):Rd w.drew r B:=h.kept (k_drew (Below.refl _ _))

/-- within 0 .. n - 1, where there is such a number -/
def InR (n k:Int):Prop:=1≤n→0≤k∧k < n

theorem i64_xor_nonneg (a b:Int) (h1:0≤a) (h2:a < 4611686018427387904) (h3:0≤b) (h4:b < 4611686018427387904):0≤bits .xor .i64 a b:=by
 obtain ⟨A,rfl⟩:=Int.eq_ofNat_of_zero_le h1
 obtain ⟨B,rfl⟩:=Int.eq_ofNat_of_zero_le h3
 have hx:A ^^^ B < 2 ^ 62:=Nat.xor_lt_two_pow (by omega) (by omega)
 have e:bits .xor .i64 (A:Int) (B:Int)=IntKind.i64.wrap ((BitVec.ofInt 64 (A:Int) ^^^ BitVec.ofInt 64 (B:Int)).toNat:Int):=rfl
 rw [e,BitVec.toNat_xor,ofInt_u64 A (by omega),ofInt_u64 B (by omega)]
 simp [IntKind.wrap,IntKind.bits,IntKind.signed]
 omega

theorem wrap64_in {x:Int} (h1:0≤x) (h2:x < 4611686018427387904):wrap64 x=x:=by unfold wrap64;omega
theorem pick_math (n z y:Int) (p len:Nat) (hn:1≤n) (hp:p≤1000000) (z0:0≤z) (z1:z≤255) (y0:0≤y) (y1:y≤255) :
  InR n ((bits BinOp.xor IntKind.i64 (wrap64 (z * 131+y * 1117+(p:Int) * 29+wrap64 (wrap64 ((p:Int) / (len:Int)) * 53)))
   (wrap64 ((wrap64 (z * 131+y * 1117+(p:Int) * 29+wrap64 (wrap64 ((p:Int) / (len:Int)) * 53))).tdiv 64))).tmod n):=by
 have q0:0≤(p:Int) / (len:Int):=Int.ediv_nonneg (by omega) (by omega)
 have q1:(p:Int) / (len:Int)≤p:=Int.ediv_le_self _ (by omega)
 generalize (p:Int) / (len:Int)=q at q0 q1 ⊢
 rw [wrap64_in q0 (by omega),wrap64_in (x:=q * 53) (by omega) (by omega),wrap64_in (x:=z * 131+y * 1117+(p:Int) * 29+q * 53) (by omega) (by omega)]
 have X0:0≤z * 131+y * 1117+(p:Int) * 29+q * 53:=by omega
 have X1:z * 131+y * 1117+(p:Int) * 29+q * 53 < 4611686018427387904:=by omega
 generalize z * 131+y * 1117+(p:Int) * 29+q * 53=X at X0 X1 ⊢
 rw [Int.tdiv_eq_ediv_of_nonneg X0,wrap64_in (x:=X / 64) (by omega) (by omega)]
 have hx:=i64_xor_nonneg X (X / 64) X0 X1 (by omega) (by omega)
 generalize bits BinOp.xor IntKind.i64 X (X / 64)=Y at hx ⊢
 intro _
 rw [Int.tmod_eq_emod_of_nonneg hx]
 exact ⟨Int.emod_nonneg _ (by omega),Int.emod_lt_of_pos _ (by omega)⟩

theorem rd_next {w:World} {r B:Nat} {a:Option Addr} {len cap p:Nat} (hp:p≤B) (hl:len≤2000) (hk:w.heap[r]?=some (.cells #[.slice a len cap,.int .i64 p] 98))
  (hc:∀ i,i < len→∃ (b off:Nat) (z:Int),a=some ⟨b,off,none⟩∧b < r∧w.cell? ⟨b,off+i,none⟩=some (.int .u8 z)∧0≤z∧z≤255) :
  Rd (w.setCell ⟨r,1,none⟩ (.int .i64 ((p:Int)+1))) r (B+1)∧Bk r w (w.setCell ⟨r,1,none⟩ (.int .i64 ((p:Int)+1))):=by
 have bk:Bk r w (w.setCell ⟨r,1,none⟩ (.int .i64 ((p:Int)+1))):=(Bk.refl r w).set (Or.inl rfl) _
 refine ⟨⟨a,len,cap,p+1,by omega,hl,?_,fun i hi=>?_⟩,bk⟩
 ·rw [Joins.block_setCell hk]
  simp
 ·obtain ⟨b,off,z,e,l,c,z0,z1⟩:=hc i hi
  exact ⟨b,off,z,e,l,(bk.cell (p:=⟨b,off+i,none⟩) (Nat.lt_trans l (Array.getElem?_eq_some_iff.1 hk).1) (Nat.ne_of_lt l)).trans c,z0,z1⟩
theorem Rd.draws {w:World} {r B:Nat} (h:Rd w r B) (n:Nat):Rd (w.drewN n) r B:=h.kept (k_drewN (Below.refl _ _) n)

set_option maxRecDepth 100000 in
set_option maxHeartbeats 1000000 in
theorem pick_any (r B:Nat) (n:Int) (w:World) (h:Rd w r B) (hB:B≤1000000) :
  Calls Try.prog 34 #[.pointer (some ⟨r,0,none⟩),.int .i64 n] w fun e w'=>∃ k:Int,e=.returned (.int .i64 k)∧InR n k∧Rd w' r (B+1)∧Bk r w w':=by
 have hlt:=h.lt
 obtain ⟨a,len,cap,p,hp,hl,hk,hc⟩:=h
 have c0:w.cell? ⟨r,0,none⟩=some (.slice a len cap):=by simp [World.cell?,hk]
 have c1:w.cell? ⟨r,1,none⟩=some (.int .i64 p):=by simp [World.cell?,hk]
 have f1:w.frozen? ⟨r,1,none⟩=false:=by simp [World.frozen?,hk]
 obtain ⟨N1,N2⟩:=rd_next hp hl hk hc
 have HN1:Hid (Rd (w.setCell ⟨r,1,none⟩ (.int .i64 ((p:Int)+1))) r (B+1)):=N1
 have HN2:Hid (Bk r w (w.setCell ⟨r,1,none⟩ (.int .i64 ((p:Int)+1)))):=N2
 clear N1 N2 hk
 by_cases hn:n < 1
 ·as_aux_lemma =>
   clear hc
   go_enter Try.func34,Try.ntmps34
   go_wp2
   go_ret
   exact ⟨0,rfl,fun h=>absurd h (by omega),HN1.out,HN2.out⟩
 by_cases hz:len=0
 ·as_aux_lemma =>
   have hz':((len:Int) == 0)=true:=beq_iff_eq.2 (by omega)
   clear hc hz
   go_enter Try.func34,Try.ntmps34
   go_wp2
   go_ret
   exact ⟨0,rfl,fun h=>by omega,HN1.out,HN2.out⟩
 have hz':((len:Int) == 0)=false:=beq_eq_false_iff_ne.2 (by omega)
 have hn1:1≤n:=by omega
 by_cases hpl:p < len
 ·as_aux_lemma =>
   obtain ⟨b,off,z,rfl,hbr0,hcz,hz0,hz1⟩:=hc p hpl
   have hbr:b ≠ r:=by omega
   have hbl:b < w.heap.size:=by omega
   have c2:∀ v,(w.setCell ⟨r,1,none⟩ v).cell? ⟨b,off+p,none⟩=some (.int .u8 z):=fun v=>((Bk.refl r w).set (p:=⟨r,1,none⟩) (Or.inl rfl) v).cell (p:=⟨b,off+p,none⟩) hbl hbr |>.trans hcz
   clear hc hcz hz hbl
   go_enter Try.func34,Try.ntmps34
   go_wp2
   go_ret
   exact ⟨_,rfl,fun _=>⟨Int.emod_nonneg _ (by omega),Int.emod_lt_of_pos _ (by omega)⟩,HN1.out,HN2.out⟩
 ·as_aux_lemma =>
   have hm1:p % len < len:=Nat.mod_lt _ (by omega)
   have hm2:(p * 7+3) % len < len:=Nat.mod_lt _ (by omega)
   obtain ⟨b,off,z,rfl,hbr0,hcz,hz0,hz1⟩:=hc _ hm1
   have hbr:b ≠ r:=by omega
   have hbl:b < w.heap.size:=by omega
   obtain ⟨b',off',y,e',hbr',hcy,hy0,hy1⟩:=hc _ hm2
   simp only [Option.some.injEq,Addr.mk.injEq] at e'
   obtain ⟨rfl,rfl,_⟩:=e'
   have c2:∀ v,(w.setCell ⟨r,1,none⟩ v).cell? ⟨b,off+p % len,none⟩=some (.int .u8 z):=fun v=>((Bk.refl r w).set (p:=⟨r,1,none⟩) (Or.inl rfl) v).cell (p:=⟨b,off+p % len,none⟩) hbl hbr |>.trans hcz
   have c3:∀ v,(w.setCell ⟨r,1,none⟩ v).cell? ⟨b,off+(p * 7+3) % len,none⟩=some (.int .u8 y):=fun v=>((Bk.refl r w).set (p:=⟨r,1,none⟩) (Or.inl rfl) v).cell (p:=⟨b,off+(p * 7+3) % len,none⟩) hbl hbr |>.trans hcy
   have i1:0≤((p:Int) * 7+3) % (len:Int):=Int.emod_nonneg _ (by omega)
   have i2:((p:Int) * 7+3) % (len:Int) < (len:Int):=Int.emod_lt_of_pos _ (by omega)
   have i3:(((p:Int) * 7+3) % (len:Int)).toNat=(p * 7+3) % len:=by
    have:((p:Int) * 7+3) % (len:Int)=(((p * 7+3) % len:Nat):Int):=by simp
    rw [this,Int.toNat_natCast]
   clear hc hcz hcy hz hbl hbr'
   go_enter Try.func34,Try.ntmps34
   go_wp2
   refine wp_region_quiet_lit (by kernel_rfl) (by kernel_rfl) ?_
   repeat (go_big_quiet_step (fail))
   refine wpQuiet_nil ?_
   intro _ hw'
   obtain ⟨nq,hw''⟩:=hw'
   subst hw''
   go_wp2
   go_ret
   refine ⟨_,rfl,?_,HN1.out.draws _,HN2.out.drewN _⟩
   exact pick_math n z y p len hn1 (by omega) hz0 hz1 hy0 hy1

/-- What the walk is told of the code that came in: bytes in memory, or nil. -/
def IsCode (w:World) (a:Option Addr) (len cap:Nat):Prop :=
 len≤cap∧cap≤maxLen∧∀ i,i < len→∃ (b off:Nat) (z:Int),a=some ⟨b,off,none⟩∧b < w.heap.size∧w.cell? ⟨b,off+i,none⟩=some (.int .u8 z)∧0≤z∧z≤255

theorem isCode_nil (w:World):IsCode w none 0 0:=⟨Nat.le_refl _,Nat.zero_le _,fun _ hi=>absurd hi (Nat.not_lt_zero _)⟩
theorem block_of_cell {w:World} {b o:Nat} {v:Value} (h:w.cell? ⟨b,o,none⟩=some v):b < w.heap.size:=by
 rcases Nat.lt_or_ge b w.heap.size with h1 | h1
 ·exact h1
 ·simp [World.cell?,Array.getElem?_eq_none h1] at h
theorem getD_mem {zs:List Int} {i:Nat} (h:i < zs.length):zs.getD i 0 ∈ zs:=by
 have e:zs.getD i 0=zs[i]:=by simp [List.getD,h]
 rw [e];exact List.getElem_mem _
theorem isCode_of {w:World} {x:Addr} {len cap:Nat} {zs:List Int} (hl:len≤cap) (hm:cap≤maxLen) (hz:zs.length=cap) (hcell:∀ i,i < zs.length→w.cell? (x.add i)=some (.int .u8 (zs.getD i 0)))
  (hw:∀ n ∈ zs,(Lit.int .u8 n).wf=true):IsCode w (some x) len cap:=by
 refine ⟨hl,hm,fun i hi=>?_⟩
 obtain ⟨b,off,rfl,hc⟩:=ints_at hcell (by omega)
 have hci:=hc i (by omega)
 have hb:=bounds_u8 (hw _ (getD_mem (zs:=zs) (i:=i) (by omega)))
 exact ⟨b,off,_,rfl,block_of_cell hci,hci,hb.1,hb.2⟩

theorem rd_open {w:World} {a:Option Addr} {len cap:Nat} (L:Nat) (hL:L≤len) (h2:L≤2000)
  (hc:∀ i,i < len→∃ (b off:Nat) (z:Int),a=some ⟨b,off,none⟩∧b < w.heap.size∧w.cell? ⟨b,off+i,none⟩=some (.int .u8 z)∧0≤z∧z≤255) :
  Rd (w.alloc (.cells #[.slice a L cap,.int .i64 0] 98)) w.heap.size 0:=by
 refine ⟨a,L,cap,0,Nat.le_refl _,h2,?_,fun i hi=>?_⟩
 ·show (w.heap.push _)[w.heap.size]?=_
  simp
 ·obtain ⟨b,off,z,e,l,c,z0,z1⟩:=hc i (by omega)
  refine ⟨b,off,z,e,l,?_,z0,z1⟩
  exact ((k_alloc (Below.refl w.heap.size w) _).cell (p:=⟨b,off+i,none⟩) l).trans c

set_option maxRecDepth 100000 in
set_option maxHeartbeats 400000 in
theorem open_any (a:Option Addr) (len cap:Nat) (w:World) (h:IsCode w a len cap) :
  Calls Try.prog 32 #[.slice a len cap] w fun e w'=>e=.returned (.pointer (some ⟨w.heap.size,0,none⟩))∧Rd w' w.heap.size 0∧Below w.heap.size w w':=by
 obtain ⟨h1,h2,hc⟩:=h
 unfold maxLen at h2
 by_cases hl:(2000:Int) < (len:Int)
 ·go_enter Try.func32,Try.ntmps32
  go_wp2
  go_ret
  exact ⟨rfl,rd_open 2000 (by omega) (by omega) hc,k_alloc (Below.refl _ _) _⟩
 ·go_enter Try.func32,Try.ntmps32
  go_wp2
  go_ret
  exact ⟨rfl,rd_open len (by omega) (by omega) hc,k_alloc (Below.refl _ _) _⟩
end Go.Proofs.Ytggmjiddadjilaj
namespace Go.Proofs.Ytggmjiddadjilaj
open Go.RowKit

/-- a block of the call's own -/
def Hp (n0:Nat) (w:World) (g:Nat) (o:Obj):Prop:=n0≤g∧w.heap[g]?=some o
theorem Hp.lt {n0 g:Nat} {w:World} {o:Obj} (h:Hp n0 w g o):g < w.heap.size:=(Array.getElem?_eq_some_iff.1 h.2).1
theorem Hp.bk {n0 g r:Nat} {w w':World} {o:Obj} (h:Hp n0 w g o) (hr:r < n0) (k:Bk r w w'):Hp n0 w' g o:=⟨h.1,(k.block g h.lt (by have:=h.1;omega)).trans h.2⟩
theorem Hp.alloc {n0 g:Nat} {w:World} {o:Obj} (h:Hp n0 w g o) (q:Obj):Hp n0 (w.alloc q) g o:=⟨h.1,(Below.heap_alloc _ _ _ h.lt).trans h.2⟩
theorem Hp.new {n0:Nat} {w:World} (h:n0≤w.heap.size) (q:Obj):Hp n0 (w.alloc q) w.heap.size q:=⟨h,by show (w.heap.push q)[w.heap.size]?=_;simp⟩
/-- a number within bounds -/
def PI (lo hi:Int) (u:Value):Prop:=∃ k:Int,u=.int .i64 k∧lo≤k∧k≤hi
/-- a short text -/
def PS (n:Nat) (u:Value):Prop:=∃ s:ByteArray,u=.string s∧s.size≤n
/-- a list of numbers that has been written out -/
def PL (n0:Nat) (w:World) (n:Nat) (arr:Array Value) (u:Value):Prop:=∃ g,u=.slice (some ⟨g,0,none⟩) n n∧Hp n0 w g (.cells arr 3)
/-- a place in such a list -/
def PA (n0:Nat) (w:World) (lo hi:Int) (u:Value):Prop:=∃ g k arr,u=.pointer (some ⟨g,k,none⟩)∧Hp n0 w g (.cells arr 3)∧∃ v:Int,arr[k]?=some (.int .i64 v)∧lo≤v∧v≤hi
theorem PL.bk {n0 n r:Nat} {w w':World} {arr:Array Value} {u:Value} (h:PL n0 w n arr u) (hr:r < n0) (k:Bk r w w'):PL n0 w' n arr u:=by
 obtain ⟨g,e,hg⟩:=h;exact ⟨g,e,hg.bk hr k⟩
theorem PA.bk {n0 r:Nat} {w w':World} {lo hi:Int} {u:Value} (h:PA n0 w lo hi u) (hr:r < n0) (k:Bk r w w'):PA n0 w' lo hi u:=by
 obtain ⟨g,k',arr,e,hg,hv⟩:=h;exact ⟨g,k',arr,e,hg.bk hr k,hv⟩
theorem bk_alloc (r:Nat) (w:World) (o:Obj):Bk r w (w.alloc o):=(Bk.refl r w).alloc o
end Go.Proofs.Ytggmjiddadjilaj
