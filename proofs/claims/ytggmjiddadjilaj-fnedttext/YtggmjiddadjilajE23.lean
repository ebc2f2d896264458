/-
  PROVED HERE: how many cells rows have together. Also: what a table with one cell more is, as a list: ok, as many cells and one, that cell at its place; taken out again, the table as it was. Also: what the closure of the program's EdtText does: it writes the text of one cell of the copy, and turns nothing else that was in memory. Also: what the program's behind answers with the closure of EdtText: what the copy is behind the closure, or the copy as it was; nothing else is turned. Also: what slices.Clone answers of columns, rows and cells: the same ones, in memory of the call's own; nothing that was in memory is turned. Also: what the program's copyOf answers: of a table that is ok the same table, in memory of its own; else nothing and false; nothing that was in memory is turned.
-/
import Derived.Test.YtggmjiddadjilajE6
import Derived.Test.YtggmjiddadjilajE22
import Derived.Test.YtggmjiddadjilajE13
import Derived.Test.YtggmjiddadjilajE21
import Derived.Test.YtggmjiddadjilajE18
import Derived.WalkLawsBesides
import Derived.WalkSpells
import Derived.Deep.Cut
import Derived.Deep.RegionWith
import Derived.Deep.QuietTactic
import Derived.BigQuiet
import Derived.Laws.AppendOwn
import Derived.Lib.SliceRun
import Derived.Lib.Walk
import Derived.WalkKit
import Derived.Deep.LoopGhost
namespace Go.Proofs.Ytggmjiddadjilaj
open Go.RowKit

def cnTo (rs:List R) (k:Nat):Nat:=((rs.take k).map (fun x=>x.cells.length)).sum
end Go.Proofs.Ytggmjiddadjilaj
namespace Go.Proofs.Ytggmjiddadjilaj
open Go.RowKit

theorem setRow_len (t:T) (r:Nat) (cs:List C):(setRow t r cs).rows.length=t.rows.length:=by simp [setRow]
end Go.Proofs.Ytggmjiddadjilaj
namespace Go.Proofs.Ytggmjiddadjilaj
open Go.RowKit

structure EtJ (xb g h r a n c2 m cu:Nat) (s:ByteArray) (W3:World) (L:Nat→Bool) (W:World) (v4 v5 v6 v7 v8 v9 v10 v11 v12 v13:Value):Prop where
 f0:L 0=true→v4=.pointer (some ⟨xb,3,none⟩)
 f1:L 1=true→v5=.slice (some ⟨g,0,none⟩) n c2
 f2:L 2=true→v6=.int .i64 r
 f3:L 3=true→v7=.pointer (some ⟨g,r * 2,none⟩)
 f4:L 4=true→v8=.pointer (some ⟨g,r * 2,none⟩)
 f5:L 5=true→v9=.slice (some ⟨h,0,none⟩) m cu
 f6:L 6=true→v10=.int .i64 a
 f7:L 7=true→v11=.string s
 f8:L 8=true→v12=.pointer (some ⟨h,a * 11,none⟩)
 f9:L 9=true→v13=.pointer (some ⟨h,a * 11,none⟩)
 b:L 10=false→Below W3.heap.size W3 W
 fin:L 10=true→∃ W9,Below W3.heap.size W3 W9∧W=W9.setCell ⟨h,a * 11,none⟩ (.string s)
set_option maxRecDepth 100000 in
set_option maxHeartbeats 2000000 in
theorem closText (sb xb rb ab g h r a n c2 m cu:Nat) (a1:Option Addr) (cl c1:Nat) (hd ft gp:Value) (s:ByteArray) (arr cur:Array Value) (w:World)
  (hx:w.heap[xb]?=some (.cells #[.slice a1 cl c1,hd,ft,.slice (some ⟨g,0,none⟩) n c2,gp] 37)) (hsb:w.heap[sb]?=some (.cells #[.string s] 9)) (hrb:w.heap[rb]?=some (.cells #[.int .i64 (r:Int)] 3)) (hab:w.heap[ab]?=some (.cells #[.int .i64 (a:Int)] 3))
  (hg:w.heap[g]?=some (.cells arr 52)) (hr:r < n) (hq:arr[r * 2]?=some (.slice (some ⟨h,0,none⟩) m cu)) (hh:w.heap[h]?=some (.cells cur 41)) (ha:a < m) (hm:m≤cu) (hsz:cur.size=cu * 11) :
  Calls Try.prog 63 #[.pointer (some ⟨sb,0,none⟩),.pointer (some ⟨xb,0,none⟩),.pointer (some ⟨rb,0,none⟩),.pointer (some ⟨ab,0,none⟩)] w fun e w'=>e=.returned (.tuple #[])∧∃ W9,Below w.heap.size w W9∧w'=W9.setCell ⟨h,a * 11,none⟩ (.string s):=by
 have hmx:Try.prog.follows .mixedOrders=true:=by kernel_rfl
 have HX:=Hid.intro hx
 have HSb:=Hid.intro hsb
 have HRb:=Hid.intro hrb
 have HAb:=Hid.intro hab
 have HQ:=Hid.intro ((cellB hg).trans hq)
 have HH:=Hid.intro hh
 have hlg:=(Array.getElem?_eq_some_iff.1 hg).1
 have hlh:=(Array.getElem?_eq_some_iff.1 hh).1
 have has:a * 11 < cur.size:=by omega
 clear hx hsb hrb hab hg hq hh
 go_enter Try.func63,Try.ntmps63
 go_upto_region 0 with fail
 refine wp_region_inv2 (fun L act W=>∃ v4 v5 v6 v7 v8 v9 v10 v11 v12 v13:Value,act=⟨#[.pointer (some ⟨sb,0,none⟩),.pointer (some ⟨xb,0,none⟩),.pointer (some ⟨rb,0,none⟩),.pointer (some ⟨ab,0,none⟩),v4,v5,v6,v7,v8,v9,v10,v11,v12,v13],[]⟩∧EtJ xb g h r a n c2 m cu s w L W v4 v5 v6 v7 v8 v9 v10 v11 v12 v13) hmx (by kernel_rfl) ?hs ?hd ?h0
 case h0=>exact ⟨_,_,_,_,_,_,_,_,_,_,rfl,⟨(fun h=>by cases h),(fun h=>by cases h),(fun h=>by cases h),(fun h=>by cases h),(fun h=>by cases h),(fun h=>by cases h),(fun h=>by cases h),(fun h=>by cases h),(fun h=>by cases h),(fun h=>by cases h),(fun _=>k_drew (Below.refl _ _)),(fun h=>by cases h)⟩⟩
 case hd =>
  intro L act W hJ hall
  obtain ⟨v4,v5,v6,v7,v8,v9,v10,v11,v12,v13,ha,J⟩:=hJ
  subst ha
  obtain ⟨W9,hB9,rfl⟩:=J.fin (hall 10 (by decide))
  clear J hall
  go_wp2
  go_end0
  exact ⟨rfl,W9,hB9,rfl⟩
 case hs =>
  intro L act W i o hJ hcl ho hLi haft K hK
  obtain ⟨v4,v5,v6,v7,v8,v9,v10,v11,v12,v13,ha,J⟩:=hJ
  subst ha
  have hi':i < 11:=by
   have:=(Array.getElem?_eq_some_iff.1 ho).1
   simpa using this
  rcases (by omega:i=0∨i=1∨i=2∨i=3∨i=4∨i=5∨i=6∨i=7∨i=8∨i=9∨i=10) with rfl | rfl | rfl | rfl | rfl | rfl | rfl | rfl | rfl | rfl | rfl
  all_goals
   simp only [List.getElem?_toArray,List.getElem?_cons_zero,List.getElem?_cons_succ,Option.some.injEq] at ho
   subst ho
   clear hi'
  ·skip
   have hN:=(hcl 10 9 (by kernel_rfl) (hcl 9 8 (by kernel_rfl) (hcl 8 5 (by kernel_rfl) (hcl 5 4 (by kernel_rfl) (hcl 4 3 (by kernel_rfl) (hcl 3 1 (by kernel_rfl) (hcl 1 0 (by kernel_rfl) hLi)))))))
   have hB:=J.b hN
   go_simp
   exact hK _ _ ⟨_,_,_,_,_,_,_,_,_,_,rfl,⟨(fun _=>rfl),(fun h=>J.f1 (un h)),(fun h=>J.f2 (un h)),(fun h=>J.f3 (un h)),(fun h=>J.f4 (un h)),(fun h=>J.f5 (un h)),(fun h=>J.f6 (un h)),(fun h=>J.f7 (un h)),(fun h=>J.f8 (un h)),(fun h=>J.f9 (un h)),(fun _=>hB),(fun h=>absurd (hN.symm.trans (un h)) (by simp))⟩⟩
  ·skip
   have hN:=(hcl 10 9 (by kernel_rfl) (hcl 9 8 (by kernel_rfl) (hcl 8 5 (by kernel_rfl) (hcl 5 4 (by kernel_rfl) (hcl 4 3 (by kernel_rfl) (hcl 3 1 (by kernel_rfl) hLi))))))
   have hB:=J.b hN
   obtain rfl:=J.f0 (haft ⟨0,.data⟩ (by simp) rfl)
   obtain ⟨q0,q1,q2,q3,q4⟩:=fiveO ((hB.block _ (Array.getElem?_eq_some_iff.1 HX.out).1).trans HX.out)
   have hl:=Nat.lt_of_lt_of_le (Array.getElem?_eq_some_iff.1 HX.out).1 hB.size
   go_simp
   exact hK _ _ ⟨_,_,_,_,_,_,_,_,_,_,rfl,⟨(fun h=>J.f0 (un h)),(fun _=>rfl),(fun h=>J.f2 (un h)),(fun h=>J.f3 (un h)),(fun h=>J.f4 (un h)),(fun h=>J.f5 (un h)),(fun h=>J.f6 (un h)),(fun h=>J.f7 (un h)),(fun h=>J.f8 (un h)),(fun h=>J.f9 (un h)),(fun _=>hB),(fun h=>absurd (hN.symm.trans (un h)) (by simp))⟩⟩
  ·skip
   have hN:=(hcl 10 9 (by kernel_rfl) (hcl 9 8 (by kernel_rfl) (hcl 8 5 (by kernel_rfl) (hcl 5 4 (by kernel_rfl) (hcl 4 3 (by kernel_rfl) (hcl 3 2 (by kernel_rfl) hLi))))))
   have hB:=J.b hN
   have q0:=cellB (p:=0) ((hB.block _ (Array.getElem?_eq_some_iff.1 HRb.out).1).trans HRb.out)
   go_simp
   exact hK _ _ ⟨_,_,_,_,_,_,_,_,_,_,rfl,⟨(fun h=>J.f0 (un h)),(fun h=>J.f1 (un h)),(fun _=>rfl),(fun h=>J.f3 (un h)),(fun h=>J.f4 (un h)),(fun h=>J.f5 (un h)),(fun h=>J.f6 (un h)),(fun h=>J.f7 (un h)),(fun h=>J.f8 (un h)),(fun h=>J.f9 (un h)),(fun _=>hB),(fun h=>absurd (hN.symm.trans (un h)) (by simp))⟩⟩
  ·skip
   have hN:=(hcl 10 9 (by kernel_rfl) (hcl 9 8 (by kernel_rfl) (hcl 8 5 (by kernel_rfl) (hcl 5 4 (by kernel_rfl) (hcl 4 3 (by kernel_rfl) hLi)))))
   have hB:=J.b hN
   obtain rfl:=J.f1 (haft ⟨1,.data⟩ (by simp) rfl)
   obtain rfl:=J.f2 (haft ⟨2,.data⟩ (by simp) rfl)
   go_simp
   exact hK _ _ ⟨_,_,_,_,_,_,_,_,_,_,rfl,⟨(fun h=>J.f0 (un h)),(fun h=>J.f1 (un h)),(fun h=>J.f2 (un h)),(fun _=>rfl),(fun h=>J.f4 (un h)),(fun h=>J.f5 (un h)),(fun h=>J.f6 (un h)),(fun h=>J.f7 (un h)),(fun h=>J.f8 (un h)),(fun h=>J.f9 (un h)),(fun _=>hB),(fun h=>absurd (hN.symm.trans (un h)) (by simp))⟩⟩
  ·skip
   have hN:=(hcl 10 9 (by kernel_rfl) (hcl 9 8 (by kernel_rfl) (hcl 8 5 (by kernel_rfl) (hcl 5 4 (by kernel_rfl) hLi))))
   have hB:=J.b hN
   obtain rfl:=J.f3 (haft ⟨3,.data⟩ (by simp) rfl)
   go_simp
   exact hK _ _ ⟨_,_,_,_,_,_,_,_,_,_,rfl,⟨(fun h=>J.f0 (un h)),(fun h=>J.f1 (un h)),(fun h=>J.f2 (un h)),(fun h=>J.f3 (un h)),(fun _=>rfl),(fun h=>J.f5 (un h)),(fun h=>J.f6 (un h)),(fun h=>J.f7 (un h)),(fun h=>J.f8 (un h)),(fun h=>J.f9 (un h)),(fun _=>hB),(fun h=>absurd (hN.symm.trans (un h)) (by simp))⟩⟩
  ·skip
   have hN:=(hcl 10 9 (by kernel_rfl) (hcl 9 8 (by kernel_rfl) (hcl 8 5 (by kernel_rfl) hLi)))
   have hB:=J.b hN
   obtain rfl:=J.f4 (haft ⟨4,.data⟩ (by simp) rfl)
   have hq:=(hB.cell (p:=⟨g,r * 2,none⟩) hlg).trans HQ.out
   go_simp
   exact hK _ _ ⟨_,_,_,_,_,_,_,_,_,_,rfl,⟨(fun h=>J.f0 (un h)),(fun h=>J.f1 (un h)),(fun h=>J.f2 (un h)),(fun h=>J.f3 (un h)),(fun h=>J.f4 (un h)),(fun _=>rfl),(fun h=>J.f6 (un h)),(fun h=>J.f7 (un h)),(fun h=>J.f8 (un h)),(fun h=>J.f9 (un h)),(fun _=>hB),(fun h=>absurd (hN.symm.trans (un h)) (by simp))⟩⟩
  ·skip
   have hN:=(hcl 10 9 (by kernel_rfl) (hcl 9 8 (by kernel_rfl) (hcl 8 6 (by kernel_rfl) hLi)))
   have hB:=J.b hN
   have q0:=cellB (p:=0) ((hB.block _ (Array.getElem?_eq_some_iff.1 HAb.out).1).trans HAb.out)
   go_simp
   exact hK _ _ ⟨_,_,_,_,_,_,_,_,_,_,rfl,⟨(fun h=>J.f0 (un h)),(fun h=>J.f1 (un h)),(fun h=>J.f2 (un h)),(fun h=>J.f3 (un h)),(fun h=>J.f4 (un h)),(fun h=>J.f5 (un h)),(fun _=>rfl),(fun h=>J.f7 (un h)),(fun h=>J.f8 (un h)),(fun h=>J.f9 (un h)),(fun _=>hB),(fun h=>absurd (hN.symm.trans (un h)) (by simp))⟩⟩
  ·skip
   have hN:=(hcl 10 7 (by kernel_rfl) hLi)
   have hB:=J.b hN
   have q0:=cellB (p:=0) ((hB.block _ (Array.getElem?_eq_some_iff.1 HSb.out).1).trans HSb.out)
   go_simp
   exact hK _ _ ⟨_,_,_,_,_,_,_,_,_,_,rfl,⟨(fun h=>J.f0 (un h)),(fun h=>J.f1 (un h)),(fun h=>J.f2 (un h)),(fun h=>J.f3 (un h)),(fun h=>J.f4 (un h)),(fun h=>J.f5 (un h)),(fun h=>J.f6 (un h)),(fun _=>rfl),(fun h=>J.f8 (un h)),(fun h=>J.f9 (un h)),(fun _=>hB),(fun h=>absurd (hN.symm.trans (un h)) (by simp))⟩⟩
  ·skip
   have hN:=(hcl 10 9 (by kernel_rfl) (hcl 9 8 (by kernel_rfl) hLi))
   have hB:=J.b hN
   obtain rfl:=J.f5 (haft ⟨5,.data⟩ (by simp) rfl)
   obtain rfl:=J.f6 (haft ⟨6,.data⟩ (by simp) rfl)
   go_simp
   exact hK _ _ ⟨_,_,_,_,_,_,_,_,_,_,rfl,⟨(fun h=>J.f0 (un h)),(fun h=>J.f1 (un h)),(fun h=>J.f2 (un h)),(fun h=>J.f3 (un h)),(fun h=>J.f4 (un h)),(fun h=>J.f5 (un h)),(fun h=>J.f6 (un h)),(fun h=>J.f7 (un h)),(fun _=>rfl),(fun h=>J.f9 (un h)),(fun _=>hB),(fun h=>absurd (hN.symm.trans (un h)) (by simp))⟩⟩
  ·skip
   have hN:=(hcl 10 9 (by kernel_rfl) hLi)
   have hB:=J.b hN
   obtain rfl:=J.f8 (haft ⟨8,.data⟩ (by simp) rfl)
   go_simp
   exact hK _ _ ⟨_,_,_,_,_,_,_,_,_,_,rfl,⟨(fun h=>J.f0 (un h)),(fun h=>J.f1 (un h)),(fun h=>J.f2 (un h)),(fun h=>J.f3 (un h)),(fun h=>J.f4 (un h)),(fun h=>J.f5 (un h)),(fun h=>J.f6 (un h)),(fun h=>J.f7 (un h)),(fun h=>J.f8 (un h)),(fun _=>rfl),(fun _=>hB),(fun h=>absurd (hN.symm.trans (un h)) (by simp))⟩⟩
  ·skip
   have hN:=hLi
   have hB:=J.b hN
   obtain rfl:=J.f9 (haft ⟨9,.data⟩ (by simp) rfl)
   obtain rfl:=J.f7 (haft ⟨7,.data⟩ (by simp) rfl)
   have hBk:=(hB.block h hlh).trans HH.out
   obtain ⟨y0,hy0⟩:=someB (p:=a * 11) hBk has
   have fz:=freeB (p:=a * 11) hBk
   go_simp
   exact hK _ _ ⟨_,_,_,_,_,_,_,_,_,_,rfl,⟨(fun h=>J.f0 (un h)),(fun h=>J.f1 (un h)),(fun h=>J.f2 (un h)),(fun h=>J.f3 (un h)),(fun h=>J.f4 (un h)),(fun h=>J.f5 (un h)),(fun h=>J.f6 (un h)),(fun h=>J.f7 (un h)),(fun h=>J.f8 (un h)),(fun h=>J.f9 (un h)),(fun h=>absurd (h.symm.trans upd_self) (by simp)),(fun _=>⟨W,hB,rfl⟩)⟩⟩
end Go.Proofs.Ytggmjiddadjilaj
namespace Go.Proofs.Ytggmjiddadjilaj
open Go.RowKit

set_option maxRecDepth 100000 in
set_option maxHeartbeats 2000000 in
theorem behindText_no (xb:Nat) (p0 p1 p2 p3:Value) (a0 a3:Option Addr) (n0 c0 n3 c3:Nat) (i1 i2 i4:Int) (w:World) (hx:w.heap[xb]?=some (.cells #[.slice a0 n0 c0,.int .i64 i1,.int .i64 i2,.slice a3 n3 c3,.int .i64 i4] 37)) :
  Calls Try.prog 49 #[.pointer (some ⟨xb,0,none⟩),.bool false,.func (.func 63) #[] #[p0,p1,p2,p3]] w fun e w'=>e=.returned (.tuple #[.agg #[.slice a0 n0 c0,.int .i64 i1,.int .i64 i2,.slice a3 n3 c3,.int .i64 i4],.bool false])∧Below w.heap.size w w':=by
 have hX:=(Below.heap_alloc w (.cells #[.slice none 0 0,.int .i64 0,.int .i64 0,.slice none 0 0,.int .i64 0] 37) xb (Array.getElem?_eq_some_iff.1 hx).1).trans hx
 have hZ:=newestB w (.cells #[.slice none 0 0,.int .i64 0,.int .i64 0,.slice none 0 0,.int .i64 0] 37)
 have HK:=Hid.intro (k_alloc (Below.refl w.heap.size w) (.cells #[.slice none 0 0,.int .i64 0,.int .i64 0,.slice none 0 0,.int .i64 0] 37))
 have HX:=Hid.intro hX
 have HZ:=Hid.intro hZ
 clear hx hX hZ
 go_enter Try.func49,Try.ntmps49
 go_upto_region 1 with fail
 generalize w.alloc (.cells #[.slice none 0 0,.int .i64 0,.int .i64 0,.slice none 0 0,.int .i64 0] 37)=W0 at HK HX HZ ⊢
 obtain ⟨z0,z1,z2,z3,z4⟩:=fiveO HX.out
 obtain ⟨d0,d1,d2,d3,d4⟩:=fiveO HZ.out
 have fz:∀ p,W0.frozen? ⟨w.heap.size,p,none⟩=false:=fun p=>freeB HZ.out
 go_wp2
 exact bodyPost_ret (v:=.tuple #[.agg #[.slice a0 n0 c0,.int .i64 i1,.int .i64 i2,.slice a3 n3 c3,.int .i64 i4],.bool false]) (by simp [results,Try.results49,go_sem,d0,d1,d2,d3,d4]) rfl ⟨rfl,k_set (k_set (k_set (k_set (k_set HK.out (Nat.le_refl _) _) (Nat.le_refl _) _) (Nat.le_refl _) _) (Nat.le_refl _) _) (Nat.le_refl _) _⟩
set_option maxRecDepth 100000 in
set_option maxHeartbeats 2000000 in
theorem behindText_yes (xb:Nat) (p0 p1 p2 p3:Value) (a0 a3:Option Addr) (n0 c0 n3 c3:Nat) (i1 i2 i4:Int) (w:World) (P:World→Prop) (hP:∀ W W',P W→(∀ k,k ≠ w.heap.size→W'.heap[k]?=W.heap[k]?)→W'.heap.size=W.heap.size→W'.os=W.os→W'.tape=W.tape→W'.output=W.output→P W')
  (hcl:Calls Try.prog 63 #[p0,p1,p2,p3] (w.alloc (.cells #[.slice none 0 0,.int .i64 0,.int .i64 0,.slice none 0 0,.int .i64 0] 37)) fun e w'=>e=.returned (.tuple #[])∧P w'∧w'.heap[xb]?=some (.cells #[.slice a0 n0 c0,.int .i64 i1,.int .i64 i2,.slice a3 n3 c3,.int .i64 i4] 37)∧w'.heap[w.heap.size]?=some (.cells #[.slice none 0 0,.int .i64 0,.int .i64 0,.slice none 0 0,.int .i64 0] 37)) :
  Calls Try.prog 49 #[.pointer (some ⟨xb,0,none⟩),.bool true,.func (.func 63) #[] #[p0,p1,p2,p3]] w fun e w'=>e=.returned (.tuple #[.agg #[.slice a0 n0 c0,.int .i64 i1,.int .i64 i2,.slice a3 n3 c3,.int .i64 i4],.bool true])∧P w':=by
 have HC:=Hid.intro hcl
 have HP:=Hid.intro hP
 clear hcl hP
 go_enter Try.func49,Try.ntmps49
 go_upto_region 1 with fail
 generalize w.alloc (.cells #[.slice none 0 0,.int .i64 0,.int .i64 0,.slice none 0 0,.int .i64 0] 37)=W0 at HC ⊢
 go_wp2_with (go_at_call 63;refine HC.out.mono ?_;rintro e w1 ⟨rfl,hP1,hX1,hZ1⟩;have HP1:=Hid.intro hP1;have HX1:=Hid.intro hX1;have HZ1:=Hid.intro hZ1;obtain ⟨z0,z1,z2,z3,z4⟩:=fiveO hX1;obtain ⟨d0,d1,d2,d3,d4⟩:=fiveO hZ1;have fz:∀ p,w1.frozen? ⟨w.heap.size,p,none⟩=false:=fun p=>freeB hZ1;clear hP1 hX1 hZ1)
 exact bodyPost_ret (v:=.tuple #[.agg #[.slice a0 n0 c0,.int .i64 i1,.int .i64 i2,.slice a3 n3 c3,.int .i64 i4],.bool true]) (by simp [results,Try.results49,go_sem,d0,d1,d2,d3,d4]) rfl ⟨rfl,HP.out _ _ HP1.out (fun k hk=>by iterate 5 rw [Below.heap_setCell _ _ _ _ (by dsimp only;exact hk)]) (by iterate 5 rw [sizeSet]) rfl rfl rfl⟩
end Go.Proofs.Ytggmjiddadjilaj
namespace Go.Proofs.Ytggmjiddadjilaj
open Go.RowKit Go.Lib

theorem infoColn:(Try.prog.info? 84).map (fun i=>(i.zero,i.size,i.bytes))=some (some (Value.agg #[.int .i64 0,.int .i64 0]),2,16):=by kernel_rfl
set_option maxRecDepth 100000 in
set_option maxHeartbeats 2000000 in
theorem cloneCol (a:Option Addr) (n cap:Nat) (news:List Value) (hl:news.length=n * 2) (hn:n≤1048576) (h1:∀ u ∈ news,u.oneCell'=true) (ha:n ≠ 0→a ≠ none) (w:World)
  (hc:∀ p,a=some p→∀ j u,news[j]?=some u→w.cell? (p.add j)=some u) :
  Calls Try.prog 77 #[.slice a n cap] w fun e w'=>∃ v',e=.returned v'∧w'.ownsRow w.heap.size 84 2 v' n news∧Below w.heap.size w w':=by
 rcases a with _ | p
 ·obtain rfl:n=0:=by
   rcases Nat.eq_zero_or_pos n with h | h
   ·exact h
   ·exact absurd rfl (ha (by omega))
  obtain rfl:news=[]:=List.length_eq_zero_iff.1 (by omega)
  have hq:∀ (w:World),(binOp .eql 34 (.slice none 0 cap) (.slice none 0 0)).run Try.prog w=.ok (.bool true) w:=fun w=>Lib.run_eql_slice_nil w _ _ none 0 cap 0 0 Try.underlying34
  go_enter Try.func77,Try.ntmps77
  go_wp2
  go_ret
  exact ⟨_,rfl,⟨rfl,.inl ⟨rfl,rfl⟩⟩,Below.refl _ _⟩
 ·obtain ⟨i0,hi0,hz0,hz1,hz2⟩:=info_parts infoColn
  have hq:∀ (w:World),(binOp .eql 34 (.slice (some p) n cap) (.slice none 0 0)).run Try.prog w=.ok (.bool false) w:=fun w=>Lib.run_eql_slice_nil w _ _ (some p) n cap 0 0 Try.underlying34
  have HC:=Hid.intro (hc p rfl)
  clear hc
  go_enter Try.func77,Try.ntmps77
  go_wp2_with (at_builtin;refine wpList_append_own _ rfl _ _ 34 rfl w.heap.size 84 i0 _ 2 16 Try.underlying34 hi0 hz0 hz1 hz2 rfl (by decide) _ _ _ rfl (World.ownsRow_made w #[] 0 (Nat.le_refl _) (Nat.zero_le _) (by simp)) p n cap news rfl hl ?qc2 h1 ?qc4 ?qc5 ?qc6 ?_)
  case qc2 =>
   intro j u hj
   exact Lib.cell?_alloc_some _ (HC.out j u hj)
  case qc4=>rw [Nat.zero_add];unfold maxLen;omega
  case qc5=>rw [Nat.zero_add];omega
  case qc6=>simp
  intro v' w1 hown hgrow hnil
  go_wp2
  go_ret
  exact ⟨v',rfl,by simpa using hown,((Below.refl _ w).alloc (Nat.le_refl _) _).grown hgrow (by simp) (by intro k hk;simp [Value.ownBlock] at hk;omega)⟩

theorem infoRown:(Try.prog.info? 52).map (fun i=>(i.zero,i.size,i.bytes))=some (some (Value.agg #[.slice none 0 0,.bool false]),2,32):=by kernel_rfl
set_option maxRecDepth 100000 in
set_option maxHeartbeats 2000000 in
theorem cloneRow (a:Option Addr) (n cap:Nat) (news:List Value) (hl:news.length=n * 2) (hn:n≤1048576) (h1:∀ u ∈ news,u.oneCell'=true) (ha:n ≠ 0→a ≠ none) (w:World)
  (hc:∀ p,a=some p→∀ j u,news[j]?=some u→w.cell? (p.add j)=some u) :
  Calls Try.prog 78 #[.slice a n cap] w fun e w'=>∃ v',e=.returned v'∧w'.ownsRow w.heap.size 52 2 v' n news∧Below w.heap.size w w':=by
 rcases a with _ | p
 ·obtain rfl:n=0:=by
   rcases Nat.eq_zero_or_pos n with h | h
   ·exact h
   ·exact absurd rfl (ha (by omega))
  obtain rfl:news=[]:=List.length_eq_zero_iff.1 (by omega)
  have hq:∀ (w:World),(binOp .eql 35 (.slice none 0 cap) (.slice none 0 0)).run Try.prog w=.ok (.bool true) w:=fun w=>Lib.run_eql_slice_nil w _ _ none 0 cap 0 0 Try.underlying35
  go_enter Try.func78,Try.ntmps78
  go_wp2
  go_ret
  exact ⟨_,rfl,⟨rfl,.inl ⟨rfl,rfl⟩⟩,Below.refl _ _⟩
 ·obtain ⟨i0,hi0,hz0,hz1,hz2⟩:=info_parts infoRown
  have hq:∀ (w:World),(binOp .eql 35 (.slice (some p) n cap) (.slice none 0 0)).run Try.prog w=.ok (.bool false) w:=fun w=>Lib.run_eql_slice_nil w _ _ (some p) n cap 0 0 Try.underlying35
  have HC:=Hid.intro (hc p rfl)
  clear hc
  go_enter Try.func78,Try.ntmps78
  go_wp2_with (at_builtin;refine wpList_append_own _ rfl _ _ 35 rfl w.heap.size 52 i0 _ 2 32 Try.underlying35 hi0 hz0 hz1 hz2 rfl (by decide) _ _ _ rfl (World.ownsRow_made w #[] 0 (Nat.le_refl _) (Nat.zero_le _) (by simp)) p n cap news rfl hl ?qc2 h1 ?qc4 ?qc5 ?qc6 ?_)
  case qc2 =>
   intro j u hj
   exact Lib.cell?_alloc_some _ (HC.out j u hj)
  case qc4=>rw [Nat.zero_add];unfold maxLen;omega
  case qc5=>rw [Nat.zero_add];omega
  case qc6=>simp
  intro v' w1 hown hgrow hnil
  go_wp2
  go_ret
  exact ⟨v',rfl,by simpa using hown,((Below.refl _ w).alloc (Nat.le_refl _) _).grown hgrow (by simp) (by intro k hk;simp [Value.ownBlock] at hk;omega)⟩

theorem infoCelln:(Try.prog.info? 41).map (fun i=>(i.zero,i.size,i.bytes))=some (some (Value.agg #[.string ⟨#[]⟩,.int .i64 0,.int .i64 0,.int .i64 0,.int .i64 0,.int .i64 0,.int .i64 0,.int .i64 0,.int .i64 0,.int .i64 0,.int .i64 0]),11,96):=by kernel_rfl
set_option maxRecDepth 100000 in
set_option maxHeartbeats 2000000 in
theorem cloneCell (a:Option Addr) (n cap:Nat) (news:List Value) (hl:news.length=n * 11) (hn:n≤1048576) (h1:∀ u ∈ news,u.oneCell'=true) (ha:n ≠ 0→a ≠ none) (w:World)
  (hc:∀ p,a=some p→∀ j u,news[j]?=some u→w.cell? (p.add j)=some u) :
  Calls Try.prog 79 #[.slice a n cap] w fun e w'=>∃ v',e=.returned v'∧w'.ownsRow w.heap.size 41 11 v' n news∧Below w.heap.size w w':=by
 rcases a with _ | p
 ·obtain rfl:n=0:=by
   rcases Nat.eq_zero_or_pos n with h | h
   ·exact h
   ·exact absurd rfl (ha (by omega))
  obtain rfl:news=[]:=List.length_eq_zero_iff.1 (by omega)
  have hq:∀ (w:World),(binOp .eql 50 (.slice none 0 cap) (.slice none 0 0)).run Try.prog w=.ok (.bool true) w:=fun w=>Lib.run_eql_slice_nil w _ _ none 0 cap 0 0 Try.underlying50
  go_enter Try.func79,Try.ntmps79
  go_wp2
  go_ret
  exact ⟨_,rfl,⟨rfl,.inl ⟨rfl,rfl⟩⟩,Below.refl _ _⟩
 ·obtain ⟨i0,hi0,hz0,hz1,hz2⟩:=info_parts infoCelln
  have hq:∀ (w:World),(binOp .eql 50 (.slice (some p) n cap) (.slice none 0 0)).run Try.prog w=.ok (.bool false) w:=fun w=>Lib.run_eql_slice_nil w _ _ (some p) n cap 0 0 Try.underlying50
  have HC:=Hid.intro (hc p rfl)
  clear hc
  go_enter Try.func79,Try.ntmps79
  go_wp2_with (at_builtin;refine wpList_append_own _ rfl _ _ 50 rfl w.heap.size 41 i0 _ 11 96 Try.underlying50 hi0 hz0 hz1 hz2 rfl (by decide) _ _ _ rfl (World.ownsRow_made w #[] 0 (Nat.le_refl _) (Nat.zero_le _) (by simp)) p n cap news rfl hl ?qc2 h1 ?qc4 ?qc5 ?qc6 ?_)
  case qc2 =>
   intro j u hj
   exact Lib.cell?_alloc_some _ (HC.out j u hj)
  case qc4=>rw [Nat.zero_add];unfold maxLen;omega
  case qc5=>rw [Nat.zero_add];omega
  case qc6=>simp
  intro v' w1 hown hgrow hnil
  go_wp2
  go_ret
  exact ⟨v',rfl,by simpa using hown,((Below.refl _ w).alloc (Nat.le_refl _) _).grown hgrow (by simp) (by intro k hk;simp [Value.ownBlock] at hk;omega)⟩
end Go.Proofs.Ytggmjiddadjilaj
namespace Go.Proofs.Ytggmjiddadjilaj
open Go.RowKit

theorem news_flat {α:Type} (f:α→List Value) (sz:Nat) (hf:∀ x,(f x).length=sz) (hz:0 < sz) (l:List α) {w:World} {a:Option Addr} (h:∀ i,(hi:i < l.length)→∃ b off,a=some ⟨b,off,none⟩∧∀ m,m < sz→w.cell? ⟨b,off+i * sz+m,none⟩=(f l[i])[m]?) :
  ∀ p,a=some p→∀ j u,(l.flatMap f)[j]?=some u→w.cell? (p.add j)=some u:=by
 intro p hp j u hj
 have hl:j < l.length * sz:=by rw [← flat_len f sz hf];exact (List.getElem?_eq_some_iff.1 hj).1
 have h1:j / sz < l.length:=(Nat.div_lt_iff_lt_mul hz).2 hl
 have h2:j % sz < sz:=Nat.mod_lt _ hz
 have e:j=j / sz * sz+j % sz:=by rw [Nat.mul_comm];exact (Nat.div_add_mod j sz).symm
 obtain ⟨b,off,ha,hc⟩:=h (j / sz) h1
 have hpe:p=⟨b,off,none⟩:=Option.some.inj (hp.symm.trans ha)
 subst hpe
 have hb:=flat_get f sz hf l (j / sz) h1 (j % sz) h2
 rw [← e,hj] at hb
 have hd:(⟨b,off,none⟩:Addr).add j=⟨b,off+j,none⟩:=by simp [Addr.add]
 rw [hd,show off+j=off+j / sz * sz+j % sz by omega,hc (j % sz) h2,← hb]
theorem one_cols (ps:List (Int × Int)):∀ u ∈ ps.flatMap colVs,u.oneCell'=true:=by
 intro u hu
 obtain ⟨p,_,hp⟩:=List.mem_flatMap.1 hu
 simp only [colVs,List.mem_cons,List.not_mem_nil,or_false] at hp
 rcases hp with rfl | rfl <;> rfl
theorem one_cells (cs:List C):∀ u ∈ cs.flatMap cellVs,u.oneCell'=true:=by
 intro u hu
 obtain ⟨p,_,hp⟩:=List.mem_flatMap.1 hu
 simp only [cellVs,List.mem_cons,List.not_mem_nil,or_false] at hp
 rcases hp with rfl | rfl | rfl | rfl | rfl | rfl | rfl | rfl | rfl | rfl | rfl <;> rfl
theorem at_some {w:World} {z n sz:Nat} {a:Option Addr} {cap:Nat} {E:Nat→Nat→Nat→Prop} (h:At w z (.slice a n cap) n sz E):n ≠ 0→a ≠ none:=by
 intro h0 e
 obtain ⟨a',cap',hv,_,_,h3⟩:=h
 obtain ⟨b,off,ha,_⟩:=h3 0 (by omega)
 simp only [Value.slice.injEq,true_and] at hv
 rw [hv.1,ha] at e
 cases e
theorem clone_cols (a:Option Addr) (cap:Nat) (ps:List (Int × Int)) (hn:ps.length≤1048576) (w:World) {z:Nat} (h:ColsAt w z (.slice a ps.length cap) ps) :
  Calls Try.prog 77 #[.slice a ps.length cap] w fun e w'=>∃ a' c',e=.returned (.slice a' ps.length c')∧OwnCol w' w.heap.size (.slice a' ps.length c') ps∧Below w.heap.size w w':=by
 refine (cloneCol a ps.length cap (ps.flatMap colVs) (flat_len colVs 2 (fun _=>rfl) ps) hn (one_cols ps) (at_some h) w (news_flat colVs 2 (fun _=>rfl) (by decide) ps (fun i hi=>?_))).mono ?_
 ·obtain ⟨b,off,cap',e',_,_,_,h1,h2⟩:=At.get h hi
  simp only [Value.slice.injEq,true_and] at e'
  refine ⟨b,off,e'.1,fun m hm=>?_⟩
  rw [getD_get (0,0) hi] at h1 h2
  match m,hm with
  | 0,_=>exact h1
  | 1,_=>exact h2
 ·rintro e w' ⟨v',rfl,ho,hb⟩
  obtain ⟨a',c',rfl,_⟩:=row_form ho
  exact ⟨a',c',rfl,ho,hb⟩
theorem clone_cells (a:Option Addr) (cap:Nat) (cs:List C) (hn:cs.length≤1048576) (w:World) {z:Nat} (h:CellsAt w z (.slice a cs.length cap) cs) :
  Calls Try.prog 79 #[.slice a cs.length cap] w fun e w'=>∃ a' c',e=.returned (.slice a' cs.length c')∧OwnC w' w.heap.size (.slice a' cs.length c') cs∧Below w.heap.size w w':=by
 refine (cloneCell a cs.length cap (cs.flatMap cellVs) (flat_len cellVs 11 (fun _=>rfl) cs) hn (one_cells cs) (at_some h) w (news_flat cellVs 11 (fun _=>rfl) (by decide) cs (fun i hi=>?_))).mono ?_
 ·obtain ⟨b,off,cap',e',_,_,_,hx,_⟩:=At.get h hi
  simp only [Value.slice.injEq,true_and] at e'
  refine ⟨b,off,e'.1,fun m hm=>?_⟩
  rw [getD_get dC hi] at hx
  obtain ⟨h0,h1,h2,h3,h4,h5,h6,h7,h8,h9,h10⟩:=hx
  match m,hm with
  | 0,_=>exact h0
  | 1,_=>exact h1
  | 2,_=>exact h2
  | 3,_=>exact h3
  | 4,_=>exact h4
  | 5,_=>exact h5
  | 6,_=>exact h6
  | 7,_=>exact h7
  | 8,_=>exact h8
  | 9,_=>exact h9
  | 10,_=>exact h10
 ·rintro e w' ⟨v',rfl,ho,hb⟩
  obtain ⟨a',c',rfl,_⟩:=row_form ho
  exact ⟨a',c',rfl,ho,hb⟩
/-- the rows of a table, each with the slice of its cells -/
theorem rows_list {w:World} {z:Nat} {a:Option Addr} {cap:Nat} {rs:List R} (h:RowsAt w z (.slice a rs.length cap) rs):∃ us:List Value,us.length=rs.length∧∀ i,(hi:i < rs.length)→∃ b off u,a=some ⟨b,off,none⟩∧us[i]?=some u∧w.cell? ⟨b,off+i * 2,none⟩=some u∧w.cell? ⟨b,off+i * 2+1,none⟩=some (.bool rs[i].whole)∧(∃ au cu,u=.slice au rs[i].cells.length cu):=by
 suffices H:∀ k,k≤rs.length→∃ us:List Value,us.length=k∧∀ i,i < k→∀ hi:i < rs.length,∃ b off u,a=some ⟨b,off,none⟩∧us[i]?=some u∧w.cell? ⟨b,off+i * 2,none⟩=some u∧w.cell? ⟨b,off+i * 2+1,none⟩=some (.bool rs[i].whole)∧(∃ au cu,u=.slice au rs[i].cells.length cu) by
  obtain ⟨us,h1,h2⟩:=H rs.length (Nat.le_refl _)
  exact ⟨us,h1,fun i hi=>h2 i hi hi⟩
 intro k
 induction k with
 | zero=>intro _;exact ⟨[],rfl,fun i hi=>absurd hi (Nat.not_lt_zero _)⟩
 | succ k ih =>
  intro hk
  obtain ⟨us,h1,h2⟩:=ih (by omega)
  obtain ⟨b,off,cap',e',_,_,_,u,hx0,hx1,hx⟩:=At.get h (i:=k) (by omega)
  simp only [Value.slice.injEq,true_and] at e'
  rw [getD_get dR (by omega:k < rs.length)] at hx1 hx
  obtain ⟨au,cu,rfl,_⟩:=At.form hx
  refine ⟨us ++ [.slice au rs[k].cells.length cu],by simp [h1],fun i hi hir=>?_⟩
  rcases Nat.lt_or_eq_of_le (Nat.lt_succ_iff.1 hi) with hl | rfl
  ·obtain ⟨b',off',u',p1,p2,p3,p4,p5⟩:=h2 i hl hir
   exact ⟨b',off',u',p1,by rw [List.getElem?_append_left (by omega)];exact p2,p3,p4,p5⟩
  ·exact ⟨b,off,_,e'.1,by rw [List.getElem?_append_right (by omega),h1];simp,hx0,hx1,⟨au,cu,rfl⟩⟩
def rowsV (us:List Value) (rs:List R):List Value:=(us.zip rs).flatMap rowVs
theorem clone_rows (a:Option Addr) (cap:Nat) (rs:List R) (hn:rs.length≤1048576) (w:World) {z:Nat} (h:RowsAt w z (.slice a rs.length cap) rs) :
  Calls Try.prog 78 #[.slice a rs.length cap] w fun e w'=>∃ us a' c',us.length=rs.length∧e=.returned (.slice a' rs.length c')∧w'.ownsRow w.heap.size 52 2 (.slice a' rs.length c') rs.length (rowsV us rs)∧Below w.heap.size w w':=by
 obtain ⟨us,hu,hg⟩:=rows_list h
 have hz:(us.zip rs).length=rs.length:=by rw [List.length_zip,hu,Nat.min_self]
 have hl:(rowsV us rs).length=rs.length * 2:=by rw [rowsV,flat_len rowVs 2 (fun _=>rfl),hz]
 have hone:∀ u ∈ rowsV us rs,u.oneCell'=true:=by
  intro u hm
  obtain ⟨p,hp,hq⟩:=List.mem_flatMap.1 hm
  obtain ⟨i,hi,rfl⟩:=List.mem_iff_getElem.1 hp
  rw [hz] at hi
  obtain ⟨b,off,u',_,p2,_,_,au,cu,rfl⟩:=hg i hi
  have e:us[i]'(by omega)=.slice au rs[i].cells.length cu:=by rw [List.getElem?_eq_getElem (by omega)] at p2;exact Option.some.inj p2
  rw [List.getElem_zip,rowVs,e] at hq
  simp only [List.mem_cons,List.not_mem_nil,or_false] at hq
  rcases hq with rfl | rfl <;> rfl
 refine (cloneRow a rs.length cap (rowsV us rs) hl hn hone (at_some h) w (news_flat rowVs 2 (fun _=>rfl) (by decide) (us.zip rs) (fun i hi=>?_))).mono ?_
 ·rw [hz] at hi
  obtain ⟨b,off,u',p1,p2,p3,p4,_⟩:=hg i hi
  have e:us[i]'(by omega)=u':=by rw [List.getElem?_eq_getElem (by omega)] at p2;exact Option.some.inj p2
  refine ⟨b,off,p1,fun m hm=>?_⟩
  rw [List.getElem_zip,e]
  match m,hm with
  | 0,_=>exact p3
  | 1,_=>exact p4
 ·rintro e w' ⟨v',rfl,ho,hb⟩
  obtain ⟨a',c',rfl,_⟩:=row_form ho
  exact ⟨us,a',c',hu,rfl,ho,hb⟩
end Go.Proofs.Ytggmjiddadjilaj
