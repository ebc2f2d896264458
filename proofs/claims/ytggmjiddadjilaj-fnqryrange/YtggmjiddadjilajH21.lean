/-
  PROVED HERE: a drawn grid, put into a result's own box. Also: DrawQryRange draws a grid and two numbers that are not great; nothing that was in memory is turned.
-/
import Derived.Test.YtggmjiddadjilajH19
import Derived.Test.YtggmjiddadjilajH20
import Derived.Test.YtggmjiddadjilajH12
namespace Go.Proofs.Ytggmjiddadjilaj
open Go.RowKit

theorem code_kept {w w':World} {a:Option Addr} {len cap:Nat} (h:IsCode w a len cap) (hb:Below w.heap.size w w'):IsCode w' a len cap:=by
 obtain ⟨h1,h2,hc⟩:=h
 refine ⟨h1,h2,fun i hi=>?_⟩
 obtain ⟨b,off,z,e,l,c,z0,z1⟩:=hc i hi
 exact ⟨b,off,z,e,Nat.lt_of_lt_of_le l hb.size,(hb.cell (p:=⟨b,off+i,none⟩) l).trans c,z0,z1⟩
/-- three stores into a box -/
def st3 (w:World) (g:Nat) (y0 y1 y2:Value):World:=((w.setCell ⟨g,0,none⟩ y0).setCell ⟨g,1,none⟩ y1).setCell ⟨g,2,none⟩ y2
theorem st3_bk (w:World) (g:Nat) (y0 y1 y2:Value):Bk g w (st3 w g y0 y1 y2):=(((Bk.refl g w).set (p:=⟨g,0,none⟩) (.inl rfl) y0).set (p:=⟨g,1,none⟩) (.inl rfl) y1).set (p:=⟨g,2,none⟩) (.inl rfl) y2
/-- a grid drawn -/
structure GFacts (w w':World) (va:Option Addr) (vq:Nat) (g:G):Prop where
 at':GsAt w' w.heap.size (.slice va g.cells.length vq) g.cells
 rows:I64 g.rows
 cols:I64 g.cols
 few:g.cells.length≤41
 below:Below w.heap.size w w'
def GrdPost (w:World) (e:Ending) (w':World):Prop:=∃ (va:Option Addr) (vq:Nat) (g:G),e=.returned (.agg #[.int .i64 g.rows,.int .i64 g.cols,.slice va g.cells.length vq])∧GFacts w w' va vq g
/-- a grid in its box all along a law -/
structure SGd (w:World) (gb:Nat) (va:Option Addr) (vq:Nat) (g:G) (W:World):Prop where
 below:Below w.heap.size w W
 at':GsAt W w.heap.size (.slice va g.cells.length vq) g.cells
 box:W.heap[gb]?=some (.cells #[.int .i64 g.rows,.int .i64 g.cols,.slice va g.cells.length vq] 25)
theorem SGd.kept {w W W':World} {gb:Nat} {va:Option Addr} {vq:Nat} {g:G} (h:SGd w gb va vq g W) (k:Below W.heap.size W W'):SGd w gb va vq g W' :=
 ⟨k_trans h.below k,h.at'.kept k,(k.block gb (Array.getElem?_eq_some_iff.1 h.box).1).trans h.box⟩
theorem SGd.cells {w W:World} {gb:Nat} {va:Option Addr} {vq:Nat} {g:G} (h:SGd w gb va vq g W):W.cell? ⟨gb,0,none⟩=some (.int .i64 g.rows)∧W.cell? ⟨gb,1,none⟩=some (.int .i64 g.cols)∧W.cell? ⟨gb,2,none⟩=some (.slice va g.cells.length vq):=⟨cellB h.box,cellB h.box,cellB h.box⟩
theorem SGd.lt {w W:World} {gb:Nat} {va:Option Addr} {vq:Nat} {g:G} (h:SGd w gb va vq g W):gb < W.heap.size:=(Array.getElem?_eq_some_iff.1 h.box).1
theorem SGd.mk' {w w1:World} {va:Option Addr} {vq:Nat} {g:G} (F:GFacts w w1 va vq g):SGd w w1.heap.size va vq g (w1.alloc (.cells #[.int .i64 g.rows,.int .i64 g.cols,.slice va g.cells.length vq] 25)) :=
 ⟨k_alloc F.below _,F.at'.kept (k_alloc (Below.refl _ _) _),newestB _ _⟩
end Go.Proofs.Ytggmjiddadjilaj
namespace Go.Proofs.Ytggmjiddadjilaj
open Go.RowKit

theorem inr_le {n:Nat} {d:Int} {k:Int} (h:InR ((n:Int)+d) k) (hn:n≤41∧1≤d∧d≤2):-1000≤k∧k≤1000:=by
 unfold InR at h
 omega
theorem wrapQ {a:Int} (h:-9223372036854775808≤a∧a≤9223372036854775807):IntKind.i64.wrap a=a:=by rw [IntKind.wrap_i64];omega
structure DqJ (w:World) (z gb N:Nat) (va:Option Addr) (vq:Nat) (g:G) (L:Nat→Bool) (W:World) (v3 v4 v11 v12 v13 v14 v15 v16 v17 v18 v19 v20 v21 v22 v23 v24:Value):Prop where
 f0:L 0=true→v11=.agg #[.int .i64 g.rows,.int .i64 g.cols,.slice va g.cells.length vq]
 f1:L 1=true→v12=.pointer (some ⟨w.heap.size+1,0,none⟩)
 f2:L 2=true→v13=.pointer (some ⟨gb,2,none⟩)
 f3:L 3=true→v14=.slice va g.cells.length vq
 f4:L 4=true→v15=.int .i64 g.cells.length
 f5:L 5=true→v16=.int .i64 ((g.cells.length:Int)+2)
 f6:L 6=true→∃ p:Int,v17=.int .i64 p∧-1000≤p∧p≤1000
 f7:L 7=true→∃ p:Int,v18=.int .i64 p∧-2000≤p∧p≤2000
 f8:L 8=true→v19=.pointer (some ⟨w.heap.size+1,0,none⟩)
 f9:L 9=true→v20=.pointer (some ⟨gb,2,none⟩)
 f10:L 10=true→v21=.slice va g.cells.length vq
 f11:L 11=true→v22=.int .i64 g.cells.length
 f12:L 12=true→v23=.int .i64 ((g.cells.length:Int)+1)
 f13:L 13=true→∃ p:Int,v24=.int .i64 p∧-1000≤p∧p≤1000
 f15:L 15=true→∃ p:Int,v3=.int .i64 p∧-2000≤p∧p≤2000
 f16:L 16=true→∃ p:Int,v4=.int .i64 p∧-2000≤p∧p≤2000
 bel:Below w.heap.size w W
 gat:GsAt W z (.slice va g.cells.length vq) g.cells
 gbx:W.heap[gb]?=some (.cells #[.int .i64 g.rows,.int .i64 g.cols,.slice va g.cells.length vq] 25)
 rbx:∃ x0 x1 x2,W.heap[w.heap.size]?=some (.cells #[x0,x1,x2] 25)
 rd0:L 6=false→Rd W (w.heap.size+1) N
 rd1:L 6=true→L 13=false→Rd W (w.heap.size+1) (N+1)
 fin:L 14=true→W.heap[w.heap.size]?=some (.cells #[.int .i64 g.rows,.int .i64 g.cols,.slice va g.cells.length vq] 25)
set_option maxRecDepth 100000 in
set_option maxHeartbeats 1000000 in
theorem dQryRange_any (a:Option Addr) (len cap:Nat) (w:World) (h:IsCode w a len cap) :
  Calls Try.prog 8 #[.slice a len cap] w fun e w'=>∃ (va:Option Addr) (vq:Nat) (g:G) (p q:Int),e=.returned (.tuple #[.agg #[.int .i64 g.rows,.int .i64 g.cols,.slice va g.cells.length vq],.int .i64 p,.int .i64 q])∧GFacts w w' va vq g∧-2000≤p∧p≤2000∧-2000≤q∧q≤2000:=by
 have hmx:Try.prog.follows .mixedOrders=true:=by kernel_rfl
 have K0:=k_alloc (Below.refl w.heap.size w) (.cells #[.int .i64 0,.int .i64 0,.slice none 0 0] 25)
 have HC:=Hid.intro (code_kept h K0)
 have X0:=newestB w (.cells #[.int .i64 0,.int .i64 0,.slice none 0 0] 25)
 clear h
 have hsz:(w.alloc (.cells #[.int .i64 0,.int .i64 0,.slice none 0 0] 25)).heap.size=w.heap.size+1:=by simp
 go_enter Try.func8,Try.ntmps8
 go_wp2_with fail
 refine (open_any _ _ _ _ HC.out).mono ?_
 rintro e w1 ⟨rfl,hR1,hb1⟩
 rw [hsz] at hR1 hb1
 have X1:=(hb1.block w.heap.size (by omega)).trans X0
 have K1:=k_trans K0 (by rw [hsz];exact hb1)
 have hz1:=hR1.lt
 go_wp2_with fail
 refine (l20Grid_any (w.heap.size+1) 0 12 (by omega) _ hR1 (by omega)).mono ?_
 rintro e w2 ⟨va,vq,g,rfl,hG,hIr,hIc,hlen,hR2,hb2,h99⟩
 clear h99
 have X2:=(hb2.block w.heap.size (by omega) (by omega)).trans X1
 have K2:=K1.trans (hb2.below (by omega) (by omega))
 have hz2:w.heap.size+1 < w2.heap.size:=hR2.lt
 have hA:=k_alloc (Below.refl w2.heap.size w2) (.cells #[.int .i64 g.rows,.int .i64 g.cols,.slice va g.cells.length vq] 25)
 go_upto_region 3 with fail
 obtain ⟨W3,hW3⟩:∃ W3,w2.alloc (.cells #[.int .i64 g.rows,.int .i64 g.cols,.slice va g.cells.length vq] 25)=W3:=⟨_,rfl⟩
 have hfew:g.cells.length≤41:=hlen
 have H0:=Hid.intro (And.intro (k_trans K2 hA) (And.intro (hG.kept hA) (And.intro (newestB w2 (.cells #[.int .i64 g.rows,.int .i64 g.cols,.slice va g.cells.length vq] 25)) (And.intro (⟨_,_,_,(hA.block w.heap.size (by omega)).trans X2⟩:∃ x0 x1 x2,(w2.alloc (.cells #[.int .i64 g.rows,.int .i64 g.cols,.slice va g.cells.length vq] 25)).heap[w.heap.size]?=some (.cells #[x0,x1,x2] 25)) (hR2.kept hA)))))
 rw [hW3] at H0 ⊢
 clear hG hR2 hb2 X2 X1 X0 K0 K1 K2 HC hR1 hb1 hA hW3
 generalize w2.heap.size=gb at *
 generalize w1.heap.size=z at *
 refine wp_region_inv2 (fun L act W=>∃ v3 v4 v11 v12 v13 v14 v15 v16 v17 v18 v19 v20 v21 v22 v23 v24:Value,act=⟨#[.slice a len cap,undef,.pointer (some ⟨w.heap.size,0,none⟩),v3,v4,.pointer (some ⟨w.heap.size+1,0,none⟩),.pointer (some ⟨gb,0,none⟩),.slice a len cap,.pointer (some ⟨w.heap.size+1,0,none⟩),.pointer (some ⟨w.heap.size+1,0,none⟩),.agg #[.int .i64 g.rows,.int .i64 g.cols,.slice va g.cells.length vq],v11,v12,v13,v14,v15,v16,v17,v18,v19,v20,v21,v22,v23,v24],[]⟩∧DqJ w z gb (0+3000) va vq g L W v3 v4 v11 v12 v13 v14 v15 v16 v17 v18 v19 v20 v21 v22 v23 v24) hmx (by kernel_rfl) ?hs ?hd ?h0
 case h0=>exact ⟨_,_,_,_,_,_,_,_,_,_,_,_,_,_,_,_,rfl,⟨(fun h=>by cases h),(fun h=>by cases h),(fun h=>by cases h),(fun h=>by cases h),(fun h=>by cases h),(fun h=>by cases h),(fun h=>by cases h),(fun h=>by cases h),(fun h=>by cases h),(fun h=>by cases h),(fun h=>by cases h),(fun h=>by cases h),(fun h=>by cases h),(fun h=>by cases h),(fun h=>by cases h),(fun h=>by cases h),k_drew H0.out.1,H0.out.2.1.kept (k_drew (Below.refl _ _)),H0.out.2.2.1,H0.out.2.2.2.1,(fun _=>H0.out.2.2.2.2.drew),(fun h=>by cases h),(fun h=>by cases h)⟩⟩
 case hd =>
  intro L act W hJ hall
  obtain ⟨v3,v4,v11,v12,v13,v14,v15,v16,v17,v18,v19,v20,v21,v22,v23,v24,ha,J⟩:=hJ
  subst ha
  obtain ⟨p,rfl,hp1,hp2⟩:=J.f15 (hall 15 (by decide))
  obtain ⟨q,rfl,hq1,hq2⟩:=J.f16 (hall 16 (by decide))
  have HP:Hid (GFacts w W va vq g):=Hid.intro ⟨J.gat.base (by omega),hIr,hIc,hfew,J.bel⟩
  obtain ⟨⟨x0,x1,x2⟩,y0,y1,y2⟩:=threeZ (J.fin (hall 14 (by decide)))
  clear J hall
  go_wp2
  exact bodyPost_ret (v:=.tuple #[.agg #[.int .i64 g.rows,.int .i64 g.cols,.slice va g.cells.length vq],.int .i64 p,.int .i64 q]) (by simp [results,Try.results8,go_sem,x0,x1,x2]) rfl ⟨va,vq,g,p,q,rfl,HP.out,hp1,hp2,hq1,hq2⟩
 case hs =>
  intro L act W i o hJ hcl ho hLi haft K hK
  obtain ⟨v3,v4,v11,v12,v13,v14,v15,v16,v17,v18,v19,v20,v21,v22,v23,v24,ha,J⟩:=hJ
  subst ha
  have hi':i < 17:=by
   have:=(Array.getElem?_eq_some_iff.1 ho).1
   simpa using this
  rcases (by omega:i=0∨i=1∨i=2∨i=3∨i=4∨i=5∨i=6∨i=7∨i=8∨i=9∨i=10∨i=11∨i=12∨i=13∨i=14∨i=15∨i=16) with rfl | rfl | rfl | rfl | rfl | rfl | rfl | rfl | rfl | rfl | rfl | rfl | rfl | rfl | rfl | rfl | rfl
  all_goals
   simp only [List.getElem?_toArray,List.getElem?_cons_zero,List.getElem?_cons_succ,Option.some.injEq] at ho
   subst ho
   clear hi'
  ·skip
   obtain ⟨q0,q1,q2⟩:=(⟨cellB J.gbx,cellB J.gbx,cellB J.gbx⟩:W.cell? ⟨gb,0,none⟩=some (.int .i64 g.rows)∧W.cell? ⟨gb,1,none⟩=some (.int .i64 g.cols)∧W.cell? ⟨gb,2,none⟩=some (.slice va g.cells.length vq))
   go_simp
   exact hK _ _ ⟨_,_,_,_,_,_,_,_,_,_,_,_,_,_,_,_,rfl,⟨(fun _=>rfl),(fun h=>J.f1 (un h)),(fun h=>J.f2 (un h)),(fun h=>J.f3 (un h)),(fun h=>J.f4 (un h)),(fun h=>J.f5 (un h)),(fun h=>J.f6 (un h)),(fun h=>J.f7 (un h)),(fun h=>J.f8 (un h)),(fun h=>J.f9 (un h)),(fun h=>J.f10 (un h)),(fun h=>J.f11 (un h)),(fun h=>J.f12 (un h)),(fun h=>J.f13 (un h)),(fun h=>J.f15 (un h)),(fun h=>J.f16 (un h)),J.bel,J.gat,J.gbx,J.rbx,(fun h=>J.rd0 (un h)),(fun h h2=>J.rd1 (un h) (un h2)),(fun h=>J.fin (un h))⟩⟩
  ·skip
   go_simp
   exact hK _ _ ⟨_,_,_,_,_,_,_,_,_,_,_,_,_,_,_,_,rfl,⟨(fun h=>J.f0 (un h)),(fun _=>rfl),(fun h=>J.f2 (un h)),(fun h=>J.f3 (un h)),(fun h=>J.f4 (un h)),(fun h=>J.f5 (un h)),(fun h=>J.f6 (un h)),(fun h=>J.f7 (un h)),(fun h=>J.f8 (un h)),(fun h=>J.f9 (un h)),(fun h=>J.f10 (un h)),(fun h=>J.f11 (un h)),(fun h=>J.f12 (un h)),(fun h=>J.f13 (un h)),(fun h=>J.f15 (un h)),(fun h=>J.f16 (un h)),J.bel,J.gat,J.gbx,J.rbx,(fun h=>J.rd0 (un h)),(fun h h2=>J.rd1 (un h) (un h2)),(fun h=>J.fin (un h))⟩⟩
  ·skip
   go_simp
   exact hK _ _ ⟨_,_,_,_,_,_,_,_,_,_,_,_,_,_,_,_,rfl,⟨(fun h=>J.f0 (un h)),(fun h=>J.f1 (un h)),(fun _=>rfl),(fun h=>J.f3 (un h)),(fun h=>J.f4 (un h)),(fun h=>J.f5 (un h)),(fun h=>J.f6 (un h)),(fun h=>J.f7 (un h)),(fun h=>J.f8 (un h)),(fun h=>J.f9 (un h)),(fun h=>J.f10 (un h)),(fun h=>J.f11 (un h)),(fun h=>J.f12 (un h)),(fun h=>J.f13 (un h)),(fun h=>J.f15 (un h)),(fun h=>J.f16 (un h)),J.bel,J.gat,J.gbx,J.rbx,(fun h=>J.rd0 (un h)),(fun h h2=>J.rd1 (un h) (un h2)),(fun h=>J.fin (un h))⟩⟩
  ·skip
   obtain rfl:=J.f2 (haft ⟨2,.data⟩ (by simp) rfl)
   obtain ⟨q0,q1,q2⟩:=(⟨cellB J.gbx,cellB J.gbx,cellB J.gbx⟩:W.cell? ⟨gb,0,none⟩=some (.int .i64 g.rows)∧W.cell? ⟨gb,1,none⟩=some (.int .i64 g.cols)∧W.cell? ⟨gb,2,none⟩=some (.slice va g.cells.length vq))
   go_simp
   exact hK _ _ ⟨_,_,_,_,_,_,_,_,_,_,_,_,_,_,_,_,rfl,⟨(fun h=>J.f0 (un h)),(fun h=>J.f1 (un h)),(fun h=>J.f2 (un h)),(fun _=>rfl),(fun h=>J.f4 (un h)),(fun h=>J.f5 (un h)),(fun h=>J.f6 (un h)),(fun h=>J.f7 (un h)),(fun h=>J.f8 (un h)),(fun h=>J.f9 (un h)),(fun h=>J.f10 (un h)),(fun h=>J.f11 (un h)),(fun h=>J.f12 (un h)),(fun h=>J.f13 (un h)),(fun h=>J.f15 (un h)),(fun h=>J.f16 (un h)),J.bel,J.gat,J.gbx,J.rbx,(fun h=>J.rd0 (un h)),(fun h h2=>J.rd1 (un h) (un h2)),(fun h=>J.fin (un h))⟩⟩
  ·skip
   obtain rfl:=J.f3 (haft ⟨3,.data⟩ (by simp) rfl)
   go_simp
   exact hK _ _ ⟨_,_,_,_,_,_,_,_,_,_,_,_,_,_,_,_,rfl,⟨(fun h=>J.f0 (un h)),(fun h=>J.f1 (un h)),(fun h=>J.f2 (un h)),(fun h=>J.f3 (un h)),(fun _=>rfl),(fun h=>J.f5 (un h)),(fun h=>J.f6 (un h)),(fun h=>J.f7 (un h)),(fun h=>J.f8 (un h)),(fun h=>J.f9 (un h)),(fun h=>J.f10 (un h)),(fun h=>J.f11 (un h)),(fun h=>J.f12 (un h)),(fun h=>J.f13 (un h)),(fun h=>J.f15 (un h)),(fun h=>J.f16 (un h)),J.bel,J.gat,J.gbx,J.rbx,(fun h=>J.rd0 (un h)),(fun h h2=>J.rd1 (un h) (un h2)),(fun h=>J.fin (un h))⟩⟩
  ·skip
   obtain rfl:=J.f4 (haft ⟨4,.data⟩ (by simp) rfl)
   go_simp
   exact hK _ _ ⟨_,_,_,_,_,_,_,_,_,_,_,_,_,_,_,_,rfl,⟨(fun h=>J.f0 (un h)),(fun h=>J.f1 (un h)),(fun h=>J.f2 (un h)),(fun h=>J.f3 (un h)),(fun h=>J.f4 (un h)),(fun _=>congrArg (Value.int .i64) (wrapQ (by omega))),(fun h=>J.f6 (un h)),(fun h=>J.f7 (un h)),(fun h=>J.f8 (un h)),(fun h=>J.f9 (un h)),(fun h=>J.f10 (un h)),(fun h=>J.f11 (un h)),(fun h=>J.f12 (un h)),(fun h=>J.f13 (un h)),(fun h=>J.f15 (un h)),(fun h=>J.f16 (un h)),J.bel,J.gat,J.gbx,J.rbx,(fun h=>J.rd0 (un h)),(fun h h2=>J.rd1 (un h) (un h2)),(fun h=>J.fin (un h))⟩⟩
  ·skip
   obtain rfl:=J.f1 (haft ⟨1,.data⟩ (by simp) rfl)
   obtain rfl:=J.f5 (haft ⟨5,.data⟩ (by simp) rfl)
   have hR:=J.rd0 hLi
   have hlg:=(Array.getElem?_eq_some_iff.1 J.gbx).1
   have hls:w.heap.size≤W.heap.size:=J.bel.size
   have hlr:=hR.lt
   go_simp
   go_wp2_with (go_at_call 34;refine (pick_any (w.heap.size+1) _ _ _ hR (by omega)).mono ?_;rintro e W2 ⟨k,rfl,hk,hR2,hbk⟩)
   exact ⟨_,_,_,_,_,_,_,_,_,_,_,_,_,_,_,_,rfl,⟨(fun h=>J.f0 (un h)),(fun h=>J.f1 (un h)),(fun h=>J.f2 (un h)),(fun h=>J.f3 (un h)),(fun h=>J.f4 (un h)),(fun h=>J.f5 (un h)),(fun _=>⟨k,rfl,inr_le hk (by omega)⟩),(fun h=>J.f7 (un h)),(fun h=>J.f8 (un h)),(fun h=>J.f9 (un h)),(fun h=>J.f10 (un h)),(fun h=>J.f11 (un h)),(fun h=>J.f12 (un h)),(fun h=>J.f13 (un h)),(fun h=>J.f15 (un h)),(fun h=>J.f16 (un h)),J.bel.trans (hbk.below hls (by omega)),J.gat.since ⟨hbk.size,fun q h1 h2=>hbk.block q h2 (by omega)⟩,(hbk.block gb hlg (by omega)).trans J.gbx,(J.rbx).elim fun a h=>h.elim fun b h=>h.elim fun c h=>⟨a,b,c,(hbk.block w.heap.size (by omega) (by omega)).trans h⟩,(fun h=>absurd (h.symm.trans upd_self) (by simp)),(fun _ _=>hR2),(fun h=>absurd ((hcl 14 13 (by kernel_rfl) (hcl 13 6 (by kernel_rfl) hLi)).symm.trans (un h)) (by simp))⟩⟩
  ·skip
   obtain ⟨p,rfl,hp1,hp2⟩:=J.f6 (haft ⟨6,.data⟩ (by simp) rfl)
   go_simp
   exact hK _ _ ⟨_,_,_,_,_,_,_,_,_,_,_,_,_,_,_,_,rfl,⟨(fun h=>J.f0 (un h)),(fun h=>J.f1 (un h)),(fun h=>J.f2 (un h)),(fun h=>J.f3 (un h)),(fun h=>J.f4 (un h)),(fun h=>J.f5 (un h)),(fun h=>J.f6 (un h)),(fun _=>⟨p - 1,congrArg (Value.int .i64) (wrapQ (by omega)),by omega,by omega⟩),(fun h=>J.f8 (un h)),(fun h=>J.f9 (un h)),(fun h=>J.f10 (un h)),(fun h=>J.f11 (un h)),(fun h=>J.f12 (un h)),(fun h=>J.f13 (un h)),(fun h=>J.f15 (un h)),(fun h=>J.f16 (un h)),J.bel,J.gat,J.gbx,J.rbx,(fun h=>J.rd0 (un h)),(fun h h2=>J.rd1 (un h) (un h2)),(fun h=>J.fin (un h))⟩⟩
  ·skip
   go_simp
   exact hK _ _ ⟨_,_,_,_,_,_,_,_,_,_,_,_,_,_,_,_,rfl,⟨(fun h=>J.f0 (un h)),(fun h=>J.f1 (un h)),(fun h=>J.f2 (un h)),(fun h=>J.f3 (un h)),(fun h=>J.f4 (un h)),(fun h=>J.f5 (un h)),(fun h=>J.f6 (un h)),(fun h=>J.f7 (un h)),(fun _=>rfl),(fun h=>J.f9 (un h)),(fun h=>J.f10 (un h)),(fun h=>J.f11 (un h)),(fun h=>J.f12 (un h)),(fun h=>J.f13 (un h)),(fun h=>J.f15 (un h)),(fun h=>J.f16 (un h)),J.bel,J.gat,J.gbx,J.rbx,(fun h=>J.rd0 (un h)),(fun h h2=>J.rd1 (un h) (un h2)),(fun h=>J.fin (un h))⟩⟩
  ·skip
   go_simp
   exact hK _ _ ⟨_,_,_,_,_,_,_,_,_,_,_,_,_,_,_,_,rfl,⟨(fun h=>J.f0 (un h)),(fun h=>J.f1 (un h)),(fun h=>J.f2 (un h)),(fun h=>J.f3 (un h)),(fun h=>J.f4 (un h)),(fun h=>J.f5 (un h)),(fun h=>J.f6 (un h)),(fun h=>J.f7 (un h)),(fun h=>J.f8 (un h)),(fun _=>rfl),(fun h=>J.f10 (un h)),(fun h=>J.f11 (un h)),(fun h=>J.f12 (un h)),(fun h=>J.f13 (un h)),(fun h=>J.f15 (un h)),(fun h=>J.f16 (un h)),J.bel,J.gat,J.gbx,J.rbx,(fun h=>J.rd0 (un h)),(fun h h2=>J.rd1 (un h) (un h2)),(fun h=>J.fin (un h))⟩⟩
  ·skip
   obtain rfl:=J.f9 (haft ⟨9,.data⟩ (by simp) rfl)
   obtain ⟨q0,q1,q2⟩:=(⟨cellB J.gbx,cellB J.gbx,cellB J.gbx⟩:W.cell? ⟨gb,0,none⟩=some (.int .i64 g.rows)∧W.cell? ⟨gb,1,none⟩=some (.int .i64 g.cols)∧W.cell? ⟨gb,2,none⟩=some (.slice va g.cells.length vq))
   go_simp
   exact hK _ _ ⟨_,_,_,_,_,_,_,_,_,_,_,_,_,_,_,_,rfl,⟨(fun h=>J.f0 (un h)),(fun h=>J.f1 (un h)),(fun h=>J.f2 (un h)),(fun h=>J.f3 (un h)),(fun h=>J.f4 (un h)),(fun h=>J.f5 (un h)),(fun h=>J.f6 (un h)),(fun h=>J.f7 (un h)),(fun h=>J.f8 (un h)),(fun h=>J.f9 (un h)),(fun _=>rfl),(fun h=>J.f11 (un h)),(fun h=>J.f12 (un h)),(fun h=>J.f13 (un h)),(fun h=>J.f15 (un h)),(fun h=>J.f16 (un h)),J.bel,J.gat,J.gbx,J.rbx,(fun h=>J.rd0 (un h)),(fun h h2=>J.rd1 (un h) (un h2)),(fun h=>J.fin (un h))⟩⟩
  ·skip
   obtain rfl:=J.f10 (haft ⟨10,.data⟩ (by simp) rfl)
   go_simp
   exact hK _ _ ⟨_,_,_,_,_,_,_,_,_,_,_,_,_,_,_,_,rfl,⟨(fun h=>J.f0 (un h)),(fun h=>J.f1 (un h)),(fun h=>J.f2 (un h)),(fun h=>J.f3 (un h)),(fun h=>J.f4 (un h)),(fun h=>J.f5 (un h)),(fun h=>J.f6 (un h)),(fun h=>J.f7 (un h)),(fun h=>J.f8 (un h)),(fun h=>J.f9 (un h)),(fun h=>J.f10 (un h)),(fun _=>rfl),(fun h=>J.f12 (un h)),(fun h=>J.f13 (un h)),(fun h=>J.f15 (un h)),(fun h=>J.f16 (un h)),J.bel,J.gat,J.gbx,J.rbx,(fun h=>J.rd0 (un h)),(fun h h2=>J.rd1 (un h) (un h2)),(fun h=>J.fin (un h))⟩⟩
  ·skip
   obtain rfl:=J.f11 (haft ⟨11,.data⟩ (by simp) rfl)
   go_simp
   exact hK _ _ ⟨_,_,_,_,_,_,_,_,_,_,_,_,_,_,_,_,rfl,⟨(fun h=>J.f0 (un h)),(fun h=>J.f1 (un h)),(fun h=>J.f2 (un h)),(fun h=>J.f3 (un h)),(fun h=>J.f4 (un h)),(fun h=>J.f5 (un h)),(fun h=>J.f6 (un h)),(fun h=>J.f7 (un h)),(fun h=>J.f8 (un h)),(fun h=>J.f9 (un h)),(fun h=>J.f10 (un h)),(fun h=>J.f11 (un h)),(fun _=>congrArg (Value.int .i64) (wrapQ (by omega))),(fun h=>J.f13 (un h)),(fun h=>J.f15 (un h)),(fun h=>J.f16 (un h)),J.bel,J.gat,J.gbx,J.rbx,(fun h=>J.rd0 (un h)),(fun h h2=>J.rd1 (un h) (un h2)),(fun h=>J.fin (un h))⟩⟩
  ·skip
   obtain rfl:=J.f8 (haft ⟨8,.data⟩ (by simp) rfl)
   obtain rfl:=J.f12 (haft ⟨12,.data⟩ (by simp) rfl)
   have hR:=J.rd1 (haft ⟨6,.chain⟩ (by simp) rfl) hLi
   have hlg:=(Array.getElem?_eq_some_iff.1 J.gbx).1
   have hls:w.heap.size≤W.heap.size:=J.bel.size
   have hlr:=hR.lt
   go_simp
   go_wp2_with (go_at_call 34;refine (pick_any (w.heap.size+1) _ _ _ hR (by omega)).mono ?_;rintro e W2 ⟨k,rfl,hk,hR2,hbk⟩)
   exact ⟨_,_,_,_,_,_,_,_,_,_,_,_,_,_,_,_,rfl,⟨(fun h=>J.f0 (un h)),(fun h=>J.f1 (un h)),(fun h=>J.f2 (un h)),(fun h=>J.f3 (un h)),(fun h=>J.f4 (un h)),(fun h=>J.f5 (un h)),(fun h=>J.f6 (un h)),(fun h=>J.f7 (un h)),(fun h=>J.f8 (un h)),(fun h=>J.f9 (un h)),(fun h=>J.f10 (un h)),(fun h=>J.f11 (un h)),(fun h=>J.f12 (un h)),(fun _=>⟨k,rfl,inr_le hk (by omega)⟩),(fun h=>J.f15 (un h)),(fun h=>J.f16 (un h)),J.bel.trans (hbk.below hls (by omega)),J.gat.since ⟨hbk.size,fun q h1 h2=>hbk.block q h2 (by omega)⟩,(hbk.block gb hlg (by omega)).trans J.gbx,(J.rbx).elim fun a h=>h.elim fun b h=>h.elim fun c h=>⟨a,b,c,(hbk.block w.heap.size (by omega) (by omega)).trans h⟩,(fun h=>absurd ((un h).symm.trans (haft ⟨6,.chain⟩ (by simp) rfl)) (by simp)),(fun _ h=>absurd (h.symm.trans upd_self) (by simp)),(fun h=>absurd ((hcl 14 13 (by kernel_rfl) hLi).symm.trans (un h)) (by simp))⟩⟩
  ·skip
   obtain rfl:=J.f0 (haft ⟨0,.data⟩ (by simp) rfl)
   have h13:=(haft ⟨13,.chain⟩ (by simp) rfl)
   have h6:L 6=true:=eq_true_of_ne_false (fun h3=>by have h4:=hcl 13 6 (by kernel_rfl) h3;rw [h13] at h4;cases h4)
   obtain ⟨x0,x1,x2,hrb⟩:=J.rbx
   obtain ⟨⟨y0,y1,y2⟩,z0,z1,z2⟩:=threeZ hrb
   go_simp
   exact hK _ _ ⟨_,_,_,_,_,_,_,_,_,_,_,_,_,_,_,_,rfl,⟨(fun h=>J.f0 (un h)),(fun h=>J.f1 (un h)),(fun h=>J.f2 (un h)),(fun h=>J.f3 (un h)),(fun h=>J.f4 (un h)),(fun h=>J.f5 (un h)),(fun h=>J.f6 (un h)),(fun h=>J.f7 (un h)),(fun h=>J.f8 (un h)),(fun h=>J.f9 (un h)),(fun h=>J.f10 (un h)),(fun h=>J.f11 (un h)),(fun h=>J.f12 (un h)),(fun h=>J.f13 (un h)),(fun h=>J.f15 (un h)),(fun h=>J.f16 (un h)),k_set (k_set (k_set J.bel (p:=⟨w.heap.size,0,none⟩) (Nat.le_refl _) _) (p:=⟨w.heap.size,1,none⟩) (Nat.le_refl _) _) (p:=⟨w.heap.size,2,none⟩) (Nat.le_refl _) _,J.gat.since ⟨(st3_bk W w.heap.size _ _ _).size,fun q h1 h2=>(st3_bk W w.heap.size _ _ _).block q h2 (by omega)⟩,(Below.heap_setCell _ _ _ _ (by show gb ≠ w.heap.size;omega)).trans ((Below.heap_setCell _ _ _ _ (by show gb ≠ w.heap.size;omega)).trans ((Below.heap_setCell _ _ _ _ (by show gb ≠ w.heap.size;omega)).trans J.gbx)),⟨_,_,_,setB (setB (setB hrb _) _) _⟩,(fun h=>absurd ((un h).symm.trans h6) (by simp)),(fun _ h=>absurd ((un h).symm.trans h13) (by simp)),(fun _=>setB (setB (setB hrb _) _) _)⟩⟩
  ·skip
   obtain ⟨p,rfl,hp1,hp2⟩:=J.f7 (haft ⟨7,.data⟩ (by simp) rfl)
   go_simp
   exact hK _ _ ⟨_,_,_,_,_,_,_,_,_,_,_,_,_,_,_,_,rfl,⟨(fun h=>J.f0 (un h)),(fun h=>J.f1 (un h)),(fun h=>J.f2 (un h)),(fun h=>J.f3 (un h)),(fun h=>J.f4 (un h)),(fun h=>J.f5 (un h)),(fun h=>J.f6 (un h)),(fun h=>J.f7 (un h)),(fun h=>J.f8 (un h)),(fun h=>J.f9 (un h)),(fun h=>J.f10 (un h)),(fun h=>J.f11 (un h)),(fun h=>J.f12 (un h)),(fun h=>J.f13 (un h)),(fun _=>⟨_,rfl,by omega,by omega⟩),(fun h=>J.f16 (un h)),J.bel,J.gat,J.gbx,J.rbx,(fun h=>J.rd0 (un h)),(fun h h2=>J.rd1 (un h) (un h2)),(fun h=>J.fin (un h))⟩⟩
  ·skip
   obtain ⟨p,rfl,hp1,hp2⟩:=J.f13 (haft ⟨13,.data⟩ (by simp) rfl)
   go_simp
   exact hK _ _ ⟨_,_,_,_,_,_,_,_,_,_,_,_,_,_,_,_,rfl,⟨(fun h=>J.f0 (un h)),(fun h=>J.f1 (un h)),(fun h=>J.f2 (un h)),(fun h=>J.f3 (un h)),(fun h=>J.f4 (un h)),(fun h=>J.f5 (un h)),(fun h=>J.f6 (un h)),(fun h=>J.f7 (un h)),(fun h=>J.f8 (un h)),(fun h=>J.f9 (un h)),(fun h=>J.f10 (un h)),(fun h=>J.f11 (un h)),(fun h=>J.f12 (un h)),(fun h=>J.f13 (un h)),(fun h=>J.f15 (un h)),(fun _=>⟨_,rfl,by omega,by omega⟩),J.bel,J.gat,J.gbx,J.rbx,(fun h=>J.rd0 (un h)),(fun h h2=>J.rd1 (un h) (un h2)),(fun h=>J.fin (un h))⟩⟩
end Go.Proofs.Ytggmjiddadjilaj
