/-
  PROVED HERE: what the laws' own toTblCellS, toTblRow, toTblRowS, toTblColS and toTblTable answer: the same table, in new memory; nothing that was in memory is turned. Also: small laws on rows that a call owns, whatever their elements are. Also: what is as it was but one block, for the other texts of this claim. Also: what it is that a call owns the cells, the columns and the rows of a table: it stays where other blocks are turned; such a table lies in memory.
-/
import Derived.Test.YtggmjiddadjilaoD1
import Derived.Test.YtggmjiddadjilaoD2
import Derived.Laws.MakeOwn
import Derived.OwnWalk
import Derived.Lib.SmallJoins
import Derived.Laws.AppendOwn
namespace Go.Proofs.Ytggmjiddadjilao
open Go.RowKit
set_option maxRecDepth 100000 in
set_option maxHeartbeats 1000000 in
theorem toTblCellS_any (v:Value) (cs:List C) (hn:cs.length≤1048576) (w:World) {z:Nat} (h:CellsAt w z v cs) :
  Calls Try.prog 103 #[v] w fun e w'=>∃ u,e=.returned u∧CellsAt w' w.heap.size u cs∧Below w.heap.size w w':=by
 obtain ⟨a,cap,rfl,hlen⟩:=At.form h
 have hmk:=makeC cs.length hn
 have H:=Hid.intro h
 clear h
 go_enter Try.func103,Try.ntmps103
 go_wp2_with fail
 clear hmk
 go_loopw [4] (fun i W=>∃ (k:Nat) (arr:Array Value),k≤cs.length∧i=.int .i64 k∧Hid (W.heap[w.heap.size]?=some (.cells arr 62))∧arr.size=cs.length * 11∧Hid (∀ i,i < k→CellArr arr (i * 11) (cs.getD i dC))∧Hid (Below w.heap.size w W)∧w.heap.size < W.heap.size) (fun i _=>cs.length - (intOf i).toNat)
 case atStart=>exact ⟨0,newC cs.length,Nat.zero_le _,rfl,newestB _ _,newC_size _,fun i hi=>absurd hi (Nat.not_lt_zero _),k_alloc (Below.refl _ _) _,by simp⟩
 case round =>
  obtain ⟨k,arr,hk,rfl,HBk,hsz,HA,HB,hw⟩:=hrel
  by_cases hlt:k < cs.length
  ·obtain ⟨b,off,cap',e',hc1,hc2,hbl,hx,hs⟩:=At.get (H.out.kept HB.out) hlt
   simp only [Value.slice.injEq,true_and] at e'
   obtain ⟨rfl,rfl⟩:=e'
   have HN:=Hid.intro (put11_next hsz hlt HA.out)
   generalize cs.getD k dC=x at hx hs HN
   obtain ⟨x0,x1,x2,x3,x4,x5,x6,x7,x8,x9,x10⟩:=hx
   unfold maxLen at hc2
   go_wp2_with fail
   refine (toTblCell_any _ _ _ _ _ _ _ _ _ _ _ _).mono ?_
   rintro e w1 ⟨rfl,hb1⟩
   have B1:=(hb1.block w.heap.size hw).trans HBk.out
   have hw1:w.heap.size < w1.heap.size:=Nat.lt_of_lt_of_le hw hb1.size
   obtain ⟨y0,q0⟩:=someB (p:=k * 11) B1 (by omega)
   obtain ⟨y1,q1⟩:=someB (p:=k * 11+1) B1 (by omega)
   obtain ⟨y2,q2⟩:=someB (p:=k * 11+2) B1 (by omega)
   obtain ⟨y3,q3⟩:=someB (p:=k * 11+3) B1 (by omega)
   obtain ⟨y4,q4⟩:=someB (p:=k * 11+4) B1 (by omega)
   obtain ⟨y5,q5⟩:=someB (p:=k * 11+5) B1 (by omega)
   obtain ⟨y6,q6⟩:=someB (p:=k * 11+6) B1 (by omega)
   obtain ⟨y7,q7⟩:=someB (p:=k * 11+7) B1 (by omega)
   obtain ⟨y8,q8⟩:=someB (p:=k * 11+8) B1 (by omega)
   obtain ⟨y9,q9⟩:=someB (p:=k * 11+9) B1 (by omega)
   obtain ⟨y10,q10⟩:=someB (p:=k * 11+10) B1 (by omega)
   have fz:∀ p,w1.frozen? ⟨w.heap.size,p,none⟩=false:=fun p=>freeB B1
   have HB1:=Hid.intro B1
   have HK1:=Hid.intro (k_trans HB.out hb1)
   clear B1 hb1 HA HB HBk x0 x1 x2 x3 x4 x5 x6 x7 x8 x9 x10
   go_wp2
   go_roundw
   case rel=>exact ⟨k+1,put11 arr (k * 11) x,by omega,by go_num,setB (setB (setB (setB (setB (setB (setB (setB (setB (setB (setB HB1.out _) _) _) _) _) _) _) _) _) _) _,by rw [put11_size];exact hsz,HN,(k_set (k_set (k_set (k_set (k_set (k_set (k_set (k_set (k_set (k_set (k_set HK1.out (Nat.le_refl _) _) (Nat.le_refl _) _) (Nat.le_refl _) _) (Nat.le_refl _) _) (Nat.le_refl _) _) (Nat.le_refl _) _) (Nat.le_refl _) _) (Nat.le_refl _) _) (Nat.le_refl _) _) (Nat.le_refl _) _) (Nat.le_refl _) _),Nat.lt_of_lt_of_eq hw1 (by iterate 11 rw [sizeSet])⟩
   case measure=>simp [intOf];omega
  ·obtain rfl:k=cs.length:=by omega
   go_wp2
   go_ret
   refine ⟨_,rfl,⟨_,_,rfl,Nat.le_refl _,hlen,fun i hi=>⟨w.heap.size,0,rfl,hw,Nat.le_refl _,?_,?_⟩⟩,HB.out⟩
   ·rw [Nat.zero_add];exact CellIs.of_arr HBk.out (HA.out i hi)
   ·obtain ⟨_,_,_,_,_,_,_,_,hs⟩:=At.get H.out hi;exact hs

set_option maxRecDepth 100000 in
set_option maxHeartbeats 1000000 in
theorem toTblRow_any (u:Value) (cs:List C) (q:Bool) (hn:cs.length≤1048576) (w:World) {z:Nat} (h:CellsAt w z u cs) :
  Calls Try.prog 81 #[.agg #[u,.bool q]] w fun e w'=>∃ a cap,e=.returned (.agg #[.slice a cs.length cap,.bool q])∧CellsAt w' w.heap.size (.slice a cs.length cap) cs∧Below w.heap.size w w':=by
 obtain ⟨a,cap,rfl,hlen⟩:=At.form h
 have H:=Hid.intro h
 clear h
 go_enter Try.func81,Try.ntmps81
 go_wp2_with fail
 refine (toTblCellS_any _ cs hn _ (H.out.kept (k_alloc (k_alloc (k_alloc (Below.refl _ _) _) _) _))).mono ?_
 rintro e w1 ⟨u',rfl,hc',hb1⟩
 obtain ⟨a',cap',rfl,_⟩:=At.form hc'
 obtain ⟨hc1,hf1⟩:=bcell hb1
 have hz1:w.heap.size+1+1 < w1.heap.size:=by have:=hb1.size;simp at this;omega
 have hy1:w.heap.size+1 < w1.heap.size:=by omega
 have hx1:w.heap.size < w1.heap.size:=by omega
 have HC:=Hid.intro hc'
 have HB:=Hid.intro hb1
 clear hc' hb1
 go_wp2
 refine bodyPost_ret (v:=.agg #[.slice a' cs.length cap',.bool q]) (by simp [results,Try.results81,go_sem,hc1]) rfl ⟨a',cap',rfl,?_,?_⟩
 ·exact ((((HC.out.since (Since.set (Since.set (Since.set (Since.set (Since.refl _ _) (by simp) _) (by simp) _) (by simp) _) (by simp) _))).base (by simp;omega)))
 ·exact k_set (k_set (k_set (k_set (k_trans (k_alloc (k_alloc (k_alloc (Below.refl _ _) _) _) _) HB.out) (by dsimp only;omega) _) (by dsimp only;omega) _) (by dsimp only;omega) _) (by dsimp only;omega) _

set_option maxRecDepth 100000 in
set_option maxHeartbeats 1000000 in
theorem toTblRowS_any (v:Value) (rs:List R) (hn:totR rs≤1048576) (w:World) {z:Nat} (h:RowsAt w z v rs) :
  Calls Try.prog 50 #[v] w fun e w'=>∃ a cap,e=.returned (.slice a rs.length cap)∧RowsAt w' w.heap.size (.slice a rs.length cap) rs∧Below w.heap.size w w':=by
 obtain ⟨a,cap,rfl,hlen⟩:=At.form h
 have hl:rs.length≤1048576:=by have:=totR_eq rs;omega
 have hmk:=makeR rs.length hl
 have H:=Hid.intro h
 clear h
 go_enter Try.func50,Try.ntmps50
 go_wp2_with fail
 clear hmk
 go_loopw [4] (fun i W=>∃ (k:Nat) (arr:Array Value),k≤rs.length∧i=.int .i64 k∧Hid (W.heap[w.heap.size]?=some (.cells arr 88))∧arr.size=rs.length * 2∧Hid (RowArr W (w.heap.size+1) arr rs k)∧Hid (Below w.heap.size w W)∧w.heap.size < W.heap.size) (fun i _=>rs.length - (intOf i).toNat)
 case atStart=>exact ⟨0,newR rs.length,Nat.zero_le _,rfl,newestB _ _,newR_size _,fun i hi=>absurd hi (Nat.not_lt_zero _),k_alloc (Below.refl _ _) _,by simp⟩
 case round =>
  obtain ⟨k,arr,hk,rfl,HBk,hsz,HA,HB,hw⟩:=hrel
  by_cases hlt:k < rs.length
  ·obtain ⟨b,off,cap',e',hc1,hc2,hbl,u,hx0,hx1,hx⟩:=At.get (H.out.kept HB.out) hlt
   simp only [Value.slice.injEq,true_and] at e'
   obtain ⟨rfl,rfl⟩:=e'
   have hlx:(rs.getD k dR).cells.length≤1048576:=by
    have h1:=rwTo_succ hlt
    have h2:=rwTo_le rs (k+1)
    have h3:=totC_eq (rs.getD k dR).cells
    have h4:=totR_eq rs
    omega
   have HN:=Hid.intro (fun (w':World) (hs:Since (w.heap.size+1) wr w') (u:Value) (hu:CellsAt w' (w.heap.size+1) u (rs.getD k dR).cells)=>HA.out.next hsz hlt hs hu)
   generalize rs.getD k dR=x at hx1 hx HN hlx
   obtain ⟨ua,ucap,rfl,hul⟩:=At.form hx
   have HX:=Hid.intro hx
   unfold maxLen at hc2
   clear hx hul
   go_wp2_with fail
   refine (toTblRow_any _ x.cells x.whole hlx _ HX.out).mono ?_
   rintro e w1 ⟨a1,cap1,rfl,hC1,hb1⟩
   have B1:=(hb1.block w.heap.size hw).trans HBk.out
   have hw1:w.heap.size < w1.heap.size:=Nat.lt_of_lt_of_le hw hb1.size
   obtain ⟨y0,q0⟩:=someB (p:=k * 2) B1 (by omega)
   obtain ⟨y1,q1⟩:=someB (p:=k * 2+1) B1 (by omega)
   have fz:∀ p,w1.frozen? ⟨w.heap.size,p,none⟩=false:=fun p=>freeB B1
   have HB1:=Hid.intro B1
   have HK1:=Hid.intro (k_trans HB.out hb1)
   have HS1:=Hid.intro (Since.set (Since.set (Since.of_below (z:=w.heap.size+1) hb1) (p:=⟨w.heap.size,k * 2,none⟩) (Nat.lt_succ_self _) (.slice a1 x.cells.length cap1)) (p:=⟨w.heap.size,k * 2+1,none⟩) (Nat.lt_succ_self _) (.bool x.whole))
   have HC1:=Hid.intro ((hC1.base (z':=w.heap.size+1) hw).since (Since.set (Since.set (Since.refl _ _) (p:=⟨w.heap.size,k * 2,none⟩) (Nat.lt_succ_self _) (.slice a1 x.cells.length cap1)) (p:=⟨w.heap.size,k * 2+1,none⟩) (Nat.lt_succ_self _) (.bool x.whole)))
   clear B1 hb1 HA HB HBk hC1 hx0 hx1
   go_wp2
   go_roundw
   case rel=>exact ⟨k+1,_,by omega,by go_num,setB (setB HB1.out _) _,by rw [Array.size_setIfInBounds,Array.size_setIfInBounds];exact hsz,HN.out _ HS1.out _ HC1.out,k_set (k_set HK1.out (Nat.le_refl _) _) (Nat.le_refl _) _,Nat.lt_of_lt_of_eq hw1 (by iterate 2 rw [sizeSet])⟩
   case measure=>simp [intOf];omega
  ·obtain rfl:k=rs.length:=by omega
   go_wp2
   go_ret
   refine ⟨_,_,rfl,⟨_,_,rfl,Nat.le_refl _,hlen,fun i hi=>⟨w.heap.size,0,rfl,hw,Nat.le_refl _,?_⟩⟩,HB.out⟩
   obtain ⟨u,e1,e2,e3⟩:=HA.out i hi
   rw [Nat.zero_add]
   exact ⟨u,(cellB HBk.out).trans e1,(cellB HBk.out).trans e2,e3.base (Nat.le_succ _)⟩

theorem toTblCol_any (a b:Int) (w:World) :
  Calls Try.prog 80 #[.agg #[.int .i64 a,.int .i64 b]] w fun e w'=>e=.returned (.agg #[.int .i64 a,.int .i64 b])∧Below w.heap.size w w':=by
 go_enter Try.func80,Try.ntmps80
 go_wp2
 refine bodyPost_ret (v:=.agg #[.int .i64 a,.int .i64 b]) (by simp [results,Try.results80,go_sem]) rfl ⟨rfl,?_⟩
 exact k_alloc (k_alloc (k_alloc (Below.refl _ _) _) _) _

set_option maxRecDepth 100000 in
set_option maxHeartbeats 1000000 in
theorem toTblColS_any (v:Value) (ps:List (Int × Int)) (hn:ps.length≤1048576) (w:World) {z:Nat} (h:ColsAt w z v ps) :
  Calls Try.prog 49 #[v] w fun e w'=>∃ a cap,e=.returned (.slice a ps.length cap)∧ColsAt w' w.heap.size (.slice a ps.length cap) ps∧Below w.heap.size w w':=by
 obtain ⟨a,cap,rfl,hlen⟩:=At.form h
 have hmk:=makeK ps.length hn
 have H:=Hid.intro h
 clear h
 go_enter Try.func49,Try.ntmps49
 go_wp2_with fail
 clear hmk
 go_loopw [4] (fun i W=>∃ (k:Nat) (arr:Array Value),k≤ps.length∧i=.int .i64 k∧Hid (W.heap[w.heap.size]?=some (.cells arr 120))∧arr.size=ps.length * 2∧Hid (ColArr arr ps k)∧Hid (Below w.heap.size w W)∧w.heap.size < W.heap.size) (fun i _=>ps.length - (intOf i).toNat)
 case atStart=>exact ⟨0,newK ps.length,Nat.zero_le _,rfl,newestB _ _,newK_size _,fun i hi=>absurd hi (Nat.not_lt_zero _),k_alloc (Below.refl _ _) _,by simp⟩
 case round =>
  obtain ⟨k,arr,hk,rfl,HBk,hsz,HA,HB,hw⟩:=hrel
  by_cases hlt:k < ps.length
  ·obtain ⟨b,off,cap',e',hc1,hc2,hbl,hx0,hx1⟩:=At.get (H.out.kept HB.out) hlt
   simp only [Value.slice.injEq,true_and] at e'
   obtain ⟨rfl,rfl⟩:=e'
   have HN:=Hid.intro (HA.out.next hsz hlt)
   generalize ps.getD k (0,0)=x at hx0 hx1 HN
   unfold maxLen at hc2
   go_wp2_with fail
   refine (toTblCol_any _ _ _).mono ?_
   rintro e w1 ⟨rfl,hb1⟩
   have B1:=(hb1.block w.heap.size hw).trans HBk.out
   have hw1:w.heap.size < w1.heap.size:=Nat.lt_of_lt_of_le hw hb1.size
   obtain ⟨y0,q0⟩:=someB (p:=k * 2) B1 (by omega)
   obtain ⟨y1,q1⟩:=someB (p:=k * 2+1) B1 (by omega)
   have fz:∀ p,w1.frozen? ⟨w.heap.size,p,none⟩=false:=fun p=>freeB B1
   have HB1:=Hid.intro B1
   have HK1:=Hid.intro (k_trans HB.out hb1)
   clear B1 hb1 HA HB HBk hx0 hx1
   go_wp2
   go_roundw
   case rel=>exact ⟨k+1,_,by omega,by go_num,setB (setB HB1.out _) _,by rw [Array.size_setIfInBounds,Array.size_setIfInBounds];exact hsz,HN,k_set (k_set HK1.out (Nat.le_refl _) _) (Nat.le_refl _) _,Nat.lt_of_lt_of_eq hw1 (by iterate 2 rw [sizeSet])⟩
   case measure=>simp [intOf];omega
  ·obtain rfl:k=ps.length:=by omega
   go_wp2
   go_ret
   refine ⟨_,_,rfl,⟨_,_,rfl,Nat.le_refl _,hlen,fun i hi=>⟨w.heap.size,0,rfl,hw,Nat.le_refl _,?_⟩⟩,HB.out⟩
   obtain ⟨e1,e2⟩:=HA.out i hi
   rw [Nat.zero_add]
   exact ⟨(cellB HBk.out).trans e1,(cellB HBk.out).trans e2⟩

set_option maxRecDepth 100000 in
set_option maxHeartbeats 1000000 in
theorem toTblTable_any (v:Value) (t:T) (hn:totT t≤1048576) (w:World) {z:Nat} (h:TblAt w z v t) :
  Calls Try.prog 23 #[v] w fun e w'=>∃ ac cc ar cr,e=.returned (.agg #[.slice ac t.cols.length cc,.int .i64 t.head,.int .i64 t.foot,.slice ar t.rows.length cr,.int .i64 t.gap]) ∧
   ColsAt w' w.heap.size (.slice ac t.cols.length cc) t.cols∧RowsAt w' w.heap.size (.slice ar t.rows.length cr) t.rows∧Below w.heap.size w w':=by
 obtain ⟨vc,vr,rfl,h1,h2⟩:=h
 obtain ⟨ac,capc,rfl,hlc⟩:=At.form h1
 obtain ⟨ar,capr,rfl,hlr⟩:=At.form h2
 have hn1:t.cols.length≤1048576:=by unfold totT at hn;omega
 have hn2:totR t.rows≤1048576:=by unfold totT at hn;omega
 have H1:=Hid.intro h1
 have H2:=Hid.intro h2
 clear h1 h2 hlc hlr hn
 go_enter Try.func23,Try.ntmps23
 go_wp2_with fail
 refine (toTblColS_any _ t.cols hn1 _ (H1.out.kept (k_alloc (k_alloc (k_alloc (Below.refl _ _) _) _) _))).mono ?_
 rintro e w1 ⟨a1,cap1,rfl,hC1,hb1⟩
 obtain ⟨hc1,hf1⟩:=bcell hb1
 have hz1:w.heap.size+1+1 < w1.heap.size:=by have:=hb1.size;simp at this;omega
 have hy1:w.heap.size+1 < w1.heap.size:=by omega
 have hx1:w.heap.size < w1.heap.size:=by omega
 have HC1:=Hid.intro hC1
 have HB1:=Hid.intro hb1
 clear hC1 hb1
 go_wp2_with fail
 refine (toTblRowS_any _ t.rows hn2 _ (H2.out.kept (k_set (k_set (k_set (k_trans (k_alloc (k_alloc (k_alloc (Below.refl _ _) _) _) _) HB1.out) (by dsimp only;omega) _) (by dsimp only;omega) _) (by dsimp only;omega) _))).mono ?_
 rintro e w2 ⟨a2,cap2,rfl,hC2,hb2⟩
 obtain ⟨hc2,hf2⟩:=bcell hb2
 have hz2:w.heap.size+1+1 < w2.heap.size:=by have:=hb2.size;simp at this;omega
 have hy2:w.heap.size+1 < w2.heap.size:=by omega
 have hx2:w.heap.size < w2.heap.size:=by omega
 have HC2:=Hid.intro hC2
 have HB2:=Hid.intro hb2
 clear hC2 hb2
 go_wp2
 refine bodyPost_ret (v:=.agg #[.slice a1 t.cols.length cap1,.int .i64 t.head,.int .i64 t.foot,.slice a2 t.rows.length cap2,.int .i64 t.gap]) (by simp [results,Try.results23,go_sem,hc1,hc2,hy1]) rfl ⟨a1,cap1,a2,cap2,rfl,?_,?_,?_⟩
 ·exact (((HC1.out.since (Since.set (Since.set (Since.set (Since.refl _ _) (by simp) _) (by simp) _) (by simp) _)).since (Since.set (Since.set (Since.set (Since.set (Since.set (Since.set (Since.set (Since.of_below HB2.out) (by simp) _) (by simp) _) (by simp) _) (by simp) _) (by simp) _) (by simp) _) (by simp) _)).base (by simp;omega))
 ·exact ((HC2.out.since (Since.set (Since.set (Since.set (Since.set (Since.set (Since.set (Since.set (Since.refl _ _) (by simp;omega) _) (by simp;omega) _) (by simp;omega) _) (by simp;omega) _) (by simp;omega) _) (by simp;omega) _) (by simp;omega) _)).base (by simp;omega))
 ·exact (k_set (k_set (k_set (k_set (k_set (k_set (k_set (k_trans (k_set (k_set (k_set (k_trans (k_alloc (k_alloc (k_alloc (Below.refl _ _) _) _) _) HB1.out) (by dsimp only;omega) _) (by dsimp only;omega) _) (by dsimp only;omega) _) HB2.out) (by dsimp only;omega) _) (by dsimp only;omega) _) (by dsimp only;omega) _) (by dsimp only;omega) _) (by dsimp only;omega) _) (by dsimp only;omega) _) (by dsimp only;omega) _)
end Go.Proofs.Ytggmjiddadjilao
namespace Go.Proofs.Ytggmjiddadjilao
open Go.RowKit

theorem row_form {w:World} {base:Nat} {e:TypeId} {sz:Nat} {v:Value} {m:Nat} {xs:List Value} (h:w.ownsRow base e sz v m xs):∃ a cap,v=.slice a m cap∧m≤maxLen:=by
 rcases h.2 with ⟨rfl,rfl⟩ | ⟨g,cap,cur,rfl,_,_,h1,h2,_⟩
 ·exact ⟨none,0,rfl,by unfold maxLen;omega⟩
 ·exact ⟨_,cap,rfl,Nat.le_trans h1 h2⟩
/-- elements of so many cells, one behind the other -/
theorem flat_get {α:Type} (f:α→List Value) (sz:Nat) (hf:∀ x,(f x).length=sz) (l:List α) (i:Nat) (hi:i < l.length) (j:Nat) (hj:j < sz):(l.flatMap f)[i * sz+j]?=(f l[i])[j]?:=by
 induction l generalizing i with
 | nil=>simp at hi
 | cons a t ih =>
  rw [List.flatMap_cons]
  cases i with
  | zero=>rw [List.getElem?_append_left (by rw [hf];omega)];simp
  | succ i =>
   rw [List.getElem?_append_right (by rw [hf,Nat.succ_mul];omega),hf]
   have e:(i+1) * sz+j - sz=i * sz+j:=by rw [Nat.succ_mul];omega
   rw [e,ih i (by simpa using hi)]
   simp
theorem flat_len {α:Type} (f:α→List Value) (sz:Nat) (hf:∀ x,(f x).length=sz) (l:List α):(l.flatMap f).length=l.length * sz:=by
 induction l with
 | nil=>simp
 | cons a t ih=>rw [List.flatMap_cons,List.length_append,hf,ih,List.length_cons,Nat.succ_mul];omega
theorem row_cell {w:World} {base:Nat} {e:TypeId} {sz:Nat} {m:Nat} {xs:List Value} {g cap:Nat} (h:w.ownsRow base e sz (.slice (some ⟨g,0,none⟩) m cap) m xs) {k:Nat} {u:Value} (hk:xs[k]?=some u):w.cell? ⟨g,k,none⟩=some u:=by
 have hl:k < xs.length:=(List.getElem?_eq_some_iff.1 hk).1
 rcases h.2 with ⟨e,_⟩ | ⟨g',cap',cur,e,_,hc,_,_,_,ht⟩
 ·simp at e
 ·simp at e
  obtain ⟨rfl,rfl⟩:=e
  rw [cellB hc,← Array.getElem?_toList]
  rw [← ht,List.getElem?_take_of_lt (by rw [h.1] at hl;exact hl)] at hk
  exact hk
theorem news_at {w:World} {g:Nat} {arr:Array Value} {t:TypeId} (h:w.heap[g]?=some (.cells arr t)):∀ j u,arr.toList[j]?=some u→w.cell? ((⟨g,0,none⟩:Addr).add j)=some u:=fun j u hu=>by
 have e:(⟨g,0,none⟩:Addr).add j=⟨g,j,none⟩:=by simp [Addr.add];intro h;exact h.symm
 rw [e,cellB h,← Array.getElem?_toList]
 exact hu
end Go.Proofs.Ytggmjiddadjilao
namespace Go.Proofs.Ytggmjiddadjilao
open Go.RowKit

/-- All that was in memory is as it was, but for block r. -/
structure Bk (r:Nat) (w w':World):Prop where
 os:w'.os=w.os
 tape:w'.tape=w.tape
 output:w'.output=w.output
 size:w.heap.size≤w'.heap.size
 block:∀ k,k < w.heap.size→k ≠ r→w'.heap[k]?=w.heap[k]?
theorem Bk.refl (r:Nat) (w:World):Bk r w w:=⟨rfl,rfl,rfl,Nat.le_refl _,fun _ _ _=>rfl⟩
theorem Bk.trans {r:Nat} {a b c:World} (h:Bk r a b) (k:Bk r b c):Bk r a c :=
 ⟨k.os.trans h.os,k.tape.trans h.tape,k.output.trans h.output,Nat.le_trans h.size k.size,fun i hi hr=>(k.block i (Nat.lt_of_lt_of_le hi h.size) hr).trans (h.block i hi hr)⟩
theorem Bk.alloc {r:Nat} {a w:World} (h:Bk r a w) (o:Obj):Bk r a (w.alloc o) :=
 h.trans ⟨rfl,rfl,rfl,by simp,fun k hk _=>Below.heap_alloc _ _ _ hk⟩
theorem Bk.drew {r:Nat} {a w:World} (h:Bk r a w):Bk r a w.drew:=⟨h.os,h.tape,h.output,h.size,h.block⟩
theorem Bk.set {r:Nat} {a w:World} (h:Bk r a w) {p:Addr} (hp:p.block=r∨a.heap.size≤p.block) (u:Value):Bk r a (w.setCell p u) :=
 ⟨h.os,h.tape,h.output,by simpa [World.setCell] using h.size,fun k hk hr=>(Below.heap_setCell _ _ _ _ (by omega)).trans (h.block k hk hr)⟩
theorem Bk.below {r:Nat} {w w':World} (h:Bk r w w') {n:Nat} (hn:n≤w.heap.size) (hr:n≤r):Below n w w':=⟨h.os,h.tape,h.output,h.size,fun k hk=>h.block k (by omega) (by omega)⟩
theorem Bk.of_below {r:Nat} {w w':World} (h:Below w.heap.size w w'):Bk r w w':=⟨h.os,h.tape,h.output,h.size,fun k hk _=>h.block k hk⟩
theorem Bk.cell {r:Nat} {w w':World} (h:Bk r w w') {p:Addr} (hp:p.block < w.heap.size) (hr:p.block ≠ r):w'.cell? p=w.cell? p:=World.cell?_of_block (w:=w) (h.block p.block hp hr)
theorem Bk.frozen {r:Nat} {w w':World} (h:Bk r w w') {p:Addr} (hp:p.block < w.heap.size) (hr:p.block ≠ r):w'.frozen? p=w.frozen? p:=World.frozen?_of_block (w:=w) (h.block p.block hp hr)
theorem Bk.cells {r:Nat} {w w':World} (h:Bk r w w'):(∀ b o,b < w.heap.size→b ≠ r→w'.cell? ⟨b,o,none⟩=w.cell? ⟨b,o,none⟩)∧(∀ b o,b < w.heap.size→b ≠ r→w'.frozen? ⟨b,o,none⟩=w.frozen? ⟨b,o,none⟩) :=
 ⟨fun b o h1 h2=>h.cell (p:=⟨b,o,none⟩) h1 h2,fun b o h1 h2=>h.frozen (p:=⟨b,o,none⟩) h1 h2⟩
end Go.Proofs.Ytggmjiddadjilao
namespace Go.Proofs.Ytggmjiddadjilao
open Go.RowKit

/-- a cell's eleven cells -/
def cellVs (x:C):List Value:=[.string x.s,.int .i64 x.c,.int .i64 x.r,.int .i64 x.a1,.int .i64 x.b1,.int .i64 x.a2,.int .i64 x.b2,.int .i64 x.a3,.int .i64 x.b3,.int .i64 x.a4,.int .i64 x.b4]
def colVs (p:Int × Int):List Value:=[.int .i64 p.1,.int .i64 p.2]
def rowVs (p:Value × R):List Value:=[p.1,.bool p.2.whole]
def OwnC (w:World) (base:Nat) (u:Value) (cs:List C):Prop:=w.ownsRow base 62 11 u cs.length (cs.flatMap cellVs)
def OwnCol (w:World) (base:Nat) (v:Value) (ps:List (Int × Int)):Prop:=w.ownsRow base 120 2 v ps.length (ps.flatMap colVs)
/-- rows, each with its slice of cells -/
structure OwnR (w:World) (base:Nat) (v:Value) (ur:List (Value × R)):Prop where
 own:w.ownsRow base 88 2 v ur.length (ur.flatMap rowVs)
 cells:∀ p ∈ ur,OwnC w base p.1 p.2.cells
 apart:ur.Pairwise fun p q=>p.1.ownBlock=none∨p.1.ownBlock ≠ q.1.ownBlock

/-- what stays: all blocks from n on but these two -/
structure Off (n:Nat) (b1 b2:Option Nat) (w w':World):Prop where
 size:w.heap.size≤w'.heap.size
 block:∀ k,n≤k→k < w.heap.size→some k ≠ b1→some k ≠ b2→w'.heap[k]?=w.heap[k]?
theorem Off.grown {n:Nat} {b1 b2:Option Nat} {w w':World} (h:w.grownBy w' b2):Off n b1 b2 w w':=⟨h.size,fun k _ hl _ h2=>h.block k hl h2⟩
theorem Off.set {n g:Nat} {b2:Option Nat} (w:World) (p:Addr) (hp:p.block=g) (v:Value):Off n (some g) b2 w (w.setCell p v):=⟨by simp [World.setCell],fun k _ _ h1 _=>Below.heap_setCell _ _ _ _ (fun e=>h1 (by rw [e,hp]))⟩

theorem row_off {w w':World} {base n:Nat} {e:TypeId} {sz:Nat} {v:Value} {m:Nat} {xs:List Value} {b1 b2:Option Nat} (h:w.ownsRow base e sz v m xs) (k:Off n b1 b2 w w') (hn:n≤base) (h1:v.ownBlock=none∨v.ownBlock ≠ b1) (h2:v.ownBlock=none∨v.ownBlock ≠ b2):w'.ownsRow base e sz v m xs :=
 ⟨h.1,h.2.elim Or.inl (fun ⟨g,cap,cur,hv,hg,hc,q⟩=>Or.inr ⟨g,cap,cur,hv,hg,(k.block g (by omega) (Array.getElem?_eq_some_iff.1 hc).1
  (fun e=>by subst hv;rcases h1 with h1 | h1 <;> simp [Value.ownBlock] at h1;exact h1 e)
  (fun e=>by subst hv;rcases h2 with h2 | h2 <;> simp [Value.ownBlock] at h2;exact h2 e)).trans hc,q⟩)⟩
/-- a block's kind tells blocks apart -/
theorem row_ne {w:World} {base base':Nat} {e e':TypeId} {sz sz':Nat} {v v':Value} {m m':Nat} {xs xs':List Value} (h:w.ownsRow base e sz v m xs) (h':w.ownsRow base' e' sz' v' m' xs') (he:e ≠ e'):v.ownBlock=none∨v.ownBlock ≠ v'.ownBlock:=by
 rcases h.2 with ⟨rfl,_⟩ | ⟨g,cap,cur,rfl,_,hc,_⟩
 ·exact .inl rfl
 ·refine .inr (fun e1=>?_)
  rcases h'.2 with ⟨rfl,_⟩ | ⟨g',cap',cur',rfl,_,hc',_⟩
  ·simp [Value.ownBlock] at e1
  ·simp [Value.ownBlock] at e1
   subst e1
   rw [hc] at hc'
   simp at hc'
   exact he hc'.2
theorem row_ne_block {w:World} {base:Nat} {e e':TypeId} {sz:Nat} {v:Value} {m:Nat} {xs:List Value} {g:Nat} {cur:Array Value} (h:w.ownsRow base e sz v m xs) (h':w.heap[g]?=some (.cells cur e')) (he:e ≠ e'):v.ownBlock=none∨v.ownBlock ≠ some g:=by
 rcases h.2 with ⟨rfl,_⟩ | ⟨g',cap,cur',rfl,_,hc,_⟩
 ·exact .inl rfl
 ·refine .inr (fun e1=>?_)
  simp [Value.ownBlock] at e1
  subst e1
  rw [hc] at h'
  simp at h'
  exact he h'.2
theorem row_lt {w:World} {base:Nat} {e:TypeId} {sz:Nat} {v:Value} {m:Nat} {xs:List Value} (h:w.ownsRow base e sz v m xs) {b:Nat} (hb:v.ownBlock=some b):base≤b∧b < w.heap.size:=by
 rcases h.2 with ⟨rfl,_⟩ | ⟨g,cap,cur,rfl,hg,hc,_⟩
 ·simp [Value.ownBlock] at hb
 ·simp [Value.ownBlock] at hb
  subst hb
  exact ⟨hg,(Array.getElem?_eq_some_iff.1 hc).1⟩
theorem row_base {w:World} {base base':Nat} {e:TypeId} {sz:Nat} {v:Value} {m:Nat} {xs:List Value} (h:w.ownsRow base e sz v m xs) (hb:base'≤base):w.ownsRow base' e sz v m xs :=
 ⟨h.1,h.2.elim Or.inl (fun ⟨g,cap,cur,hv,hg,q⟩=>Or.inr ⟨g,cap,cur,hv,by omega,q⟩)⟩
theorem OwnR.off {w w':World} {base n:Nat} {v:Value} {ur:List (Value × R)} {b1 b2:Option Nat} (h:OwnR w base v ur) (k:Off n b1 b2 w w') (hn:n≤base) (h1:v.ownBlock=none∨v.ownBlock ≠ b1) (h2:v.ownBlock=none∨v.ownBlock ≠ b2)
  (hc:∀ p ∈ ur,(p.1.ownBlock=none∨p.1.ownBlock ≠ b1)∧(p.1.ownBlock=none∨p.1.ownBlock ≠ b2)):OwnR w' base v ur :=
 ⟨row_off h.own k hn h1 h2,fun p hp=>row_off (h.cells p hp) k hn (hc p hp).1 (hc p hp).2,h.apart⟩
/-- what is not among two blocks -/
def OffV (v:Value) (b1 b2:Option Nat):Prop:=(v.ownBlock=none∨v.ownBlock ≠ b1)∧(v.ownBlock=none∨v.ownBlock ≠ b2)

theorem getD_get {α:Type} {l:List α} {i:Nat} (d:α) (h:i < l.length):l.getD i d=l[i]:=by simp [List.getD,h]
theorem OwnC.at {w:World} {base:Nat} {u:Value} {cs:List C} (h:OwnC w base u cs) (hs:∀ x ∈ cs,x.s.size≤61):CellsAt w base u cs:=by
 rcases h.2 with ⟨rfl,hn⟩ | ⟨g,cap,cur,rfl,hg,hc,h1,h2,_⟩
 ·exact ⟨none,0,by rw [hn],by omega,by unfold maxLen;omega,fun i hi=>by omega⟩
 ·refine ⟨_,cap,rfl,h1,h2,fun i hi=>⟨g,0,rfl,(Array.getElem?_eq_some_iff.1 hc).1,hg,?_,?_⟩⟩
  ·have hx:∀ j,j < 11→w.cell? ⟨g,i * 11+j,none⟩=(cellVs cs[i])[j]?:=fun j hj=>by
    have e:=flat_get cellVs 11 (fun _=>rfl) cs i hi j hj
    rw [row_cell h (u:=(cellVs cs[i])[j]'(by show j < 11;exact hj)) (by rw [e];simp)]
    simp
   rw [getD_get dC hi,Nat.zero_add]
   exact ⟨hx 0 (by omega),hx 1 (by omega),hx 2 (by omega),hx 3 (by omega),hx 4 (by omega),hx 5 (by omega),hx 6 (by omega),hx 7 (by omega),hx 8 (by omega),hx 9 (by omega),hx 10 (by omega)⟩
  ·rw [getD_get dC hi]
   have:=hs _ (List.getElem_mem hi)
   unfold maxLen
   omega
theorem OwnCol.at {w:World} {base:Nat} {u:Value} {ps:List (Int × Int)} (h:OwnCol w base u ps):ColsAt w base u ps:=by
 rcases h.2 with ⟨rfl,hn⟩ | ⟨g,cap,cur,rfl,hg,hc,h1,h2,_⟩
 ·exact ⟨none,0,by rw [hn],by omega,by unfold maxLen;omega,fun i hi=>by omega⟩
 ·refine ⟨_,cap,rfl,h1,h2,fun i hi=>⟨g,0,rfl,(Array.getElem?_eq_some_iff.1 hc).1,hg,?_⟩⟩
  have hx:∀ j,j < 2→w.cell? ⟨g,i * 2+j,none⟩=(colVs ps[i])[j]?:=fun j hj=>by
   have e:=flat_get colVs 2 (fun _=>rfl) ps i hi j hj
   rw [row_cell h (u:=(colVs ps[i])[j]'(by show j < 2;exact hj)) (by rw [e];simp)]
   simp
  dsimp only
  rw [getD_get (0,0) hi,Nat.zero_add]
  exact ⟨hx 0 (by omega),hx 1 (by omega)⟩
theorem OwnR.at {w:World} {base:Nat} {v:Value} {ur:List (Value × R)} (h:OwnR w base v ur) (hs:∀ p ∈ ur,∀ x ∈ p.2.cells,x.s.size≤61):RowsAt w base v (ur.map (·.2)):=by
 have hl:(ur.map (·.2)).length=ur.length:=by simp
 rcases h.own.2 with ⟨rfl,hn⟩ | ⟨g,cap,cur,rfl,hg,hc,h1,h2,_⟩
 ·exact ⟨none,0,by rw [hl,hn],by rw [hl];omega,by unfold maxLen;omega,fun i hi=>by rw [hl] at hi;omega⟩
 ·refine ⟨_,cap,by rw [hl],by rw [hl];exact h1,h2,fun i hi=>⟨g,0,rfl,(Array.getElem?_eq_some_iff.1 hc).1,hg,?_⟩⟩
  rw [hl] at hi
  have hx:∀ j,j < 2→w.cell? ⟨g,i * 2+j,none⟩=(rowVs ur[i])[j]?:=fun j hj=>by
   have e:=flat_get rowVs 2 (fun _=>rfl) ur i hi j hj
   rw [row_cell h.own (u:=(rowVs ur[i])[j]'(by show j < 2;exact hj)) (by rw [e];simp)]
   simp
  have hm:=List.getElem_mem hi
  dsimp only
  rw [getD_get dR (by rw [hl];exact hi),Nat.zero_add,List.getElem_map]
  exact ⟨ur[i].1,hx 0 (by omega),hx 1 (by omega),(h.cells _ hm).at (hs _ hm)⟩
theorem OwnR.base {w:World} {base base':Nat} {v:Value} {ur:List (Value × R)} (h:OwnR w base v ur) (hb:base'≤base):OwnR w base' v ur:=⟨row_base h.own hb,fun p hp=>row_base (h.cells p hp) hb,h.apart⟩
end Go.Proofs.Ytggmjiddadjilao
