/-
  PROVED HERE: what the program's takersOf and GrdOk answer at a grid that lies in memory; nothing that was in memory is turned. Also: what the program's QrySlots answers: how a grid looks, in new memory; nothing that was in memory is turned. Also: what the model's l3Meets and l3Free answer; nothing that was in memory is turned.
-/
import Derived.Test.YtggmjiddadjilaoB9
import Derived.Test.YtggmjiddadjilaoB6
import Derived.Test.YtggmjiddadjilaoB7
namespace Go.Proofs.Ytggmjiddadjilao
open Go.RowKit

/-- what takersOf hands back -/
def TakOut (g:G) (w:World) (e:Ending) (w':World):Prop :=
 (okB g=false∧e=.returned (.tuple #[.map none,.bool false]))∨(okB g=true∧∃ B,w.heap.size≤B∧e=.returned (.tuple #[.map (some B),.bool true])∧TakAt w' B (takenBy g.cells))

set_option maxRecDepth 100000 in
set_option maxHeartbeats 2000000 in
theorem takersOf_any (R C:Int) (ac:Option Addr) (cc:Nat) (gs:List GC) (w:World) {z:Nat} (h:GsAt w z (.slice ac gs.length cc) gs) :
  Calls Try.prog 73 #[.agg #[.int .i64 R,.int .i64 C,.slice ac gs.length cc]] w fun e w'=>TakOut ⟨R,C,gs⟩ w e w'∧Below w.heap.size w w':=by
 obtain ⟨_,_,_,hlen⟩:=At.form h
 unfold maxLen at hlen
 have H:=Hid.intro h
 clear h
 have hmm:=@run_makeMap Try.prog
 have KB:=Hid.intro (boundsOk_any R C ac gs.length cc)
 cases hb:boundsB R C gs.length with
 | false =>
  rw [hb] at KB
  have HF:Hid (okB ⟨R,C,gs⟩=false):=okB_false1 hb
  go_enter Try.func73,Try.ntmps73
  go_wp2_with fail
  refine (KB.out _).mono ?_
  rintro e w1 ⟨rfl,hb1⟩
  have K1:=Hid.intro (k_trans (k_alloc (Below.refl w.heap.size w) (.cells #[.int .i64 R,.int .i64 C,.slice ac gs.length cc] 36)) hb1)
  clear hb1
  go_wp2
  refine bodyPost_ret (results_tmp2 rfl _ _ _) rfl ?_
  exact ⟨.inl ⟨HF.out,rfl⟩,K1.out⟩
 | true =>
  rw [hb] at KB
  obtain ⟨hR1,hR2,hC1,hC2,hn⟩:=bounds_of hb
  have HBB:=Hid.intro hb
  clear hb
  go_enter Try.func73,Try.ntmps73
  go_wp2_with fail
  refine (KB.out _).mono ?_
  rintro e w1 ⟨rfl,hb1⟩
  have K1:=Hid.intro (k_trans (k_alloc (Below.refl w.heap.size w) (.cells #[.int .i64 R,.int .i64 C,.slice ac gs.length cc] 36)) hb1)
  have X1:=Hid.intro ((hb1.block w.heap.size (by simp)).trans (newestB _ _))
  have hs1:w.heap.size < w1.heap.size:=by have:=hb1.size;simp at this;omega
  clear hb1
  have g2:w1.cell? ⟨w.heap.size,2,none⟩=some (.slice ac gs.length cc):=cellB X1.out
  go_wp2_with fail
  have hBz:w.heap.size ≠ w1.heap.size:=by omega
  go_loopw [14] (fun i W=>∃ k:Nat,k≤gs.length∧i=.int .i64 k∧Hid (okTo R C gs k=true)∧Hid (TakAt W w1.heap.size (takenBy (gs.take k)))∧Hid (Below w.heap.size w W)∧Hid (W.heap[w.heap.size]?=some (.cells #[.int .i64 R,.int .i64 C,.slice ac gs.length cc] 36))) (fun i _=>gs.length - (intOf i).toNat)
  case atStart=>exact ⟨0,Nat.zero_le _,rfl,okTo_zero _ _ _,TakAt.new w1,k_alloc K1.out _,(Below.heap_alloc _ _ _ hs1).trans X1.out⟩
  case round =>
   obtain ⟨k,hk,rfl,HO,HT,HB,HX⟩:=hrel
   have g0:wr.cell? ⟨w.heap.size,0,none⟩=some (.int .i64 R):=cellB HX.out
   have g1:wr.cell? ⟨w.heap.size,1,none⟩=some (.int .i64 C):=cellB HX.out
   have g2':wr.cell? ⟨w.heap.size,2,none⟩=some (.slice ac gs.length cc):=cellB HX.out
   have hzr:w.heap.size < wr.heap.size:=(Array.getElem?_eq_some_iff.1 HX.out).1
   by_cases hlt:k < gs.length
   ·obtain ⟨q,off,cap',e',hc1,hc2,hbl,hx,hs⟩:=At.get (H.out.kept HB.out) hlt
    simp only [Value.slice.injEq,true_and] at e'
    obtain ⟨rfl,rfl⟩:=e'
    have HN:Hid (fitsB R C (gs.getD k dG)=true→freeG (gs.take k) (gs.getD k dG)=true→okTo R C gs (k+1)=true):=fun h1 h2=>okTo_succ HO.out h1 h2
    have HF:Hid ((fitsB R C (gs.getD k dG) && freeG (gs.take k) (gs.getD k dG))=false→okB ⟨R,C,gs⟩=false):=fun h1=>okB_false2 (okTo_false hlt h1)
    have HE:Hid (fitsB R C (gs.getD k dG)=true→freeIn (takenBy (gs.take k)) (gs.getD k dG).row.toNat (gs.getD k dG).col.toNat (gs.getD k dG).rows.toNat (gs.getD k dG).cols.toNat=freeG (gs.take k) (gs.getD k dG)):=fun h1=>free_eq (okTo_fits (Nat.le_of_lt hlt) HO.out) h1 hR2 hC2
    have HS:Hid (takenBy (gs.take (k+1))=takenBy (gs.take k) ++ (slotsG (gs.getD k dG)).map (·.1)):=by
     show takenBy (gs.take (k+1))=_
     rw [← takenBy_snoc,List.take_succ_eq_append_getElem hlt]
     simp [List.getD,hlt]
    have HLn:Hid ((takenBy (gs.take k)).length≤40 * 752):=by
     have:=takenBy_len hR2 hC2 (gs.take k) (okTo_fits (Nat.le_of_lt hlt) HO.out)
     rw [List.length_take] at this
     show (takenBy (gs.take k)).length≤40 * 752
     omega
    have KF:=Hid.intro (cellFits_any R C (.slice (some ⟨q,off,none⟩) gs.length cc) (gs.getD k dG) hs ⟨hR1,hR2⟩ ⟨hC1,hC2⟩)
    generalize gs.getD k dG=x at hx HN HF HE HS KF
    obtain ⟨x0,x1,x2,x3,x4⟩:=hx
    unfold maxLen at hc2
    clear hs
    cases h1:fitsB R C x with
    | false =>
     have HF':=Hid.intro (HF.out (by simp only [h1,Bool.false_and]))
     rw [h1] at KF
     clear HN HF HE HS HO h1
     go_wp2_with fail
     refine (KF.out _).mono ?_
     rintro e w3 ⟨rfl,hb3⟩
     have HB3:=Hid.intro (k_trans (k_alloc HB.out _) hb3)
     clear hb3
     go_wp2
     refine bodyPost_ret (results_tmp2 rfl _ _ _) rfl ?_
     exact ⟨.inl ⟨HF'.out,rfl⟩,HB3.out⟩
    | true =>
     have KA:=Hid.intro (fun (W:World) (B:Nat)=>allFreeG (x:=x) h1 hR2 hC2 W B (takenBy (gs.take k)))
     have KT:=Hid.intro (takeG (x:=x) h1 hR2 hC2)
     rw [HE.out h1] at KA
     rw [h1] at KF
     go_wp2_with fail
     refine (KF.out _).mono ?_
     rintro e w3 ⟨rfl,hb3⟩
     have HB3:=Hid.intro (k_trans (k_alloc HB.out _) hb3)
     have HX3:=Hid.intro ((hb3.block w.heap.size (by simp;omega)).trans ((Below.heap_alloc _ _ _ hzr).trans HX.out))
     have HY3:=Hid.intro ((hb3.block wr.heap.size (by simp)).trans (newestB _ _))
     have hzt:=HT.out.lt
     have HT3:Hid (TakAt w3 w1.heap.size (takenBy (gs.take k))):=HT.out.of_block ((hb3.block _ (by simp;omega)).trans (Below.heap_alloc _ _ _ hzt))
     have y0:w3.cell? ⟨wr.heap.size,0,none⟩=some (.int .i64 x.row):=cellB HY3.out
     have y1:w3.cell? ⟨wr.heap.size,1,none⟩=some (.int .i64 x.col):=cellB HY3.out
     have y2:w3.cell? ⟨wr.heap.size,2,none⟩=some (.int .i64 x.rows):=cellB HY3.out
     have y3:w3.cell? ⟨wr.heap.size,3,none⟩=some (.int .i64 x.cols):=cellB HY3.out
     have y4:w3.cell? ⟨wr.heap.size,4,none⟩=some (.int .i64 x.ins):=cellB HY3.out
     clear hb3
     cases h2:freeG (gs.take k) x with
     | false =>
      have HF':=Hid.intro (HF.out (by simp only [h2,Bool.and_false]))
      rw [h2] at KA
      clear HN HF HE HS HO h2 h1
      go_wp2_with fail
      refine (KA.out _ _ HT3.out).mono ?_
      rintro e w4 ⟨rfl,hb4⟩
      have HB4:=Hid.intro (k_trans HB3.out hb4)
      clear hb4
      go_wp2
      refine bodyPost_ret (results_tmp2 rfl _ _ _) rfl ?_
      exact ⟨.inl ⟨HF'.out,rfl⟩,HB4.out⟩
     | true =>
      have HN':=Hid.intro (HN.out h1 h2)
      rw [h2] at KA
      clear HN HF HE HO h2 h1
      go_wp2_with fail
      refine (KA.out _ _ HT3.out).mono ?_
      rintro e w4 ⟨rfl,hb4⟩
      have HB4:=Hid.intro (k_trans HB3.out hb4)
      have hz3:w.heap.size < w3.heap.size:=(Array.getElem?_eq_some_iff.1 HX3.out).1
      have HX4:=Hid.intro ((hb4.block w.heap.size hz3).trans HX3.out)
      have hy3:wr.heap.size < w3.heap.size:=(Array.getElem?_eq_some_iff.1 HY3.out).1
      have HY4:=Hid.intro ((hb4.block wr.heap.size hy3).trans HY3.out)
      have HT4:Hid (TakAt w4 w1.heap.size (takenBy (gs.take k))):=HT3.out.of_block (hb4.block _ HT3.out.lt)
      have z0:w4.cell? ⟨wr.heap.size,0,none⟩=some (.int .i64 x.row):=cellB HY4.out
      have z1:w4.cell? ⟨wr.heap.size,1,none⟩=some (.int .i64 x.col):=cellB HY4.out
      have z2:w4.cell? ⟨wr.heap.size,2,none⟩=some (.int .i64 x.rows):=cellB HY4.out
      have z3:w4.cell? ⟨wr.heap.size,3,none⟩=some (.int .i64 x.cols):=cellB HY4.out
      have z4:w4.cell? ⟨wr.heap.size,4,none⟩=some (.int .i64 x.ins):=cellB HY4.out
      clear hb4 y0 y1 y2 y3 y4
      go_wp2_with fail
      refine (KT.out _ _ _ HT4.out HLn.out).mono ?_
      rintro e w5 ⟨⟨vt,rfl⟩,hT5,hg5⟩
      have HT5:=Hid.intro hT5
      have HB5:Hid (Below w.heap.size w w5):=HB4.out.grown hg5 HB4.out.size (fun j e=>by cases e;omega)
      have hz4:w.heap.size < w4.heap.size:=(Array.getElem?_eq_some_iff.1 HX4.out).1
      have HX5:Hid (w5.heap[w.heap.size]?=_):=Hid.intro ((hg5.block w.heap.size hz4 (by simp;omega)).trans HX4.out)
      clear hT5 hg5
      go_wp2
      go_roundw
      case rel=>exact ⟨k+1,by omega,by go_num,HN',by rw [HS.out];exact HT5.out,HB5,HX5⟩
      case measure=>simp [intOf];omega
   ·obtain rfl:k=gs.length:=by omega
    have HF:Hid (okB ⟨R,C,gs⟩=true):=by
     show okB _=true
     simp only [okB,HBB.out,HO.out,Bool.and_self]
    clear HO
    go_wp2
    refine bodyPost_ret (results_tmp2 rfl _ _ _) rfl ?_
    exact ⟨.inr ⟨HF.out,w1.heap.size,by omega,rfl,by have:=HT.out;rwa [List.take_length] at this⟩,HB.out⟩

set_option maxRecDepth 100000 in
set_option maxHeartbeats 1000000 in
theorem implGrdOk (R C:Int) (ac:Option Addr) (cc:Nat) (gs:List GC) (w:World) {z:Nat} (h:GsAt w z (.slice ac gs.length cc) gs) :
  Calls Try.prog 37 #[.agg #[.int .i64 R,.int .i64 C,.slice ac gs.length cc]] w fun e w'=>e=.returned (.bool (okB ⟨R,C,gs⟩))∧Below w.heap.size w w':=by
 have K0:=Hid.intro (k_alloc (Below.refl w.heap.size w) (.cells #[.int .i64 R,.int .i64 C,.slice ac gs.length cc] 36))
 have H:=Hid.intro (h.kept K0.out)
 clear h
 go_enter Try.func37,Try.ntmps37
 go_wp2_with fail
 refine (takersOf_any R C ac cc gs _ H.out).mono ?_
 rintro e w1 ⟨ho,hb1⟩
 have K1:=Hid.intro (k_trans K0.out hb1)
 clear hb1
 rcases ho with ⟨h1,rfl⟩ | ⟨h1,B,_,rfl,_⟩
 ·have HF:=Hid.intro h1
  clear h1
  go_wp2
  go_ret
  exact ⟨retB HF.out.symm,K1.out⟩
 ·have HF:=Hid.intro h1
  clear h1
  go_wp2
  go_ret
  exact ⟨retB HF.out.symm,K1.out⟩
end Go.Proofs.Ytggmjiddadjilao
namespace Go.Proofs.Ytggmjiddadjilao
open Go.RowKit

def qsObj (R C:Int) (ac:Option Addr) (n cc:Nat):Obj:=.cells #[.int .i64 R,.int .i64 C,.slice ac n cc] 36
/-- the call's own grid, and what was in memory, all along the call -/
structure QW (w:World) (R C:Int) (ac:Option Addr) (n cc:Nat) (W:World):Prop where
 below:Below w.heap.size w W
 box:W.heap[w.heap.size]?=some (qsObj R C ac n cc)
theorem QW.kept {w W W':World} {R C:Int} {ac:Option Addr} {n cc:Nat} (h:QW w R C ac n cc W) (k:Below W.heap.size W W'):QW w R C ac n cc W' :=
 ⟨k_trans h.below k,(k.block _ (Array.getElem?_eq_some_iff.1 h.box).1).trans h.box⟩
theorem QW.set {w W:World} {R C:Int} {ac:Option Addr} {n cc:Nat} (h:QW w R C ac n cc W) {p:Addr} (hp:w.heap.size < p.block) (v:Value):QW w R C ac n cc (W.setCell p v) :=
 ⟨k_set h.below (Nat.le_of_lt hp) v,(Below.heap_setCell _ _ _ _ (by omega)).trans h.box⟩
theorem QW.cells {w W:World} {R C:Int} {ac:Option Addr} {n cc:Nat} (h:QW w R C ac n cc W):W.cell? ⟨w.heap.size,0,none⟩=some (.int .i64 R)∧W.cell? ⟨w.heap.size,1,none⟩=some (.int .i64 C)∧W.cell? ⟨w.heap.size,2,none⟩=some (.slice ac n cc) :=
 ⟨cellB h.box,cellB h.box,cellB h.box⟩
theorem QW.lt {w W:World} {R C:Int} {ac:Option Addr} {n cc:Nat} (h:QW w R C ac n cc W):w.heap.size < W.heap.size:=(Array.getElem?_eq_some_iff.1 h.box).1
theorem QW.new (w:World) (R C:Int) (ac:Option Addr) (n cc:Nat):QW w R C ac n cc (w.alloc (qsObj R C ac n cc)):=⟨k_alloc (Below.refl _ _) _,newestB _ _⟩
theorem below_new (W:World) (o:Obj):Below W.heap.size W (W.alloc o):=k_alloc (Below.refl _ _) o

set_option maxRecDepth 100000 in
set_option maxHeartbeats 1000000 in
theorem implQrySlots (R C:Int) (ac:Option Addr) (cc:Nat) (gs:List GC) (w:World) {z:Nat} (h:GsAt w z (.slice ac gs.length cc) gs) :
  Calls Try.prog 14 #[.agg #[.int .i64 R,.int .i64 C,.slice ac gs.length cc]] w fun e w'=>∃ v,e=.returned v∧RowS w' w.heap.size v (looks ⟨R,C,gs⟩)∧Below w.heap.size w w':=by
 have Q0:=Hid.intro (QW.new w R C ac gs.length cc)
 have H:=Hid.intro h
 have KO:=Hid.intro (implGrdOk R C ac cc gs _ (h.kept Q0.out.below))
 obtain ⟨_,_,_,hlen⟩:=At.form h
 unfold maxLen at hlen
 clear h
 cases hok:okB ⟨R,C,gs⟩ with
 | false =>
  rw [hok] at KO
  have HF:=Hid.intro (looks_no hok)
  clear hok
  go_enter Try.func14,Try.ntmps14
  go_wp2_with fail
  refine KO.out.mono ?_
  rintro e w1 ⟨rfl,hb1⟩
  have Q1:=Hid.intro (Q0.out.kept hb1)
  clear hb1 KO Q0
  go_wp2
  go_ret
  exact ⟨_,rfl,by rw [HF.out];exact .inl ⟨rfl,rfl⟩,Q1.out.below⟩
 | true =>
  rw [hok] at KO
  have hF:=looks_ok hok
  obtain ⟨hr1,hr8,hc1,hc94⟩:=ok_ran hok
  clear hok
  simp only at hr1 hr8 hc1 hc94 hF
  obtain ⟨m,rfl⟩:∃ m:Nat,R=m:=⟨R.toNat,by omega⟩
  obtain ⟨n,rfl⟩:∃ n:Nat,C=n:=⟨C.toNat,by omega⟩
  rw [Int.toNat_natCast,Int.toNat_natCast] at hF
  have HF:=Hid.intro hF
  have hm8:m≤8:=by omega
  have hn94:n≤94:=by omega
  clear hF hr1 hr8 hc1 hc94
  have hmT:=makeT m (by omega)
  have hmB:=makeB n (by omega)
  go_enter Try.func14,Try.ntmps14
  go_wp2_with fail
  refine KO.out.mono ?_
  rintro e w1 ⟨rfl,hb1⟩
  have Q1:=Hid.intro (Q0.out.kept hb1)
  have hs1:=Q1.out.lt
  clear hb1 KO Q0
  obtain ⟨q0,q1,q2⟩:=Q1.out.cells
  have F1:=Hid.intro (Fill.new (B:=w.heap.size+1) (T:=9) (f:=fun i=>.string (lineB gs n i)) (w:=w1) (by omega) (newT_size m))
  have Q2:=Hid.intro (Q1.out.kept (below_new w1 (.cells (newT m) 9)))
  go_wp2_with fail
  clear q0 q1 q2 Q1 hs1
  generalize w1.heap.size=sb at F1 ⊢
  go_loopw [15] (fun i W=>∃ r:Nat,r≤m∧i=.int .i64 r∧Hid (Fill W (w.heap.size+1) sb m 9 r (fun i=>.string (lineB gs n i)))∧Hid (QW w m n ac gs.length cc W)) (fun i _=>m - (intOf i).toNat)
  case atStart=>exact ⟨0,Nat.zero_le _,rfl,F1,Q2⟩
  case round =>
   clear F1 Q2
   obtain ⟨r,hr,rfl,F,Q⟩:=hrel
   by_cases hlt:r < m
   case neg =>
    obtain rfl:r=m:=by omega
    have HR:=Hid.intro (F.out.rowS (by unfold maxLen;omega))
    go_wp2
    go_ret
    exact ⟨_,rfl,by rw [HF.out];exact HR.out.base (by omega),Q.out.below⟩
   obtain ⟨q0,q1,q2⟩:=Q.out.cells
   have hs:=Q.out.lt
   have G1:=Hid.intro (Fill.new (B:=w.heap.size+1) (T:=5) (f:=fun i=>.int .u8 (letB (findTo (holdsB (r:Int) (i:Int)) gs))) (w:=wr) (by omega) (newB_size n))
   have hne:sb < wr.heap.size:=F.out.lt
   have F2:=Hid.intro (F.out.kept (below_new wr (.cells (newB n) 5)))
   have Q2:=Hid.intro (Q.out.kept (below_new wr (.cells (newB n) 5)))
   go_wp2_with fail
   clear q0 q1 q2 F Q hs
   generalize wr.heap.size=bb at G1 hne ⊢
   go_loopw [23] (fun j W=>∃ c:Nat,c≤n∧j=.int .i64 c∧Hid (Fill W (w.heap.size+1) bb n 5 c (fun i=>.int .u8 (letB (findTo (holdsB (r:Int) (i:Int)) gs))))∧Hid (Fill W (w.heap.size+1) sb m 9 r (fun i=>.string (lineB gs n i)))∧Hid (QW w m n ac gs.length cc W)) (fun j _=>n - (intOf j).toNat)
   case atStart=>exact ⟨0,Nat.zero_le _,rfl,G1,F2,Q2⟩
   case round =>
    clear G1 F2 Q2
    obtain ⟨c,hc,rfl,G,F,Q⟩:=hrel
    by_cases hlc:c < n
    case neg =>
     obtain rfl:c=n:=by omega
     obtain ⟨⟨v0,hv0⟩,hf0⟩:=F.out.slot hlt
     have hT:=run_text G.out
     have F3:=Hid.intro (F.out.set hlt)
     have Q3:=Hid.intro (Q.out.set (p:=⟨sb,r,none⟩) (by have:=F.out.1;show _ < sb;omega) (.string (lineB gs c r)))
     go_wp2
     go_roundw
     case rel=>exact ⟨r+1,by omega,by go_num,F3,Q3⟩
     case measure=>simp [intOf];omega
    obtain ⟨q0,q1,q2⟩:=Q.out.cells
    have KA:=Hid.intro (implGrdAt m n ac cc gs (r:Int) (c:Int) (by unfold I64;omega) (by unfold I64;omega) _ (H.out.kept Q.out.below))
    obtain ⟨hk1,hk2⟩:=findTo_ran (holdsB (r:Int) (c:Int)) gs
    have KL:=Hid.intro (fun W=>letter_any _ hk1 (by omega) W)
    have G2:=Hid.intro (fun (W:World) (hb:Below wr.heap.size wr W)=>(G.out.kept hb).set hlc)
    have hl:=letB_ran (findTo (holdsB (r:Int) (c:Int)) gs)
    generalize letB (findTo (holdsB (r:Int) (c:Int)) gs)=y at G2 KL hl
    generalize findTo (holdsB (r:Int) (c:Int)) gs=k at KA KL hk1 hk2 hl
    go_wp2_with fail
    refine KA.out.mono ?_
    rintro e W5 ⟨rfl,hb5⟩
    go_wp2_with fail
    refine (KL.out _).mono ?_
    rintro e W6 ⟨rfl,rfl⟩
    have G5:=Hid.intro (G.out.kept hb5)
    have F5:=Hid.intro (F.out.kept hb5)
    have Q5:=Hid.intro (Q.out.kept hb5)
    obtain ⟨⟨v0,hv0⟩,hf0⟩:=G5.out.slot hlc
    have G3:=Hid.intro (G2.out _ hb5)
    have F3:=Hid.intro (F5.out.other (p:=⟨bb,c,none⟩) (by show bb ≠ sb;omega) (.int .u8 y))
    have Q3:=Hid.intro (Q5.out.set (p:=⟨bb,c,none⟩) (by have:=G5.out.1;show _ < bb;omega) (.int .u8 y))
    clear hb5 KA KL G2 G F Q G5 F5 Q5 q0 q1 q2
    go_wp2
    go_roundw
    case rel=>exact ⟨c+1,by omega,by go_num,G3,F3,Q3⟩
    case measure=>simp [intOf];omega
end Go.Proofs.Ytggmjiddadjilao
namespace Go.Proofs.Ytggmjiddadjilao
open Go.RowKit Go.BigFrame

/-- no number of a cell is great -/
def Sm (x:GC):Prop:=(0≤x.row∧x.row≤100000)∧(0≤x.col∧x.col≤100000)∧(0≤x.rows∧x.rows≤100000)∧(0≤x.cols∧x.cols≤100000)
theorem fits_sm {R C:Int} {x:GC} (h:fitsB R C x=true) (hR:R≤8) (hC:C≤94):Sm x:=by
 obtain ⟨e1,e2,e3,e4,h1,h2,h3,h4⟩:=fits_of h
 unfold Sm
 omega
theorem GsAt.take {w:World} {z:Nat} {ac:Option Addr} {cc:Nat} {gs:List GC} (h:GsAt w z (.slice ac gs.length cc) gs) {k:Nat} (hk:k≤gs.length):GsAt w z (.slice ac (gs.take k).length cc) (gs.take k):=by
 obtain ⟨a,cap,e,h1,h2,hx⟩:=h
 simp only [Value.slice.injEq,true_and] at e
 obtain ⟨rfl,rfl⟩:=e
 have hl:(gs.take k).length=k:=by rw [List.length_take];omega
 refine ⟨_,_,rfl,by omega,h2,fun i hi=>?_⟩
 obtain ⟨b,off,ea,hb,hz,he⟩:=hx i (by omega)
 have e:(gs.take k).getD i dG=gs.getD i dG:=by simp [List.getD,show i < k by omega]
 exact ⟨b,off,ea,hb,hz,by dsimp only;rw [e];exact he⟩

def gcA (x:GC):Value:=.agg #[.int .i64 x.row,.int .i64 x.col,.int .i64 x.rows,.int .i64 x.cols,.int .i64 x.ins]
set_option maxRecDepth 100000 in
set_option maxHeartbeats 1000000 in
theorem l3Meets_any (a b:GC) (ha:Sm a) (hb:Sm b) (w:World) :
  Calls Try.prog 96 #[.agg #[.int .i64 a.row,.int .i64 a.col,.int .i64 a.rows,.int .i64 a.cols,.int .i64 a.ins],.agg #[.int .i64 b.row,.int .i64 b.col,.int .i64 b.rows,.int .i64 b.cols,.int .i64 b.ins]] w fun e w'=>e=.returned (.bool (meetsB a b))∧Below w.heap.size w w':=by
 obtain ⟨a0,a1,a2,a3⟩:=ha
 obtain ⟨b0,b1,b2,b3⟩:=hb
 by_cases h1:a.row < b.row+b.rows
 ·by_cases h2:b.row < a.row+a.rows
  ·by_cases h3:a.col < b.col+b.cols
   ·have HE:Hid (meetsB a b=decide (b.col < a.col+a.cols)):=by
     show meetsB a b=_
     simp only [meetsB,h1,h2,h3,decide_true,Bool.true_and]
    go_enter Try.func96,Try.ntmps96
    go_wp2
    go_ret
    exact ⟨retB HE.out.symm,k_alloc (k_alloc (Below.refl _ _) _) _⟩
   ·have HE:Hid (meetsB a b=false):=by
     show meetsB a b=_
     simp only [meetsB,h3,decide_false,Bool.false_and,Bool.and_false]
    go_enter Try.func96,Try.ntmps96
    go_wp2
    go_ret
    exact ⟨retB HE.out.symm,k_alloc (k_alloc (Below.refl _ _) _) _⟩
  ·have HE:Hid (meetsB a b=false):=by
    show meetsB a b=_
    simp only [meetsB,h2,decide_false,Bool.false_and,Bool.and_false]
   go_enter Try.func96,Try.ntmps96
   go_wp2
   go_ret
   exact ⟨retB HE.out.symm,k_alloc (k_alloc (Below.refl _ _) _) _⟩
 ·have HE:Hid (meetsB a b=false):=by
   show meetsB a b=_
   simp only [meetsB,h1,decide_false,Bool.false_and]
  go_enter Try.func96,Try.ntmps96
  go_wp2
  go_ret
  exact ⟨retB HE.out.symm,k_alloc (k_alloc (Below.refl _ _) _) _⟩

theorem freeG_hit {gs:List GC} {x:GC} {k:Nat} (hk:k < gs.length) (h:meetsB (gs.getD k dG) x=true):freeG gs x=false:=by
 cases h2:freeG gs x with
 | false=>rfl
 | true =>
  have e:gs.getD k dG=gs[k]:=by simp [List.getD,hk]
  have:=List.all_eq_true.1 h2 gs[k] (List.getElem_mem hk)
  rw [← e,h] at this
  cases this
theorem freeG_all {gs:List GC} {x:GC} (h:∀ j,j < gs.length→meetsB (gs.getD j dG) x=false):freeG gs x=true:=by
 refine List.all_eq_true.2 (fun a ha=>?_)
 obtain ⟨i,hi,rfl⟩:=List.mem_iff_getElem.1 ha
 have:=h i hi
 have e:gs.getD i dG=gs[i]:=by simp [List.getD,hi]
 rw [e] at this
 rw [this];rfl

set_option maxRecDepth 100000 in
set_option maxHeartbeats 1000000 in
theorem l3Free_any (ac:Option Addr) (cc:Nat) (gs:List GC) (hgs:∀ a ∈ gs,Sm a) (x:GC) (hxs:Sm x) (w:World) {z:Nat} (h:GsAt w z (.slice ac gs.length cc) gs) :
  Calls Try.prog 70 #[.slice ac gs.length cc,.agg #[.int .i64 x.row,.int .i64 x.col,.int .i64 x.rows,.int .i64 x.cols,.int .i64 x.ins]] w fun e w'=>e=.returned (.bool (freeG gs x))∧Below w.heap.size w w':=by
 obtain ⟨_,_,_,hlen⟩:=At.form h
 unfold maxLen at hlen
 have K0:=Hid.intro (k_alloc (Below.refl w.heap.size w) (.cells #[.int .i64 x.row,.int .i64 x.col,.int .i64 x.rows,.int .i64 x.cols,.int .i64 x.ins] 104))
 have H:=Hid.intro h
 have HG:=Hid.intro hgs
 have HXS:=Hid.intro hxs
 have hmx:Try.prog.follows .mixedOrders=true:=by kernel_rfl
 clear h hgs hxs
 go_enter Try.func70,Try.ntmps70
 go_wp2_with fail
 go_loopw [5] (fun i W=>∃ k:Nat,k≤gs.length∧i=.int .i64 k∧Hid (∀ j,j < k→meetsB (gs.getD j dG) x=false)∧Hid (Below w.heap.size w W)∧Hid (W.heap[w.heap.size]?=some (.cells #[.int .i64 x.row,.int .i64 x.col,.int .i64 x.rows,.int .i64 x.cols,.int .i64 x.ins] 104))) (fun i _=>gs.length - (intOf i).toNat)
 case atStart=>exact ⟨0,Nat.zero_le _,rfl,fun j hj=>absurd hj (Nat.not_lt_zero _),K0.out,newestB _ _⟩
 case round =>
  obtain ⟨k,hk,rfl,HA,HB,HX⟩:=hrel
  have hz:w.heap.size < wr.heap.size:=(Array.getElem?_eq_some_iff.1 HX.out).1
  by_cases hlt:k < gs.length
  ·have hlt':(k:Int) < (gs.length:Int):=by omega
   have h0':(0:Int)≤(k:Int):=by omega
   obtain ⟨q,off,cap',e',hc1,hc2,hbl,hx,hs⟩:=At.get (H.out.kept HB.out) hlt
   simp only [Value.slice.injEq,true_and] at e'
   obtain ⟨rfl,rfl⟩:=e'
   have HH:Hid (meetsB (gs.getD k dG) x=true→freeG gs x=false):=fun hp=>freeG_hit hlt hp
   have HN:Hid (meetsB (gs.getD k dG) x=false→∀ j,j < k+1→meetsB (gs.getD j dG) x=false):=fun hp j hj=>by
    rcases Nat.lt_or_eq_of_le (Nat.lt_succ_iff.1 hj) with h1 | rfl
    ·exact HA.out j h1
    ·exact hp
   have HS:Sm (gs.getD k dG):=by
    have e:gs.getD k dG=gs[k]:=by simp [List.getD,hlt]
    rw [e]
    exact HG.out _ (List.getElem_mem hlt)
   have HL:=Hid.intro (l3Meets_any (gs.getD k dG) x HS HXS.out)
   clear HS hs
   generalize gs.getD k dG=y at hx HH HN HL
   obtain ⟨x0,x1,x2,x3,x4⟩:=hx
   have y0:=bw_cell (a:=⟨q,off+k * 5,none⟩) hbl x0
   have y1:=bw_cell (a:=⟨q,off+k * 5+1,none⟩) hbl x1
   have y2:=bw_cell (a:=⟨q,off+k * 5+2,none⟩) hbl x2
   have y3:=bw_cell (a:=⟨q,off+k * 5+3,none⟩) hbl x3
   have y4:=bw_cell (a:=⟨q,off+k * 5+4,none⟩) hbl x4
   have b0:=bw_cell (a:=⟨w.heap.size,0,none⟩) (v:=.int .i64 x.row) hz (cellB HX.out)
   have b1:=bw_cell (a:=⟨w.heap.size,1,none⟩) (v:=.int .i64 x.col) hz (cellB HX.out)
   have b2:=bw_cell (a:=⟨w.heap.size,2,none⟩) (v:=.int .i64 x.rows) hz (cellB HX.out)
   have b3:=bw_cell (a:=⟨w.heap.size,3,none⟩) (v:=.int .i64 x.cols) hz (cellB HX.out)
   have b4:=bw_cell (a:=⟨w.heap.size,4,none⟩) (v:=.int .i64 x.ins) hz (cellB HX.out)
   unfold maxLen at hc2
   clear x0 x1 x2 x3 x4
   go_wp2_with fail
   have hne:=bw_some wr
   refine wp_region_quiet_below hmx (by kernel_rfl) ?_
   repeat (go_big_quiet_step (refine bw_of (HL.out _)))
   refine wpQuiet_nil ?_
   intro _ hw'
   obtain ⟨⟨W7,hW7⟩,hw''⟩:=hw'
   subst hw''
   have HB7:=Hid.intro (k_trans HB.out hW7)
   have HX7:=Hid.intro ((hW7.block w.heap.size hz).trans HX.out)
   clear y0 y1 y2 y3 y4 b0 b1 b2 b3 b4 hW7
   cases h1:meetsB y x with
   | false =>
    have HF:=Hid.intro (HN.out h1)
    clear HH HN HA h1
    go_wp2
    go_roundw
    case rel=>exact ⟨k+1,by omega,by go_num,HF,HB7,HX7⟩
    case measure=>simp [intOf];omega
   | true =>
    have HF:=Hid.intro (HH.out h1)
    clear HH HN HA h1
    go_wp2
    go_ret
    exact ⟨retB HF.out.symm,HB7.out⟩
  ·obtain rfl:k=gs.length:=by omega
   have HF:=Hid.intro (freeG_all HA.out)
   clear HA
   go_wp2
   go_ret
   exact ⟨retB HF.out.symm,HB.out⟩
end Go.Proofs.Ytggmjiddadjilao
