/-
  PROVED HERE: facts on a range of a grid, for the law FnQryRange. Also: what the model's GrdOk answers at a grid that lies in memory; nothing that was in memory is turned. Also: what the model's l10Span answers: the least part that has two; nothing that was in memory is turned.
-/
import Derived.Test.YtggmjiddadjilajH24
import Derived.Test.YtggmjiddadjilajH16
import Derived.Test.YtggmjiddadjilajH23
namespace Go.Proofs.Ytggmjiddadjilaj
open Go.RowKit

theorem rngF_sym (g:G) (a b:Int):rngF g a b=rngF g b a:=by
 unfold rngF
 rw [Bool.and_comm (inB a 0 ((g.cells.length:Int) - 1)),span_sym]
/-- no two cells of a grid that is ok have a slot in common -/
theorem ok_apart {g:G} (h:okB g=true) {i j:Nat} (hi:i < j) (hj:j < g.cells.length):¬ mtG (g.cells.getD i dG) (g.cells.getD j dG):=by
 have h2:=h
 simp only [okB,Bool.and_eq_true] at h2
 have h3:=List.all_eq_true.1 h2.2 j (List.mem_range.2 hj)
 rw [Bool.and_eq_true] at h3
 have h4:=List.all_eq_true.1 h3.2 (g.cells.getD i dG) (by
  have e:g.cells.getD i dG=(g.cells.take j)[i]'(by rw [List.length_take];omega):=by simp [List.getD,show i < g.cells.length by omega]
  rw [e]
  exact List.getElem_mem _)
 intro hm
 rw [meets_mt.2 hm] at h4
 cases h4
theorem mem_at {gs:List GC} {c:GC} (h:c ∈ gs):∃ k,k < gs.length∧c=gs.getD k dG:=by
 obtain ⟨k,hk,rfl⟩:=List.mem_iff_getElem.1 h
 exact ⟨k,hk,by simp [List.getD,hk]⟩
structure RF (g:G) (i j:Nat) (y:GC):Prop where
 some:∀ k,k < g.cells.length→(mtG (g.cells.getD k dG) y ↔ inG (g.cells.getD k dG) y)
 fst:inG (g.cells.getD i dG) y
 snd:inG (g.cells.getD j dG) y
 fit:FitP g.rows g.cols y
theorem rng_facts {g:G} (hok:okB g=true) {i j:Nat} (hi:i < g.cells.length) (hj:j < g.cells.length):RF g i j (rngF g i j):=by
 have hA:inB (i:Int) 0 ((g.cells.length:Int) - 1)=true:=by simp [inB];omega
 have hB:inB (j:Int) 0 ((g.cells.length:Int) - 1)=true:=by simp [inB];omega
 rw [rngF_ok hok hA hB,Int.toNat_natCast,Int.toNat_natCast]
 have hf:=ok_fit hok
 have L:=range_least (gs:=g.cells) (x:=spanG (g.cells.getD i dG) (g.cells.getD j dG)) rfl
 refine ⟨fun k hk=>⟨fun hm=>L.closed _ (mem_getD hk) (mt_sym hm),fun h=>in_mt h (hf _ (mem_getD hk))⟩,in_trans (in_span1 _ _) L.ge,in_trans (in_span2 _ _) L.ge,?_⟩
 exact range_fit hf rfl (span_fit (hf _ (mem_getD hi)) (hf _ (mem_getD hj)))
theorem rng_one {g:G} (hok:okB g=true) {i:Nat} (hi:i < g.cells.length):rngF g i i={ g.cells.getD i dG with ins:=0 }:=by
 have hA:inB (i:Int) 0 ((g.cells.length:Int) - 1)=true:=by simp [inB];omega
 rw [rngF_ok hok hA hA,Int.toNat_natCast]
 have e:spanG (g.cells.getD i dG) (g.cells.getD i dG)={ g.cells.getD i dG with ins:=0 }:=by
  refine in_eq ?_ ?_ rfl rfl
  ·exact in_trans (span_in (in_refl _) (in_refl _)) (by unfold inG;simp only;omega)
  ·exact in_trans (b:=g.cells.getD i dG) (by unfold inG;simp only;omega) (in_span1 _ _)
 rw [e]
 have L:=range_least (gs:=g.cells) (x:={ g.cells.getD i dG with ins:=0 }) rfl
 refine in_eq (L.le _ ?_ (in_refl _)) L.ge L.ins rfl
 intro c hc hm
 obtain ⟨k,hk,rfl⟩:=mem_at hc
 rcases Nat.lt_trichotomy k i with h | h | h
 ·exact absurd (mt_sym (by unfold mtG at hm ⊢;simpa using hm)) (ok_apart hok h hi)
 ·subst h
  unfold inG
  simp only
  omega
 ·exact absurd (by unfold mtG at hm ⊢;simpa using hm) (ok_apart hok h hk)
/-- which of four tests is the first that fails -/
theorem no_mt {c y:GC} (h:¬ mtG c y):¬ c.row < y.row+y.rows∨(c.row < y.row+y.rows∧¬ y.row < c.row+c.rows)∨(c.row < y.row+y.rows∧y.row < c.row+c.rows∧¬ c.col < y.col+y.cols)∨(c.row < y.row+y.rows∧y.row < c.row+c.rows∧c.col < y.col+y.cols∧¬ y.col < c.col+c.cols):=by
 unfold mtG at h
 omega
theorem no_in {c y:GC} (h:¬ inG c y):¬ y.row≤c.row∨(y.row≤c.row∧¬ c.row+c.rows≤y.row+y.rows)∨(y.row≤c.row∧c.row+c.rows≤y.row+y.rows∧¬ y.col≤c.col)∨(y.row≤c.row∧c.row+c.rows≤y.row+y.rows∧y.col≤c.col∧¬ c.col+c.cols≤y.col+y.cols):=by
 unfold inG at h
 omega
end Go.Proofs.Ytggmjiddadjilaj
namespace Go.Proofs.Ytggmjiddadjilaj
open Go.RowKit Go.BigFrame

set_option maxRecDepth 100000 in
set_option maxHeartbeats 20000000 in
theorem specGrdOk (R C:Int) (ac:Option Addr) (cc:Nat) (gs:List GC) (w:World) {z:Nat} (h:GsAt w z (.slice ac gs.length cc) gs) :
  Calls Try.prog 11 #[.agg #[.int .i64 R,.int .i64 C,.slice ac gs.length cc]] w fun e w'=>e=.returned (.bool (okB ⟨R,C,gs⟩))∧Below w.heap.size w w':=by
 obtain ⟨_,_,_,hlen⟩:=At.form h
 unfold maxLen at hlen
 have K0:=Hid.intro (k_alloc (Below.refl w.heap.size w) (.cells #[.int .i64 R,.int .i64 C,.slice ac gs.length cc] 25))
 have X0:=Hid.intro (newestB w (.cells #[.int .i64 R,.int .i64 C,.slice ac gs.length cc] 25))
 have H:=Hid.intro h
 have hmx:Try.prog.follows .mixedOrders=true:=by kernel_rfl
 have Q1:=Hid.intro (l1In_any R 1 8)
 have Q2:=Hid.intro (l1In_any C 1 94)
 clear h
 cases p1:inB R 1 8 with
 | false =>
  have HF:Hid (okB ⟨R,C,gs⟩=false):=okB_false1 (by simp only [boundsB,p1,Bool.false_and])
  rw [p1] at Q1
  go_enter Try.func11,Try.ntmps11
  go_wp2_with fail
  refine (Q1.out _).mono ?_
  rintro e w1 ⟨rfl,rfl⟩
  go_wp2
  go_ret
  exact ⟨retB HF.out.symm,K0.out⟩
 | true =>
  rw [p1] at Q1
  cases p2:inB C 1 94 with
  | false =>
   have HF:Hid (okB ⟨R,C,gs⟩=false):=okB_false1 (by simp only [boundsB,p2,Bool.false_and,Bool.and_false])
   rw [p2] at Q2
   go_enter Try.func11,Try.ntmps11
   go_wp2_with fail
   refine (Q1.out _).mono ?_
   rintro e w1 ⟨rfl,rfl⟩
   go_wp2_with fail
   refine (Q2.out _).mono ?_
   rintro e w1 ⟨rfl,rfl⟩
   go_wp2
   go_ret
   exact ⟨retB HF.out.symm,K0.out⟩
  | true =>
   rw [p2] at Q2
   by_cases p3:gs.length≤40
   ·have HBB:=Hid.intro (bounds_intro p1 p2 p3)
    obtain ⟨hR1,hR2,hC1,hC2,hn⟩:=bounds_of HBB.out
    have p3':¬ (40:Int) < (gs.length:Int):=by omega
    clear p1 p2
    go_enter Try.func11,Try.ntmps11
    go_wp2_with fail
    refine (Q1.out _).mono ?_
    rintro e w1 ⟨rfl,rfl⟩
    go_wp2_with fail
    refine (Q2.out _).mono ?_
    rintro e w1 ⟨rfl,rfl⟩
    go_wp2_with fail
    go_loopw [3] (fun i W=>∃ k:Nat,k≤gs.length∧i=.int .i64 k∧Hid (okTo R C gs k=true)∧Hid (Below w.heap.size w W)∧Hid (W.heap[w.heap.size]?=some (.cells #[.int .i64 R,.int .i64 C,.slice ac gs.length cc] 25))) (fun i _=>gs.length - (intOf i).toNat)
    case atStart=>exact ⟨0,Nat.zero_le _,rfl,okTo_zero _ _ _,K0.out,X0.out⟩
    case round =>
     obtain ⟨k,hk,rfl,HO,HB,HX⟩:=hrel
     have g2':wr.cell? ⟨w.heap.size,2,none⟩=some (.slice ac gs.length cc):=cellB HX.out
     have hz:w.heap.size < wr.heap.size:=(Array.getElem?_eq_some_iff.1 HX.out).1
     by_cases hlt:k < gs.length
     ·have hlt':(k:Int) < (gs.length:Int):=by omega
      have h0':(0:Int)≤(k:Int):=by omega
      obtain ⟨q,off,cap',e',hc1,hc2,hbl,hx,hs⟩:=At.get (H.out.kept HB.out) hlt
      simp only [Value.slice.injEq,true_and] at e'
      obtain ⟨rfl,rfl⟩:=e'
      have HN:Hid (fitsB R C (gs.getD k dG)=true→freeG (gs.take k) (gs.getD k dG)=true→okTo R C gs (k+1)=true):=fun h1 h2=>okTo_succ HO.out h1 h2
      have HF:Hid ((fitsB R C (gs.getD k dG) && freeG (gs.take k) (gs.getD k dG))=false→okB ⟨R,C,gs⟩=false):=fun h1=>okB_false2 (okTo_false hlt h1)
      have HFit:=Hid.intro (okTo_fits (Nat.le_of_lt hlt) HO.out)
      generalize gs.getD k dG=x at hx hs HN HF
      obtain ⟨x0,x1,x2,x3,x4⟩:=hx
      obtain ⟨b0,b1,b2,b3,b4⟩:=hs
      unfold I64 at b0 b1 b2 b3 b4
      unfold maxLen at hc2
      go_wp2_with fail
      obtain ⟨W1,hW1⟩:∃ W1,wr.alloc (.cells #[.int .i64 x.row,.int .i64 x.col,.int .i64 x.rows,.int .i64 x.cols,.int .i64 x.ins] 29)=W1:=⟨_,rfl⟩
      rw [hW1]
      have hs1:W1.heap.size=wr.heap.size+1:=by rw [← hW1];simp
      have HB1:Hid (Below w.heap.size w W1):=by rw [← hW1];exact k_alloc HB.out _
      have HX1:Hid (W1.heap[w.heap.size]?=some (.cells #[.int .i64 R,.int .i64 C,.slice (some ⟨q,off,none⟩) gs.length cc] 25)):=by rw [← hW1];exact (Below.heap_alloc _ _ _ hz).trans HX.out
      have HY1:Hid (W1.heap[wr.heap.size]?=some (.cells #[.int .i64 x.row,.int .i64 x.col,.int .i64 x.rows,.int .i64 x.cols,.int .i64 x.ins] 29)):=by rw [← hW1];exact newestB _ _
      have zw:w.heap.size < W1.heap.size:=by omega
      have zr:wr.heap.size < W1.heap.size:=by omega
      clear hW1 HB HX
      have g0:=bw_cell (a:=⟨w.heap.size,0,none⟩) (v:=.int .i64 R) zw (cellB HX1.out)
      have g1:=bw_cell (a:=⟨w.heap.size,1,none⟩) (v:=.int .i64 C) zw (cellB HX1.out)
      have g2:=bw_cell (a:=⟨w.heap.size,2,none⟩) (v:=.slice (some ⟨q,off,none⟩) gs.length cc) zw (cellB HX1.out)
      have y0:=bw_cell (a:=⟨wr.heap.size,0,none⟩) (v:=.int .i64 x.row) zr (cellB HY1.out)
      have y1:=bw_cell (a:=⟨wr.heap.size,1,none⟩) (v:=.int .i64 x.col) zr (cellB HY1.out)
      have y2:=bw_cell (a:=⟨wr.heap.size,2,none⟩) (v:=.int .i64 x.rows) zr (cellB HY1.out)
      have y3:=bw_cell (a:=⟨wr.heap.size,3,none⟩) (v:=.int .i64 x.cols) zr (cellB HY1.out)
      have y4:=bw_cell (a:=⟨wr.heap.size,4,none⟩) (v:=.int .i64 x.ins) zr (cellB HY1.out)
      have hne:=bw_some W1
      have r1:IntKind.i64.wrap (R - 1)=R - 1:=by rw [IntKind.wrap_i64];omega
      have r2:IntKind.i64.wrap (C - 1)=C - 1:=by rw [IntKind.wrap_i64];omega
      cases h1:inB x.row 0 (R - 1) with
      | false =>
       have HF':=Hid.intro (HF.out (by simp only [fitsB,h1,Bool.false_and]))
       clear HN HF HO HFit
       refine wp_region_quiet_below hmx (by kernel_rfl) ?_
       repeat (go_big_quiet_step (first | (go_at_call 39;refine bw_same (l1In_any _ _ _ _))))
       refine wpQuiet_nil ?_
       intro _ hw'
       obtain ⟨⟨W7,hW7⟩,hw''⟩:=hw'
       subst hw''
       have HB7:=Hid.intro (k_trans HB1.out hW7)
       clear hW7
       go_wp2
       go_ret
       exact ⟨retB HF'.out.symm,HB7.out⟩
      | true =>
       have r3:IntKind.i64.wrap (R - x.row)=R - x.row:=by
        have:=of_decide_eq_true h1
        rw [IntKind.wrap_i64];omega
       cases h2:inB x.col 0 (C - 1) with
       | false =>
        have HF':=Hid.intro (HF.out (by simp only [fitsB,h2,Bool.false_and,Bool.and_false]))
        clear HN HF HO HFit
        refine wp_region_quiet_below hmx (by kernel_rfl) ?_
        repeat (go_big_quiet_step (first | (go_at_call 39;refine bw_same (l1In_any _ _ _ _))))
        refine wpQuiet_nil ?_
        intro _ hw'
        obtain ⟨⟨W7,hW7⟩,hw''⟩:=hw'
        subst hw''
        have HB7:=Hid.intro (k_trans HB1.out hW7)
        clear hW7
        go_wp2
        go_ret
        exact ⟨retB HF'.out.symm,HB7.out⟩
       | true =>
        have r4:IntKind.i64.wrap (C - x.col)=C - x.col:=by
         have:=of_decide_eq_true h2
         rw [IntKind.wrap_i64];omega
        cases h3:inB x.rows 1 (R - x.row) with
        | false =>
         have HF':=Hid.intro (HF.out (by simp only [fitsB,h3,Bool.false_and,Bool.and_false]))
         clear HN HF HO HFit
         refine wp_region_quiet_below hmx (by kernel_rfl) ?_
         repeat (go_big_quiet_step (first | (go_at_call 39;refine bw_same (l1In_any _ _ _ _))))
         refine wpQuiet_nil ?_
         intro _ hw'
         obtain ⟨⟨W7,hW7⟩,hw''⟩:=hw'
         subst hw''
         have HB7:=Hid.intro (k_trans HB1.out hW7)
         clear hW7
         go_wp2
         go_ret
         exact ⟨retB HF'.out.symm,HB7.out⟩
        | true =>
         cases h4:inB x.cols 1 (C - x.col) with
         | false =>
          have HF':=Hid.intro (HF.out (by simp only [fitsB,h4,Bool.false_and,Bool.and_false]))
          clear HN HF HO HFit
          refine wp_region_quiet_below hmx (by kernel_rfl) ?_
          repeat (go_big_quiet_step (first | (go_at_call 39;refine bw_same (l1In_any _ _ _ _))))
          refine wpQuiet_nil ?_
          intro _ hw'
          obtain ⟨⟨W7,hW7⟩,hw''⟩:=hw'
          subst hw''
          have HB7:=Hid.intro (k_trans HB1.out hW7)
          clear hW7
          go_wp2
          go_ret
          exact ⟨retB HF'.out.symm,HB7.out⟩
         | true =>
          cases h5:inB x.ins 0 4 with
          | false =>
           have HF':=Hid.intro (HF.out (by simp only [fitsB,h5,Bool.and_false,Bool.false_and]))
           clear HN HF HO HFit
           refine wp_region_quiet_below hmx (by kernel_rfl) ?_
           repeat (go_big_quiet_step (first | (go_at_call 39;refine bw_same (l1In_any _ _ _ _))))
           refine wpQuiet_nil ?_
           intro _ hw'
           obtain ⟨⟨W7,hW7⟩,hw''⟩:=hw'
           subst hw''
           have HB7:=Hid.intro (k_trans HB1.out hW7)
           clear hW7
           go_wp2
           go_ret
           exact ⟨retB HF'.out.symm,HB7.out⟩
          | true =>
           have hfit:fitsB R C x=true:=by simp only [fitsB,h1,h2,h3,h4,h5,Bool.and_self]
           have hl:(gs.take k).length=k:=by rw [List.length_take];omega
           have KL:=Hid.intro (fun (p:BW W1)=>l3Free_any (some ⟨q,off,none⟩) cc (gs.take k) (fun a ha=>fits_sm (HFit.out a ha) hR2 hC2) x (fits_sm hfit hR2 hC2) p.u (((H.out.kept HB1.out).kept p.h).take hk))
           rw [hl] at KL
           cases hfr:freeG (gs.take k) x with
           | false =>
            rw [hfr] at KL
            have HF':=Hid.intro (HF.out (by simp only [hfr,Bool.and_false]))
            clear HN HF HO HFit hfit hfr hl
            refine wp_region_quiet_below hmx (by kernel_rfl) ?_
            repeat (go_big_quiet_step (first | (go_at_call 39;refine bw_same (l1In_any _ _ _ _)) | (go_at_call 42;refine bw_of (KL.out _))))
            refine wpQuiet_nil ?_
            intro _ hw'
            obtain ⟨⟨W7,hW7⟩,hw''⟩:=hw'
            subst hw''
            have HB7:=Hid.intro (k_trans HB1.out hW7)
            clear hW7
            go_wp2
            go_ret
            exact ⟨retB HF'.out.symm,HB7.out⟩
           | true =>
            rw [hfr] at KL
            have HN':=Hid.intro (HN.out hfit hfr)
            clear HN HF HO HFit hfit hfr hl
            refine wp_region_quiet_below hmx (by kernel_rfl) ?_
            repeat (go_big_quiet_step (first | (go_at_call 39;refine bw_same (l1In_any _ _ _ _)) | (go_at_call 42;refine bw_of (KL.out _))))
            refine wpQuiet_nil ?_
            intro _ hw'
            obtain ⟨⟨W7,hW7⟩,hw''⟩:=hw'
            subst hw''
            have HB7:=Hid.intro (k_trans HB1.out hW7)
            have HX7:=Hid.intro ((hW7.block w.heap.size zw).trans HX1.out)
            clear hW7
            go_wp2
            go_roundw
            case rel=>exact ⟨k+1,by omega,by go_num,HN',HB7,HX7⟩
            case measure=>simp [intOf];omega
     ·obtain rfl:k=gs.length:=by omega
      have HF:Hid (okB ⟨R,C,gs⟩=true):=by
       show okB _=true
       simp only [okB,HBB.out,HO.out,Bool.and_self]
      clear HO
      go_wp2
      go_ret
      exact ⟨retB HF.out.symm,HB.out⟩
   ·have p3':(40:Int) < (gs.length:Int):=by omega
    have HF:Hid (okB ⟨R,C,gs⟩=false):=okB_false1 (by simp only [boundsB,p3,decide_false,Bool.and_false])
    go_enter Try.func11,Try.ntmps11
    go_wp2_with fail
    refine (Q1.out _).mono ?_
    rintro e w1 ⟨rfl,rfl⟩
    go_wp2_with fail
    refine (Q2.out _).mono ?_
    rintro e w1 ⟨rfl,rfl⟩
    go_wp2
    go_ret
    exact ⟨retB HF.out.symm,K0.out⟩
end Go.Proofs.Ytggmjiddadjilaj
namespace Go.Proofs.Ytggmjiddadjilaj
open Go.RowKit

theorem l1Max_q (a b:Int) (w:World):Calls Try.prog 73 #[.int .i64 a,.int .i64 b] w fun e w'=>e=.returned (.int .i64 (max a b))∧w'=w:=by
 by_cases h:b < a
 ·have HF:Hid (max a b=a):=Hid.intro (by omega)
  go_enter Try.func73,Try.ntmps73
  go_wp2
  go_ret
  exact ⟨by rw [HF.out];rfl,rfl⟩
 ·have HF:Hid (max a b=b):=Hid.intro (by omega)
  go_enter Try.func73,Try.ntmps73
  go_wp2
  go_ret
  exact ⟨by rw [HF.out];rfl,rfl⟩
/-- the least part that has two, with the number of the first one -/
def spanI (a b:GC):GC:=⟨min a.row b.row,min a.col b.col,max (a.row+a.rows) (b.row+b.rows) - min a.row b.row,max (a.col+a.cols) (b.col+b.cols) - min a.col b.col,a.ins⟩
theorem spanI_zero {a b:GC} (h:a.ins=0):spanI a b=spanG a b:=by unfold spanI spanG;rw [h]
theorem spanI_set (a b:GC):({ spanI a b with ins:=0 }:GC)=spanG a b:=rfl

set_option maxRecDepth 100000 in
set_option maxHeartbeats 1000000 in
theorem l10Span_any (a b:GC) (ha:Sm4 a) (hb:Sm4 b) (w:World) :
  Calls Try.prog 40 #[gV a,gV b] w fun e w'=>e=.returned (gV (spanI a b))∧Below w.heap.size w w':=by
 obtain ⟨a0,a1,a2,a3,a4⟩:=a
 obtain ⟨b0,b1,b2,b3,b4⟩:=b
 unfold Sm4 at ha hb
 simp only at ha hb
 obtain ⟨ha0,ha1,ha2,ha3⟩:=ha
 obtain ⟨hb0,hb1,hb2,hb3⟩:=hb
 unfold gV spanI
 simp only
 have hM0:0≤max (a0+a2) (b0+b2)∧max (a0+a2) (b0+b2)≤200000:=by omega
 have hM1:0≤max (a1+a3) (b1+b3)∧max (a1+a3) (b1+b3)≤200000:=by omega
 have KM:=Hid.intro (l1Max_q (a0+a2) (b0+b2))
 have KN:=Hid.intro (l1Max_q (a1+a3) (b1+b3))
 generalize max (a0+a2) (b0+b2)=M0 at KM hM0 ⊢
 generalize max (a1+a3) (b1+b3)=M1 at KN hM1 ⊢
 by_cases h0:b0 < a0
 ·have HR:Hid (min a0 b0=b0):=Hid.intro (by omega)
  by_cases h1:b1 < a1
  ·have HS:Hid (min a1 b1=b1):=Hid.intro (by omega)
   go_enter Try.func40,Try.ntmps40
   go_wp2_with fail
   refine (KM.out _).mono ?_
   rintro e w1 ⟨rfl,rfl⟩
   go_wp2_with fail
   refine (KN.out _).mono ?_
   rintro e w1 ⟨rfl,rfl⟩
   go_wp2
   exact bodyPost_ret (v:=.agg #[.int .i64 b0,.int .i64 b1,.int .i64 (M0 - b0),.int .i64 (M1 - b1),.int .i64 a4]) (by simp [results,Try.results40,go_sem]) rfl ⟨by rw [HR.out,HS.out],k_alloc (k_alloc (k_alloc (k_alloc (Below.refl _ _) _) _) _) _⟩
  ·have HS:Hid (min a1 b1=a1):=Hid.intro (by omega)
   go_enter Try.func40,Try.ntmps40
   go_wp2_with fail
   refine (KM.out _).mono ?_
   rintro e w1 ⟨rfl,rfl⟩
   go_wp2_with fail
   refine (KN.out _).mono ?_
   rintro e w1 ⟨rfl,rfl⟩
   go_wp2
   exact bodyPost_ret (v:=.agg #[.int .i64 b0,.int .i64 a1,.int .i64 (M0 - b0),.int .i64 (M1 - a1),.int .i64 a4]) (by simp [results,Try.results40,go_sem]) rfl ⟨by rw [HR.out,HS.out],k_alloc (k_alloc (k_alloc (k_alloc (Below.refl _ _) _) _) _) _⟩
 ·have HR:Hid (min a0 b0=a0):=Hid.intro (by omega)
  by_cases h1:b1 < a1
  ·have HS:Hid (min a1 b1=b1):=Hid.intro (by omega)
   go_enter Try.func40,Try.ntmps40
   go_wp2_with fail
   refine (KM.out _).mono ?_
   rintro e w1 ⟨rfl,rfl⟩
   go_wp2_with fail
   refine (KN.out _).mono ?_
   rintro e w1 ⟨rfl,rfl⟩
   go_wp2
   exact bodyPost_ret (v:=.agg #[.int .i64 a0,.int .i64 b1,.int .i64 (M0 - a0),.int .i64 (M1 - b1),.int .i64 a4]) (by simp [results,Try.results40,go_sem]) rfl ⟨by rw [HR.out,HS.out],k_alloc (k_alloc (k_alloc (k_alloc (Below.refl _ _) _) _) _) _⟩
  ·have HS:Hid (min a1 b1=a1):=Hid.intro (by omega)
   go_enter Try.func40,Try.ntmps40
   go_wp2_with fail
   refine (KM.out _).mono ?_
   rintro e w1 ⟨rfl,rfl⟩
   go_wp2_with fail
   refine (KN.out _).mono ?_
   rintro e w1 ⟨rfl,rfl⟩
   go_wp2
   exact bodyPost_ret (v:=.agg #[.int .i64 a0,.int .i64 a1,.int .i64 (M0 - a0),.int .i64 (M1 - a1),.int .i64 a4]) (by simp [results,Try.results40,go_sem]) rfl ⟨by rw [HR.out,HS.out],k_alloc (k_alloc (k_alloc (k_alloc (Below.refl _ _) _) _) _) _⟩
end Go.Proofs.Ytggmjiddadjilaj
