/-
  PROVED HERE: what the model's GrdOk answers at a grid that lies in memory; nothing that was in memory is turned. Also: what the model's QrySlots answers: how a grid looks, in new memory; nothing that was in memory is turned.
-/
import Derived.Test.YtggmjiddadjilaoB10
import Derived.Test.YtggmjiddadjilaoB6
import Derived.WalkLawsBesides
namespace Go.Proofs.Ytggmjiddadjilao
open Go.RowKit Go.BigFrame

set_option maxRecDepth 100000 in
set_option maxHeartbeats 20000000 in
theorem specGrdOk (R C:Int) (ac:Option Addr) (cc:Nat) (gs:List GC) (w:World) {z:Nat} (h:GsAt w z (.slice ac gs.length cc) gs) :
  Calls Try.prog 34 #[.agg #[.int .i64 R,.int .i64 C,.slice ac gs.length cc]] w fun e w'=>e=.returned (.bool (okB ⟨R,C,gs⟩))∧Below w.heap.size w w':=by
 obtain ⟨_,_,_,hlen⟩:=At.form h
 unfold maxLen at hlen
 have K0:=Hid.intro (k_alloc (Below.refl w.heap.size w) (.cells #[.int .i64 R,.int .i64 C,.slice ac gs.length cc] 36))
 have X0:=Hid.intro (newestB w (.cells #[.int .i64 R,.int .i64 C,.slice ac gs.length cc] 36))
 have H:=Hid.intro h
 have hmx:Try.prog.follows .mixedOrders=true:=by kernel_rfl
 have Q1:=Hid.intro (l1In_any R 1 8)
 have Q2:=Hid.intro (l1In_any C 1 94)
 clear h
 cases p1:inB R 1 8 with
 | false =>
  have HF:Hid (okB ⟨R,C,gs⟩=false):=okB_false1 (by simp only [boundsB,p1,Bool.false_and])
  rw [p1] at Q1
  go_enter Try.func34,Try.ntmps34
  go_wp2_with fail
  refine (Q1.out _).mono ?_
  rintro e w1 ⟨rfl,rfl⟩
  go_wp2
  go_ret
  exact ⟨retB HF.out.symm,K0.out⟩
 | true =>
  rw [p1] at Q1
  cases p2:inB C 1 94 with
  | false =>
   have HF:Hid (okB ⟨R,C,gs⟩=false):=okB_false1 (by simp only [boundsB,p2,Bool.false_and,Bool.and_false])
   rw [p2] at Q2
   go_enter Try.func34,Try.ntmps34
   go_wp2_with fail
   refine (Q1.out _).mono ?_
   rintro e w1 ⟨rfl,rfl⟩
   go_wp2_with fail
   refine (Q2.out _).mono ?_
   rintro e w1 ⟨rfl,rfl⟩
   go_wp2
   go_ret
   exact ⟨retB HF.out.symm,K0.out⟩
  | true =>
   rw [p2] at Q2
   by_cases p3:gs.length≤40
   ·have HBB:=Hid.intro (bounds_intro p1 p2 p3)
    obtain ⟨hR1,hR2,hC1,hC2,hn⟩:=bounds_of HBB.out
    have p3':¬ (40:Int) < (gs.length:Int):=by omega
    clear p1 p2
    go_enter Try.func34,Try.ntmps34
    go_wp2_with fail
    refine (Q1.out _).mono ?_
    rintro e w1 ⟨rfl,rfl⟩
    go_wp2_with fail
    refine (Q2.out _).mono ?_
    rintro e w1 ⟨rfl,rfl⟩
    go_wp2_with fail
    go_loopw [3] (fun i W=>∃ k:Nat,k≤gs.length∧i=.int .i64 k∧Hid (okTo R C gs k=true)∧Hid (Below w.heap.size w W)∧Hid (W.heap[w.heap.size]?=some (.cells #[.int .i64 R,.int .i64 C,.slice ac gs.length cc] 36))) (fun i _=>gs.length - (intOf i).toNat)
    case atStart=>exact ⟨0,Nat.zero_le _,rfl,okTo_zero _ _ _,K0.out,X0.out⟩
    case round =>
     obtain ⟨k,hk,rfl,HO,HB,HX⟩:=hrel
     have g2':wr.cell? ⟨w.heap.size,2,none⟩=some (.slice ac gs.length cc):=cellB HX.out
     have hz:w.heap.size < wr.heap.size:=(Array.getElem?_eq_some_iff.1 HX.out).1
     by_cases hlt:k < gs.length
     ·have hlt':(k:Int) < (gs.length:Int):=by omega
      have h0':(0:Int)≤(k:Int):=by omega
      obtain ⟨q,off,cap',e',hc1,hc2,hbl,hx,hs⟩:=At.get (H.out.kept HB.out) hlt
      simp only [Value.slice.injEq,true_and] at e'
      obtain ⟨rfl,rfl⟩:=e'
      have HN:Hid (fitsB R C (gs.getD k dG)=true→freeG (gs.take k) (gs.getD k dG)=true→okTo R C gs (k+1)=true):=fun h1 h2=>okTo_succ HO.out h1 h2
      have HF:Hid ((fitsB R C (gs.getD k dG) && freeG (gs.take k) (gs.getD k dG))=false→okB ⟨R,C,gs⟩=false):=fun h1=>okB_false2 (okTo_false hlt h1)
      have HFit:=Hid.intro (okTo_fits (Nat.le_of_lt hlt) HO.out)
      generalize gs.getD k dG=x at hx hs HN HF
      obtain ⟨x0,x1,x2,x3,x4⟩:=hx
      obtain ⟨b0,b1,b2,b3,b4⟩:=hs
      unfold I64 at b0 b1 b2 b3 b4
      unfold maxLen at hc2
      go_wp2_with fail
      obtain ⟨W1,hW1⟩:∃ W1,wr.alloc (.cells #[.int .i64 x.row,.int .i64 x.col,.int .i64 x.rows,.int .i64 x.cols,.int .i64 x.ins] 104)=W1:=⟨_,rfl⟩
      rw [hW1]
      have hs1:W1.heap.size=wr.heap.size+1:=by rw [← hW1];simp
      have HB1:Hid (Below w.heap.size w W1):=by rw [← hW1];exact k_alloc HB.out _
      have HX1:Hid (W1.heap[w.heap.size]?=some (.cells #[.int .i64 R,.int .i64 C,.slice (some ⟨q,off,none⟩) gs.length cc] 36)):=by rw [← hW1];exact (Below.heap_alloc _ _ _ hz).trans HX.out
      have HY1:Hid (W1.heap[wr.heap.size]?=some (.cells #[.int .i64 x.row,.int .i64 x.col,.int .i64 x.rows,.int .i64 x.cols,.int .i64 x.ins] 104)):=by rw [← hW1];exact newestB _ _
      have zw:w.heap.size < W1.heap.size:=by omega
      have zr:wr.heap.size < W1.heap.size:=by omega
      clear hW1 HB HX
      have g0:=bw_cell (a:=⟨w.heap.size,0,none⟩) (v:=.int .i64 R) zw (cellB HX1.out)
      have g1:=bw_cell (a:=⟨w.heap.size,1,none⟩) (v:=.int .i64 C) zw (cellB HX1.out)
      have g2:=bw_cell (a:=⟨w.heap.size,2,none⟩) (v:=.slice (some ⟨q,off,none⟩) gs.length cc) zw (cellB HX1.out)
      have y0:=bw_cell (a:=⟨wr.heap.size,0,none⟩) (v:=.int .i64 x.row) zr (cellB HY1.out)
      have y1:=bw_cell (a:=⟨wr.heap.size,1,none⟩) (v:=.int .i64 x.col) zr (cellB HY1.out)
      have y2:=bw_cell (a:=⟨wr.heap.size,2,none⟩) (v:=.int .i64 x.rows) zr (cellB HY1.out)
      have y3:=bw_cell (a:=⟨wr.heap.size,3,none⟩) (v:=.int .i64 x.cols) zr (cellB HY1.out)
      have y4:=bw_cell (a:=⟨wr.heap.size,4,none⟩) (v:=.int .i64 x.ins) zr (cellB HY1.out)
      have hne:=bw_some W1
      have r1:IntKind.i64.wrap (R - 1)=R - 1:=by rw [IntKind.wrap_i64];omega
      have r2:IntKind.i64.wrap (C - 1)=C - 1:=by rw [IntKind.wrap_i64];omega
      cases h1:inB x.row 0 (R - 1) with
      | false =>
       have HF':=Hid.intro (HF.out (by simp only [fitsB,h1,Bool.false_and]))
       clear HN HF HO HFit
       refine wp_region_quiet_below hmx (by kernel_rfl) ?_
       repeat (go_big_quiet_step (first | (go_at_call 48;refine bw_same (l1In_any _ _ _ _))))
       refine wpQuiet_nil ?_
       intro _ hw'
       obtain ⟨⟨W7,hW7⟩,hw''⟩:=hw'
       subst hw''
       have HB7:=Hid.intro (k_trans HB1.out hW7)
       clear hW7
       go_wp2
       go_ret
       exact ⟨retB HF'.out.symm,HB7.out⟩
      | true =>
       have r3:IntKind.i64.wrap (R - x.row)=R - x.row:=by
        have:=of_decide_eq_true h1
        rw [IntKind.wrap_i64];omega
       cases h2:inB x.col 0 (C - 1) with
       | false =>
        have HF':=Hid.intro (HF.out (by simp only [fitsB,h2,Bool.false_and,Bool.and_false]))
        clear HN HF HO HFit
        refine wp_region_quiet_below hmx (by kernel_rfl) ?_
        repeat (go_big_quiet_step (first | (go_at_call 48;refine bw_same (l1In_any _ _ _ _))))
        refine wpQuiet_nil ?_
        intro _ hw'
        obtain ⟨⟨W7,hW7⟩,hw''⟩:=hw'
        subst hw''
        have HB7:=Hid.intro (k_trans HB1.out hW7)
        clear hW7
        go_wp2
        go_ret
        exact ⟨retB HF'.out.symm,HB7.out⟩
       | true =>
        have r4:IntKind.i64.wrap (C - x.col)=C - x.col:=by
         have:=of_decide_eq_true h2
         rw [IntKind.wrap_i64];omega
        cases h3:inB x.rows 1 (R - x.row) with
        | false =>
         have HF':=Hid.intro (HF.out (by simp only [fitsB,h3,Bool.false_and,Bool.and_false]))
         clear HN HF HO HFit
         refine wp_region_quiet_below hmx (by kernel_rfl) ?_
         repeat (go_big_quiet_step (first | (go_at_call 48;refine bw_same (l1In_any _ _ _ _))))
         refine wpQuiet_nil ?_
         intro _ hw'
         obtain ⟨⟨W7,hW7⟩,hw''⟩:=hw'
         subst hw''
         have HB7:=Hid.intro (k_trans HB1.out hW7)
         clear hW7
         go_wp2
         go_ret
         exact ⟨retB HF'.out.symm,HB7.out⟩
        | true =>
         cases h4:inB x.cols 1 (C - x.col) with
         | false =>
          have HF':=Hid.intro (HF.out (by simp only [fitsB,h4,Bool.false_and,Bool.and_false]))
          clear HN HF HO HFit
          refine wp_region_quiet_below hmx (by kernel_rfl) ?_
          repeat (go_big_quiet_step (first | (go_at_call 48;refine bw_same (l1In_any _ _ _ _))))
          refine wpQuiet_nil ?_
          intro _ hw'
          obtain ⟨⟨W7,hW7⟩,hw''⟩:=hw'
          subst hw''
          have HB7:=Hid.intro (k_trans HB1.out hW7)
          clear hW7
          go_wp2
          go_ret
          exact ⟨retB HF'.out.symm,HB7.out⟩
         | true =>
          cases h5:inB x.ins 0 4 with
          | false =>
           have HF':=Hid.intro (HF.out (by simp only [fitsB,h5,Bool.and_false,Bool.false_and]))
           clear HN HF HO HFit
           refine wp_region_quiet_below hmx (by kernel_rfl) ?_
           repeat (go_big_quiet_step (first | (go_at_call 48;refine bw_same (l1In_any _ _ _ _))))
           refine wpQuiet_nil ?_
           intro _ hw'
           obtain ⟨⟨W7,hW7⟩,hw''⟩:=hw'
           subst hw''
           have HB7:=Hid.intro (k_trans HB1.out hW7)
           clear hW7
           go_wp2
           go_ret
           exact ⟨retB HF'.out.symm,HB7.out⟩
          | true =>
           have hfit:fitsB R C x=true:=by simp only [fitsB,h1,h2,h3,h4,h5,Bool.and_self]
           have hl:(gs.take k).length=k:=by rw [List.length_take];omega
           have KL:=Hid.intro (fun (p:BW W1)=>l3Free_any (some ⟨q,off,none⟩) cc (gs.take k) (fun a ha=>fits_sm (HFit.out a ha) hR2 hC2) x (fits_sm hfit hR2 hC2) p.u (((H.out.kept HB1.out).kept p.h).take hk))
           rw [hl] at KL
           cases hfr:freeG (gs.take k) x with
           | false =>
            rw [hfr] at KL
            have HF':=Hid.intro (HF.out (by simp only [hfr,Bool.and_false]))
            clear HN HF HO HFit hfit hfr hl
            refine wp_region_quiet_below hmx (by kernel_rfl) ?_
            repeat (go_big_quiet_step (first | (go_at_call 48;refine bw_same (l1In_any _ _ _ _)) | (go_at_call 70;refine bw_of (KL.out _))))
            refine wpQuiet_nil ?_
            intro _ hw'
            obtain ⟨⟨W7,hW7⟩,hw''⟩:=hw'
            subst hw''
            have HB7:=Hid.intro (k_trans HB1.out hW7)
            clear hW7
            go_wp2
            go_ret
            exact ⟨retB HF'.out.symm,HB7.out⟩
           | true =>
            rw [hfr] at KL
            have HN':=Hid.intro (HN.out hfit hfr)
            clear HN HF HO HFit hfit hfr hl
            refine wp_region_quiet_below hmx (by kernel_rfl) ?_
            repeat (go_big_quiet_step (first | (go_at_call 48;refine bw_same (l1In_any _ _ _ _)) | (go_at_call 70;refine bw_of (KL.out _))))
            refine wpQuiet_nil ?_
            intro _ hw'
            obtain ⟨⟨W7,hW7⟩,hw''⟩:=hw'
            subst hw''
            have HB7:=Hid.intro (k_trans HB1.out hW7)
            have HX7:=Hid.intro ((hW7.block w.heap.size zw).trans HX1.out)
            clear hW7
            go_wp2
            go_roundw
            case rel=>exact ⟨k+1,by omega,by go_num,HN',HB7,HX7⟩
            case measure=>simp [intOf];omega
     ·obtain rfl:k=gs.length:=by omega
      have HF:Hid (okB ⟨R,C,gs⟩=true):=by
       show okB _=true
       simp only [okB,HBB.out,HO.out,Bool.and_self]
      clear HO
      go_wp2
      go_ret
      exact ⟨retB HF.out.symm,HB.out⟩
   ·have p3':(40:Int) < (gs.length:Int):=by omega
    have HF:Hid (okB ⟨R,C,gs⟩=false):=okB_false1 (by simp only [boundsB,p3,decide_false,Bool.and_false])
    go_enter Try.func34,Try.ntmps34
    go_wp2_with fail
    refine (Q1.out _).mono ?_
    rintro e w1 ⟨rfl,rfl⟩
    go_wp2_with fail
    refine (Q2.out _).mono ?_
    rintro e w1 ⟨rfl,rfl⟩
    go_wp2
    go_ret
    exact ⟨retB HF.out.symm,K0.out⟩
end Go.Proofs.Ytggmjiddadjilao
namespace Go.Proofs.Ytggmjiddadjilao
open Go.RowKit

theorem rowS_owns {w:World} {B:Nat} {v:Value} {l:List ByteArray} (h:RowS w B v l):w.ownsRow B 9 1 v l.length (l.map Value.string):=by
 refine ⟨by simp,?_⟩
 rcases h with ⟨hv,rfl⟩ | ⟨g,cap,cur,hv,hb,hg,h1,h2,h3,h4⟩
 ·exact Or.inl ⟨hv,rfl⟩
 ·refine Or.inr ⟨g,cap,cur,hv,hb,hg,h1,h2,by omega,?_⟩
  apply List.ext_getElem?
  intro i
  rw [Nat.mul_one]
  by_cases hi:i < l.length
  ·rw [List.getElem?_take_of_lt hi,Array.getElem?_toList,h4 i hi]
   simp [List.getD,hi]
  ·rw [List.getElem?_eq_none (by simp;omega),List.getElem?_eq_none (by simp;omega)]
theorem row_next {w:World} {B:Nat} {v:Value} {f:Nat→ByteArray} {r:Nat} (h:w.ownsRow B 9 1 v (r+1) ((List.range r).map (fun i=>Value.string (f i)) ++ [.string (f r)])):RowS w B v ((List.range (r+1)).map f):=by
 refine RowS.of_owns ?_
 rw [List.length_map,List.length_range,List.range_succ,List.map_map,List.map_append]
 exact h

set_option maxRecDepth 100000 in
set_option maxHeartbeats 1000000 in
theorem specQrySlots (R C:Int) (ac:Option Addr) (cc:Nat) (gs:List GC) (w:World) {z:Nat} (h:GsAt w z (.slice ac gs.length cc) gs) :
  Calls Try.prog 12 #[.agg #[.int .i64 R,.int .i64 C,.slice ac gs.length cc]] w fun e w'=>∃ v,e=.returned v∧RowS w' w.heap.size v (looks ⟨R,C,gs⟩)∧Below w.heap.size w w':=by
 obtain ⟨i0,hi,hz0,hz1,hz2⟩:=info_parts infoT
 have Q0:=Hid.intro ((QW.new w R C ac gs.length cc).kept (below_new _ (.cells #[] 9)))
 have H:=Hid.intro h
 have KO:=Hid.intro (specGrdOk R C ac cc gs _ (h.kept Q0.out.below))
 have R0:Hid (RowS ((w.alloc (qsObj R C ac gs.length cc)).alloc (.cells #[] 9)) (w.heap.size+1) (.slice (some ⟨w.heap.size+1,0,none⟩) 0 0) []):=Hid.intro (RowS.of_owns (by
  have:=World.ownsRow_made (w.alloc (qsObj R C ac gs.length cc)) (e:=9) (size:=1) #[] 0 (Nat.le_refl _) (Nat.zero_le _) rfl
  simpa using this))
 obtain ⟨_,_,_,hlen⟩:=At.form h
 unfold maxLen at hlen
 clear h
 cases hok:okB ⟨R,C,gs⟩ with
 | false =>
  rw [hok] at KO
  have HF:=Hid.intro (looks_no hok)
  clear hok
  go_enter Try.func12,Try.ntmps12
  go_wp2_with fail
  refine KO.out.mono ?_
  rintro e w1 ⟨rfl,hb1⟩
  have Q1:=Hid.intro (Q0.out.kept hb1)
  have R1:=Hid.intro (R0.out.below hb1 (Nat.le_refl _))
  clear hb1 KO Q0 R0
  go_wp2
  go_ret
  exact ⟨_,rfl,by rw [HF.out];exact R1.out.base (by omega),Q1.out.below⟩
 | true =>
  rw [hok] at KO
  have hF:=looks_ok hok
  obtain ⟨hr1,hr8,hc1,hc94⟩:=ok_ran hok
  clear hok
  simp only at hr1 hr8 hc1 hc94 hF
  obtain ⟨m,rfl⟩:∃ m:Nat,R=m:=⟨R.toNat,by omega⟩
  obtain ⟨n,rfl⟩:∃ n:Nat,C=n:=⟨C.toNat,by omega⟩
  rw [Int.toNat_natCast,Int.toNat_natCast] at hF
  have HF:=Hid.intro hF
  have hm8:m≤8:=by omega
  have hn94:n≤94:=by omega
  clear hF hr1 hr8 hc1 hc94
  have hmB:=makeB n (by omega)
  go_enter Try.func12,Try.ntmps12
  go_wp2_with fail
  refine KO.out.mono ?_
  rintro e w1 ⟨rfl,hb1⟩
  have Q1:=Hid.intro (Q0.out.kept hb1)
  have R1:=Hid.intro (R0.out.below hb1 (Nat.le_refl _))
  clear hb1 KO Q0 R0
  go_wp2_with fail
  go_loopw [3,4] (fun o i W=>∃ r:Nat,r≤m∧i=.int .i64 r∧Hid (RowS W (w.heap.size+1) o ((List.range r).map (lineB gs n)))∧Hid (QW w m n ac gs.length cc W)) (fun _ i _=>m - (intOf i).toNat)
  case atStart=>exact ⟨0,Nat.zero_le _,rfl,R1,Q1⟩
  case round =>
   clear R1 Q1
   obtain ⟨r,hr,rfl,F,Q⟩:=hrel
   obtain ⟨q0,q1,q2⟩:=Q.out.cells
   obtain ⟨ao,co,rfl⟩:=F.out.form
   rw [List.length_map,List.length_range] at F ⊢
   by_cases hlt:r < m
   case neg =>
    obtain rfl:r=m:=by omega
    go_wp2
    go_ret
    exact ⟨_,rfl,by rw [HF.out];exact F.out.base (by omega),Q.out.below⟩
   have hs:=Q.out.lt
   have G1:=Hid.intro (Fill.new (B:=w.heap.size+1) (T:=5) (f:=fun i=>.int .u8 (letB (findTo (holdsB (r:Int) (i:Int)) gs))) (w:=wr) (by omega) (newB_size n))
   have B1:=Hid.intro (below_new wr (.cells (newB n) 5))
   go_wp2_with fail
   clear q0 q1 q2 hs
   generalize hbb:wr.heap.size=bb at G1 ⊢
   go_loopw [6] (fun j W=>∃ c:Nat,c≤n∧j=.int .i64 c∧Hid (Fill W (w.heap.size+1) bb n 5 c (fun i=>.int .u8 (letB (findTo (holdsB (r:Int) (i:Int)) gs))))∧Hid (Below wr.heap.size wr W)) (fun j _=>n - (intOf j).toNat)
   case atStart=>exact ⟨0,Nat.zero_le _,rfl,G1,B1⟩
   case round =>
    clear G1 B1
    obtain ⟨c,hc,rfl,G,B⟩:=hrel
    have hbb':=Nat.le_of_eq hbb
    have HBB:=Hid.intro hbb
    clear hbb
    have Q2:=Hid.intro (Q.out.kept B.out)
    have F2:=Hid.intro (F.out.below B.out (Nat.le_refl _))
    obtain ⟨q0,q1,q2⟩:=Q2.out.cells
    by_cases hlc:c < n
    case neg =>
     obtain rfl:c=n:=by omega
     have hT:=run_text G.out
     have hO:=rowS_owns F2.out
     rw [List.length_map,List.length_range,List.map_map] at hO
     have Q2s:=Q2.out.lt
     go_wp2_with (at_builtin;refine wpList_append_own _ rfl _ _ 32 rfl (w.heap.size+1) 9 i0 (.string ⟨#[]⟩) 1 16 Try.underlying32 hi hz0 hz1 hz2 rfl (by decide) _ _ _ rfl (hO.alloc _) ⟨wr.heap.size,0,none⟩ 1 1 [.string (lineB gs c r)] rfl rfl ?c1 ?c2 ?c3 ?c4 ?c5 ?_)
     case c1=>exact cell_one_new wr (.string (lineB gs c r)) 9
     case c2=>intro u hu;simp at hu;subst hu;rfl
     case c3=>unfold maxLen;omega
     case c4=>omega
     case c5=>simp;omega
     intro v' w2 hown' hgrow' _
     have Q3:Hid (QW w m c ac gs.length cc w2):=by
      have k1:=(k_alloc (Below.refl (wr.heap.size) wr) (.cells #[.string (lineB gs c r)] 9))
      have q4:=Q2.out.kept k1
      exact ⟨q4.below.grown hgrow' (by have:=q4.lt;omega) (fun b hb=>by have:=(hO.lt b hb).1;omega),(hgrow'.block _ q4.lt (fun e=>by have:=(hO.lt _ e.symm).1;omega)).trans q4.box⟩
     have R3:=Hid.intro (row_next (f:=lineB gs c) hown')
     obtain ⟨g',cap',rfl⟩:=Joins.ownsRow_form hown' (by omega)
     clear hown' hgrow' hO F Q F2 Q2
     go_wp2
     go_roundw
     case rel=>exact ⟨r+1,by omega,by go_num,R3,Q3⟩
     case measure=>simp [intOf];omega
    obtain ⟨hk1,hk2⟩:=findTo_ran (holdsB (r:Int) (c:Int)) gs
    obtain ⟨⟨v0,hv0⟩,hf0⟩:=G.out.slot hlc
    have hbw:w.heap.size < bb:=G.out.1
    have G1:=Hid.intro (G.out.over (i:=c) (Nat.le_refl _) (.int .u8 46))
    have Q3:=Hid.intro (Q2.out.set (p:=⟨bb,c,none⟩) hbw (.int .u8 46))
    have B3:=Hid.intro (k_set B.out (p:=⟨bb,c,none⟩) (by rw [HBB.out];exact Nat.le_refl _) (.int .u8 46))
    have KA:=Hid.intro (specGrdAt m n ac cc gs (r:Int) (c:Int) (by unfold I64;omega) (by unfold I64;omega) _ (H.out.kept Q3.out.below))
    have GS:=Hid.intro (G.out.set hlc)
    have GT:=Hid.intro (fun (W:World) (hf:Fill W (w.heap.size+1) bb n 5 c (fun i=>.int .u8 (letB (findTo (holdsB (r:Int) (i:Int)) gs))))=>hf.set hlc)
    have HY:=Hid.intro (letB_neg (k:=findTo (holdsB (r:Int) (c:Int)) gs))
    have HZ:=Hid.intro (letB_pos (k:=findTo (holdsB (r:Int) (c:Int)) gs))
    generalize letB (findTo (holdsB (r:Int) (c:Int)) gs)=y at GS GT HY HZ
    generalize findTo (holdsB (r:Int) (c:Int)) gs=k at KA hk1 hk2 HY HZ
    obtain ⟨q3,q4,q5⟩:=Q3.out.cells
    clear G Q F F2 Q2
    by_cases hk:k < 0
    ·obtain rfl:=HY.out hk
     obtain rfl:k=-1:=by omega
     clear hk HY HZ GT
     go_wp2_with fail
     refine KA.out.mono ?_
     rintro e W5 ⟨rfl,hb5⟩
     have G5:=Hid.intro (GS.out.kept hb5)
     have B5:=Hid.intro (k_trans B3.out hb5)
     clear hb5 KA
     go_wp2
     go_roundw
     case rel=>exact ⟨c+1,by omega,by go_num,G5,B5⟩
     case measure=>simp [intOf];omega
    ·obtain rfl:=HZ.out hk
     obtain ⟨a,rfl⟩:∃ a:Nat,k=a:=⟨k.toNat,by omega⟩
     have hm:Int.tmod (a:Int) 26=(a:Int) % 26:=Int.tmod_eq_emod_of_nonneg (by omega)
     clear HY HZ GS
     go_wp2_with fail
     refine KA.out.mono ?_
     rintro e W5 ⟨rfl,hb5⟩
     have G5:=Hid.intro (G1.out.kept hb5)
     have B5:=Hid.intro (k_trans B3.out hb5)
     obtain ⟨⟨v5,hv5⟩,hf5⟩:=G5.out.slot hlc
     have G6:=Hid.intro (GT.out _ G5.out)
     have B6:=Hid.intro (k_set B5.out (p:=⟨bb,c,none⟩) (by rw [HBB.out];exact Nat.le_refl _) (.int .u8 (97+(a:Int) % 26)))
     clear hb5 KA GT G1
     go_wp2
     go_roundw
     case rel=>exact ⟨c+1,by omega,by go_num,G6,B6⟩
     case measure=>simp [intOf];omega
end Go.Proofs.Ytggmjiddadjilao
