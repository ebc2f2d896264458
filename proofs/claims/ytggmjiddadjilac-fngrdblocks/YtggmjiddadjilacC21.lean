/-
  PROVED HERE: what the model's GrdOk answers at a grid that lies in memory; nothing that was in memory is turned. Also: what the model's GrdBlocks answers at a grid that lies in memory, and that its answer owns its memory; nothing that was in memory is turned.
-/
import Derived.Test.YtggmjiddadjilacC18
import Derived.Test.YtggmjiddadjilacC17
namespace Go.Proofs.Ytggmjiddadjilac
open Go.RowKit Go.BigFrame

set_option maxRecDepth 100000 in
set_option maxHeartbeats 20000000 in
theorem specGrdOk (R C:Int) (ac:Option Addr) (cc:Nat) (gs:List GC) (w:World) {z:Nat} (h:GsAt w z (.slice ac gs.length cc) gs) :
  Calls Try.prog 12 #[.agg #[.int .i64 R,.int .i64 C,.slice ac gs.length cc]] w fun e w'=>e=.returned (.bool (okB ⟨R,C,gs⟩))∧Below w.heap.size w w':=by
 obtain ⟨_,_,_,hlen⟩:=At.form h
 unfold maxLen at hlen
 have K0:=Hid.intro (k_alloc (Below.refl w.heap.size w) (.cells #[.int .i64 R,.int .i64 C,.slice ac gs.length cc] 25))
 have X0:=Hid.intro (newestB w (.cells #[.int .i64 R,.int .i64 C,.slice ac gs.length cc] 25))
 have H:=Hid.intro h
 have hmx:Try.prog.follows .mixedOrders=true:=by kernel_rfl
 have Q1:=Hid.intro (l1In_any R 1 8)
 have Q2:=Hid.intro (l1In_any C 1 94)
 clear h
 cases p1:inB R 1 8 with
 | false =>
  have HF:Hid (okB ⟨R,C,gs⟩=false):=okB_false1 (by simp only [boundsB,p1,Bool.false_and])
  rw [p1] at Q1
  go_enter Try.func12,Try.ntmps12
  go_wp2_with fail
  refine (Q1.out _).mono ?_
  rintro e w1 ⟨rfl,rfl⟩
  go_wp2
  go_ret
  exact ⟨retB HF.out.symm,K0.out⟩
 | true =>
  rw [p1] at Q1
  cases p2:inB C 1 94 with
  | false =>
   have HF:Hid (okB ⟨R,C,gs⟩=false):=okB_false1 (by simp only [boundsB,p2,Bool.false_and,Bool.and_false])
   rw [p2] at Q2
   go_enter Try.func12,Try.ntmps12
   go_wp2_with fail
   refine (Q1.out _).mono ?_
   rintro e w1 ⟨rfl,rfl⟩
   go_wp2_with fail
   refine (Q2.out _).mono ?_
   rintro e w1 ⟨rfl,rfl⟩
   go_wp2
   go_ret
   exact ⟨retB HF.out.symm,K0.out⟩
  | true =>
   rw [p2] at Q2
   by_cases p3:gs.length≤40
   ·have HBB:=Hid.intro (bounds_intro p1 p2 p3)
    obtain ⟨hR1,hR2,hC1,hC2,hn⟩:=bounds_of HBB.out
    have p3':¬ (40:Int) < (gs.length:Int):=by omega
    clear p1 p2
    go_enter Try.func12,Try.ntmps12
    go_wp2_with fail
    refine (Q1.out _).mono ?_
    rintro e w1 ⟨rfl,rfl⟩
    go_wp2_with fail
    refine (Q2.out _).mono ?_
    rintro e w1 ⟨rfl,rfl⟩
    go_wp2_with fail
    go_loopw [3] (fun i W=>∃ k:Nat,k≤gs.length∧i=.int .i64 k∧Hid (okTo R C gs k=true)∧Hid (Below w.heap.size w W)∧Hid (W.heap[w.heap.size]?=some (.cells #[.int .i64 R,.int .i64 C,.slice ac gs.length cc] 25))) (fun i _=>gs.length - (intOf i).toNat)
    case atStart=>exact ⟨0,Nat.zero_le _,rfl,okTo_zero _ _ _,K0.out,X0.out⟩
    case round =>
     obtain ⟨k,hk,rfl,HO,HB,HX⟩:=hrel
     have g2':wr.cell? ⟨w.heap.size,2,none⟩=some (.slice ac gs.length cc):=cellB HX.out
     have hz:w.heap.size < wr.heap.size:=(Array.getElem?_eq_some_iff.1 HX.out).1
     by_cases hlt:k < gs.length
     ·have hlt':(k:Int) < (gs.length:Int):=by omega
      have h0':(0:Int)≤(k:Int):=by omega
      obtain ⟨q,off,cap',e',hc1,hc2,hbl,hx,hs⟩:=At.get (H.out.kept HB.out) hlt
      simp only [Value.slice.injEq,true_and] at e'
      obtain ⟨rfl,rfl⟩:=e'
      have HN:Hid (fitsB R C (gs.getD k dG)=true→freeG (gs.take k) (gs.getD k dG)=true→okTo R C gs (k+1)=true):=fun h1 h2=>okTo_succ HO.out h1 h2
      have HF:Hid ((fitsB R C (gs.getD k dG) && freeG (gs.take k) (gs.getD k dG))=false→okB ⟨R,C,gs⟩=false):=fun h1=>okB_false2 (okTo_false hlt h1)
      have HFit:=Hid.intro (okTo_fits (Nat.le_of_lt hlt) HO.out)
      generalize gs.getD k dG=x at hx hs HN HF
      obtain ⟨x0,x1,x2,x3,x4⟩:=hx
      obtain ⟨b0,b1,b2,b3,b4⟩:=hs
      unfold I64 at b0 b1 b2 b3 b4
      unfold maxLen at hc2
      go_wp2_with fail
      obtain ⟨W1,hW1⟩:∃ W1,wr.alloc (.cells #[.int .i64 x.row,.int .i64 x.col,.int .i64 x.rows,.int .i64 x.cols,.int .i64 x.ins] 35)=W1:=⟨_,rfl⟩
      rw [hW1]
      have hs1:W1.heap.size=wr.heap.size+1:=by rw [← hW1];simp
      have HB1:Hid (Below w.heap.size w W1):=by rw [← hW1];exact k_alloc HB.out _
      have HX1:Hid (W1.heap[w.heap.size]?=some (.cells #[.int .i64 R,.int .i64 C,.slice (some ⟨q,off,none⟩) gs.length cc] 25)):=by rw [← hW1];exact (Below.heap_alloc _ _ _ hz).trans HX.out
      have HY1:Hid (W1.heap[wr.heap.size]?=some (.cells #[.int .i64 x.row,.int .i64 x.col,.int .i64 x.rows,.int .i64 x.cols,.int .i64 x.ins] 35)):=by rw [← hW1];exact newestB _ _
      have zw:w.heap.size < W1.heap.size:=by omega
      have zr:wr.heap.size < W1.heap.size:=by omega
      clear hW1 HB HX
      have g0:=bw_cell (a:=⟨w.heap.size,0,none⟩) (v:=.int .i64 R) zw (cellB HX1.out)
      have g1:=bw_cell (a:=⟨w.heap.size,1,none⟩) (v:=.int .i64 C) zw (cellB HX1.out)
      have g2:=bw_cell (a:=⟨w.heap.size,2,none⟩) (v:=.slice (some ⟨q,off,none⟩) gs.length cc) zw (cellB HX1.out)
      have y0:=bw_cell (a:=⟨wr.heap.size,0,none⟩) (v:=.int .i64 x.row) zr (cellB HY1.out)
      have y1:=bw_cell (a:=⟨wr.heap.size,1,none⟩) (v:=.int .i64 x.col) zr (cellB HY1.out)
      have y2:=bw_cell (a:=⟨wr.heap.size,2,none⟩) (v:=.int .i64 x.rows) zr (cellB HY1.out)
      have y3:=bw_cell (a:=⟨wr.heap.size,3,none⟩) (v:=.int .i64 x.cols) zr (cellB HY1.out)
      have y4:=bw_cell (a:=⟨wr.heap.size,4,none⟩) (v:=.int .i64 x.ins) zr (cellB HY1.out)
      have hne:=bw_some W1
      have r1:IntKind.i64.wrap (R - 1)=R - 1:=by rw [IntKind.wrap_i64];omega
      have r2:IntKind.i64.wrap (C - 1)=C - 1:=by rw [IntKind.wrap_i64];omega
      cases h1:inB x.row 0 (R - 1) with
      | false =>
       have HF':=Hid.intro (HF.out (by simp only [fitsB,h1,Bool.false_and]))
       clear HN HF HO HFit
       refine wp_region_quiet_below hmx (by kernel_rfl) ?_
       repeat (go_big_quiet_step (first | (go_at_call 36;refine bw_same (l1In_any _ _ _ _))))
       refine wpQuiet_nil ?_
       intro _ hw'
       obtain ⟨⟨W7,hW7⟩,hw''⟩:=hw'
       subst hw''
       have HB7:=Hid.intro (k_trans HB1.out hW7)
       clear hW7
       go_wp2
       go_ret
       exact ⟨retB HF'.out.symm,HB7.out⟩
      | true =>
       have r3:IntKind.i64.wrap (R - x.row)=R - x.row:=by
        have:=of_decide_eq_true h1
        rw [IntKind.wrap_i64];omega
       cases h2:inB x.col 0 (C - 1) with
       | false =>
        have HF':=Hid.intro (HF.out (by simp only [fitsB,h2,Bool.false_and,Bool.and_false]))
        clear HN HF HO HFit
        refine wp_region_quiet_below hmx (by kernel_rfl) ?_
        repeat (go_big_quiet_step (first | (go_at_call 36;refine bw_same (l1In_any _ _ _ _))))
        refine wpQuiet_nil ?_
        intro _ hw'
        obtain ⟨⟨W7,hW7⟩,hw''⟩:=hw'
        subst hw''
        have HB7:=Hid.intro (k_trans HB1.out hW7)
        clear hW7
        go_wp2
        go_ret
        exact ⟨retB HF'.out.symm,HB7.out⟩
       | true =>
        have r4:IntKind.i64.wrap (C - x.col)=C - x.col:=by
         have:=of_decide_eq_true h2
         rw [IntKind.wrap_i64];omega
        cases h3:inB x.rows 1 (R - x.row) with
        | false =>
         have HF':=Hid.intro (HF.out (by simp only [fitsB,h3,Bool.false_and,Bool.and_false]))
         clear HN HF HO HFit
         refine wp_region_quiet_below hmx (by kernel_rfl) ?_
         repeat (go_big_quiet_step (first | (go_at_call 36;refine bw_same (l1In_any _ _ _ _))))
         refine wpQuiet_nil ?_
         intro _ hw'
         obtain ⟨⟨W7,hW7⟩,hw''⟩:=hw'
         subst hw''
         have HB7:=Hid.intro (k_trans HB1.out hW7)
         clear hW7
         go_wp2
         go_ret
         exact ⟨retB HF'.out.symm,HB7.out⟩
        | true =>
         cases h4:inB x.cols 1 (C - x.col) with
         | false =>
          have HF':=Hid.intro (HF.out (by simp only [fitsB,h4,Bool.false_and,Bool.and_false]))
          clear HN HF HO HFit
          refine wp_region_quiet_below hmx (by kernel_rfl) ?_
          repeat (go_big_quiet_step (first | (go_at_call 36;refine bw_same (l1In_any _ _ _ _))))
          refine wpQuiet_nil ?_
          intro _ hw'
          obtain ⟨⟨W7,hW7⟩,hw''⟩:=hw'
          subst hw''
          have HB7:=Hid.intro (k_trans HB1.out hW7)
          clear hW7
          go_wp2
          go_ret
          exact ⟨retB HF'.out.symm,HB7.out⟩
         | true =>
          cases h5:inB x.ins 0 4 with
          | false =>
           have HF':=Hid.intro (HF.out (by simp only [fitsB,h5,Bool.and_false,Bool.false_and]))
           clear HN HF HO HFit
           refine wp_region_quiet_below hmx (by kernel_rfl) ?_
           repeat (go_big_quiet_step (first | (go_at_call 36;refine bw_same (l1In_any _ _ _ _))))
           refine wpQuiet_nil ?_
           intro _ hw'
           obtain ⟨⟨W7,hW7⟩,hw''⟩:=hw'
           subst hw''
           have HB7:=Hid.intro (k_trans HB1.out hW7)
           clear hW7
           go_wp2
           go_ret
           exact ⟨retB HF'.out.symm,HB7.out⟩
          | true =>
           have hfit:fitsB R C x=true:=by simp only [fitsB,h1,h2,h3,h4,h5,Bool.and_self]
           have hl:(gs.take k).length=k:=by rw [List.length_take];omega
           have KL:=Hid.intro (fun (p:BW W1)=>l3Free_any (some ⟨q,off,none⟩) cc (gs.take k) (fun a ha=>fits_sm (HFit.out a ha) hR2 hC2) x (fits_sm hfit hR2 hC2) p.u (((H.out.kept HB1.out).kept p.h).take hk))
           rw [hl] at KL
           cases hfr:freeG (gs.take k) x with
           | false =>
            rw [hfr] at KL
            have HF':=Hid.intro (HF.out (by simp only [hfr,Bool.and_false]))
            clear HN HF HO HFit hfit hfr hl
            refine wp_region_quiet_below hmx (by kernel_rfl) ?_
            repeat (go_big_quiet_step (first | (go_at_call 36;refine bw_same (l1In_any _ _ _ _)) | (go_at_call 37;refine bw_of (KL.out _))))
            refine wpQuiet_nil ?_
            intro _ hw'
            obtain ⟨⟨W7,hW7⟩,hw''⟩:=hw'
            subst hw''
            have HB7:=Hid.intro (k_trans HB1.out hW7)
            clear hW7
            go_wp2
            go_ret
            exact ⟨retB HF'.out.symm,HB7.out⟩
           | true =>
            rw [hfr] at KL
            have HN':=Hid.intro (HN.out hfit hfr)
            clear HN HF HO HFit hfit hfr hl
            refine wp_region_quiet_below hmx (by kernel_rfl) ?_
            repeat (go_big_quiet_step (first | (go_at_call 36;refine bw_same (l1In_any _ _ _ _)) | (go_at_call 37;refine bw_of (KL.out _))))
            refine wpQuiet_nil ?_
            intro _ hw'
            obtain ⟨⟨W7,hW7⟩,hw''⟩:=hw'
            subst hw''
            have HB7:=Hid.intro (k_trans HB1.out hW7)
            have HX7:=Hid.intro ((hW7.block w.heap.size zw).trans HX1.out)
            clear hW7
            go_wp2
            go_roundw
            case rel=>exact ⟨k+1,by omega,by go_num,HN',HB7,HX7⟩
            case measure=>simp [intOf];omega
     ·obtain rfl:k=gs.length:=by omega
      have HF:Hid (okB ⟨R,C,gs⟩=true):=by
       show okB _=true
       simp only [okB,HBB.out,HO.out,Bool.and_self]
      clear HO
      go_wp2
      go_ret
      exact ⟨retB HF.out.symm,HB.out⟩
   ·have p3':(40:Int) < (gs.length:Int):=by omega
    have HF:Hid (okB ⟨R,C,gs⟩=false):=okB_false1 (by simp only [boundsB,p3,decide_false,Bool.and_false])
    go_enter Try.func12,Try.ntmps12
    go_wp2_with fail
    refine (Q1.out _).mono ?_
    rintro e w1 ⟨rfl,rfl⟩
    go_wp2_with fail
    refine (Q2.out _).mono ?_
    rintro e w1 ⟨rfl,rfl⟩
    go_wp2
    go_ret
    exact ⟨retB HF.out.symm,K0.out⟩
end Go.Proofs.Ytggmjiddadjilac
namespace Go.Proofs.Ytggmjiddadjilac
open Go.RowKit Go.BigFrame

theorem overS_step (gs:List GC) (row:Int) (k:Nat) (hk:k < gs.length):(!(gs.take (k+1)).any (overS row))=((!(gs.take k).any (overS row)) && !overS row (gs.getD k dG)):=by
 rw [List.take_succ_eq_append_getElem hk,List.any_append]
 simp [List.getD,hk]

set_option maxRecDepth 100000 in
set_option maxHeartbeats 4000000 in
theorem specGrdBlocks (R C:Int) (ac:Option Addr) (cc:Nat) (gs:List GC) (w:World) {z:Nat} (h:GsAt w z (.slice ac gs.length cc) gs) :
  Calls Try.prog 21 #[.agg #[.int .i64 R,.int .i64 C,.slice ac gs.length cc]] w fun e w'=>∃ v,e=.returned v∧RowI w' w.heap.size w'.heap.size v (blocksL ⟨R,C,gs⟩)∧Below w.heap.size w w':=by
 obtain ⟨_,_,_,hlen⟩:=At.form h
 unfold maxLen at hlen
 obtain ⟨i0,hi,hz0,hz1,hz2⟩:=info_parts infoIB
 have K0:=Hid.intro (k_alloc (k_alloc (Below.refl w.heap.size w) (.cells #[.int .i64 R,.int .i64 C,.slice ac gs.length cc] 25)) (.cells #[] 3))
 have H:=Hid.intro h
 clear h
 have KO:=Hid.intro (specGrdOk R C ac cc gs _ (H.out.kept K0.out))
 cases ho:okB ⟨R,C,gs⟩ with
 | false =>
  have HF:=Hid.intro (blocksL_no ho)
  rw [ho] at KO
  clear ho
  go_enter Try.func21,Try.ntmps21
  go_wp2_with fail
  refine KO.out.mono ?_
  rintro e w1 ⟨rfl,hb1⟩
  have K1:=Hid.intro (k_trans K0.out hb1)
  have E1:Hid (w1.heap[w.heap.size+1]?=some (.cells #[] 3)):=Hid.intro ((hb1.block (w.heap.size+1) (by simp)).trans (by have:=newestB (w.alloc (.cells #[.int .i64 R,.int .i64 C,.slice ac gs.length cc] 25)) (.cells #[] 3);rwa [World.size_alloc] at this))
  clear hb1
  go_wp2
  go_ret
  refine ⟨_,rfl,?_,K1.out⟩
  rw [HF.out]
  refine .inr ⟨w.heap.size+1,0,#[],rfl,by omega,(Array.getElem?_eq_some_iff.1 E1.out).1,E1.out,Nat.le_refl _,Nat.zero_le _,rfl,fun i hi=>absurd hi (Nat.not_lt_zero _)⟩
 | true =>
  have HF:=Hid.intro (blocksL_ok ho)
  rw [ho] at KO
  have ho2:=ho
  simp only [okB,Bool.and_eq_true] at ho2
  obtain ⟨hR1,hR2,hC1,hC2,hn⟩:=bounds_of ho2.1
  have HFit:=Hid.intro (okTo_fits (Nat.le_refl _) ho2.2)
  rw [List.take_length] at HFit
  obtain ⟨Rn,rfl⟩:∃ Rn:Nat,R=Rn:=⟨R.toNat,by omega⟩
  clear ho ho2
  go_enter Try.func21,Try.ntmps21
  go_wp2_with fail
  refine KO.out.mono ?_
  rintro e w1 ⟨rfl,hb1⟩
  have K1:=Hid.intro (k_trans K0.out hb1)
  have X1:=Hid.intro ((hb1.block w.heap.size (by simp;omega)).trans ((Below.heap_alloc _ _ _ (by simp)).trans (newestB _ _)))
  have E1:Hid (w1.heap[w.heap.size+1]?=some (.cells #[] 3)):=Hid.intro ((hb1.block (w.heap.size+1) (by simp)).trans (by have:=newestB (w.alloc (.cells #[.int .i64 (Rn:Int),.int .i64 C,.slice ac gs.length cc] 25)) (.cells #[] 3);rwa [World.size_alloc] at this))
  have hs1:w.heap.size+2≤w1.heap.size:=by have:=hb1.size;simp at this;omega
  have HO1:Hid (w1.ownsRow (w.heap.size+1) 3 1 (.slice (some ⟨w.heap.size+1,0,none⟩) 0 0) (blocksTo gs 0).length ((blocksTo gs 0).map (Value.int .i64))) :=
   ⟨by simp,.inr ⟨w.heap.size+1,0,#[],rfl,Nat.le_refl _,E1.out,Nat.le_refl _,Nat.zero_le _,rfl,rfl⟩⟩
  clear hb1
  go_wp2_with fail
  go_loopw [4,3] (fun i v W=>∃ (k:Nat) (vb:Value),k≤Rn∧i=.int .i64 k∧v=vb∧Hid (W.ownsRow (w.heap.size+1) 3 1 vb (blocksTo gs k).length ((blocksTo gs k).map (Value.int .i64)))∧Hid (Below w.heap.size w W)∧Hid (W.heap[w.heap.size]?=some (.cells #[.int .i64 (Rn:Int),.int .i64 C,.slice ac gs.length cc] 25))∧w.heap.size+2≤W.heap.size) (fun i _ _=>Rn - (intOf i).toNat)
  case atStart=>exact ⟨0,_,Nat.zero_le _,rfl,rfl,HO1,K1,X1,hs1⟩
  case round =>
   obtain ⟨k,vb,hk,rfl,rfl,HO,HB,HX,hsr⟩:=hrel
   have g0:wr.cell? ⟨w.heap.size,0,none⟩=some (.int .i64 (Rn:Int)):=cellB HX.out
   by_cases hlt:k < Rn
   ·have hbl:=blocksTo_len gs k
    go_wp2_with fail
    go_loopw [6,5] (fun i f W=>∃ (j n:Nat),j≤gs.length∧i=.int .i64 j∧f=.bool (!(gs.take j).any (overS (k:Int)))∧W=wr.drewN n) (fun i _ _=>gs.length - (intOf i).toNat)
    case atStart=>exact ⟨0,0,Nat.zero_le _,rfl,rfl,rfl⟩
    case round =>
     obtain ⟨j,nd,hj,rfl,rfl,rfl⟩:=hrel
     have g2:wr.cell? ⟨w.heap.size,2,none⟩=some (.slice ac gs.length cc):=cellB HX.out
     by_cases hlj:j < gs.length
     ·have hlj':(j:Int) < (gs.length:Int):=by omega
      have h0':(0:Int)≤(j:Int):=by omega
      obtain ⟨q,off,cap',e',hc1,hc2,hbq,hx,hs⟩:=At.get (H.out.kept HB.out) hlj
      simp only [Value.slice.injEq,true_and] at e'
      obtain ⟨rfl,rfl⟩:=e'
      have HS:=Hid.intro (overS_step gs (k:Int) j hlj)
      have hfit:fitsB (Rn:Int) C (gs.getD j dG)=true:=HFit.out _ (by simp [List.getD,hlj])
      obtain ⟨e1,e2,e3,e4,f1,f2,f3,f4⟩:=fits_of hfit
      generalize gs.getD j dG=x at *
      generalize (!(gs.take j).any (overS (k:Int)))=fb at *
      obtain ⟨x0,x1,x2,x3,x4⟩:=hx
      unfold maxLen at hc2
      have b0:0≤x.row∧x.row≤8∧0≤x.rows∧x.rows≤8:=by omega
      clear hs hfit e1 e2 e3 e4 f1 f2 f3 f4
      cases fb with
      | false =>
       have HS':Hid ((!(gs.take (j+1)).any (overS (k:Int)))=false):=by show (!(gs.take (j+1)).any (overS (k:Int)))=false;rw [HS.out];rfl
       clear HS
       go_wp2_with fail
       go_quiet (fail)
       go_wp2
       go_roundw
       case rel=>exact ⟨j+1,nd+nq,by omega,by go_num,by rw [HS'.out],rfl⟩
       case measure=>simp [intOf];omega
      | true =>
       by_cases h1:x.row < (k:Int)
       ·have d1:decide (x.row < (k:Int))=true:=decide_eq_true h1
        by_cases h2:(k:Int) < x.row+x.rows
        ·have d2:decide ((k:Int) < x.row+x.rows)=true:=decide_eq_true h2
         have HS':Hid ((!(gs.take (j+1)).any (overS (k:Int)))=false):=by show (!(gs.take (j+1)).any (overS (k:Int)))=false;rw [HS.out];simp only [overS,d1,d2];rfl
         clear HS
         go_wp2_with fail
         go_quiet (fail)
         go_wp2
         go_roundw
         case rel=>exact ⟨j+1,nd+nq,by omega,by go_num,by rw [HS'.out],rfl⟩
         case measure=>simp [intOf];omega
        ·have d2:decide ((k:Int) < x.row+x.rows)=false:=decide_eq_false h2
         have HS':Hid ((!(gs.take (j+1)).any (overS (k:Int)))=true):=by show (!(gs.take (j+1)).any (overS (k:Int)))=true;rw [HS.out];simp only [overS,d1,d2];rfl
         clear HS
         go_wp2_with fail
         go_quiet (fail)
         go_wp2
         go_roundw
         case rel=>exact ⟨j+1,nd+nq,by omega,by go_num,by rw [HS'.out],rfl⟩
         case measure=>simp [intOf];omega
       ·have d1:decide (x.row < (k:Int))=false:=decide_eq_false h1
        have HS':Hid ((!(gs.take (j+1)).any (overS (k:Int)))=true):=by show (!(gs.take (j+1)).any (overS (k:Int)))=true;rw [HS.out];simp only [overS,d1];rfl
        clear HS
        go_wp2_with fail
        go_quiet (fail)
        go_wp2
        go_roundw
        case rel=>exact ⟨j+1,nd+nq,by omega,by go_num,by rw [HS'.out],rfl⟩
        case measure=>simp [intOf];omega
     ·obtain rfl:j=gs.length:=by omega
      have HO2:Hid ((wr.drewN nd).ownsRow (w.heap.size+1) 3 1 _ (blocksTo gs k).length ((blocksTo gs k).map (Value.int .i64))):=HO.out
      have HB2:=Hid.intro (k_drewN HB.out nd)
      have HX2:Hid ((wr.drewN nd).heap[w.heap.size]?=some (.cells #[.int .i64 (Rn:Int),.int .i64 C,.slice ac gs.length cc] 25)):=HX.out
      have hs2:w.heap.size+2≤(wr.drewN nd).heap.size:=hsr
      have hfb:(!(gs.take gs.length).any (overS (k:Int)))=!crossS gs (k:Int):=by rw [List.take_length];rfl
      rw [hfb]
      clear hfb
      generalize wr.drewN nd=w2 at *
      have g3:w2.cell? ⟨w.heap.size,2,none⟩=some (.slice ac gs.length cc):=cellB HX2.out
      cases h1:crossS gs (k:Int) with
      | true =>
       have HS:=Hid.intro (blocksTo_out h1)
       rw [show (!true)=false from rfl]
       clear h1
       go_wp2
       go_roundw
       case rel=>exact ⟨k+1,_,by omega,by go_num,rfl,by rw [HS.out];exact HO2,HB2,HX2,hs2⟩
       case measure=>simp [intOf];omega
      | false =>
       have HS:=Hid.intro (blocksTo_in h1)
       have hO2:=HO2.out
       rw [show (!false)=true from rfl]
       clear h1 HO HO2
       go_wp2_with (at_builtin;refine wpList_append_own _ rfl _ _ 36 rfl (w.heap.size+1) 3 i0 (.int .i64 0) 1 8 Try.underlying36 hi hz0 hz1 hz2 rfl (by decide) _ _ _ rfl (hO2.alloc _) ⟨w2.heap.size,0,none⟩ 1 1 [.int .i64 (k:Int)] rfl rfl ?c1 ?c2 ?c3 ?c4 ?c5 ?_)
       case c1 =>
        intro i u hi
        match i,hi with
        | 0,hi=>simp at hi;subst hi;simp [Addr.add]
       case c2=>intro u hu;simp at hu;subst hu;rfl
       case c3=>unfold maxLen;omega
       case c4=>omega
       case c5=>simp;omega
       intro v' w5 hown' hgrow' _
       have hne:=own_neI hO2 (Nat.lt_succ_self w.heap.size)
       have HB5:Hid (Below w.heap.size w w5):=(k_alloc HB2.out _).grown hgrow' (by simp;omega) (fun j e=>by have:=own_ge hO2 e;omega)
       have HX5:Hid (w5.heap[w.heap.size]?=_):=Hid.intro ((hgrow'.block w.heap.size (by simp;omega) hne).trans ((Below.heap_alloc _ _ _ (by omega)).trans HX2.out))
       have hs5:w.heap.size+2≤w5.heap.size:=by have:=hgrow'.size;simp at this;omega
       have HO5:Hid (w5.ownsRow (w.heap.size+1) 3 1 v' (blocksTo gs (k+1)).length ((blocksTo gs (k+1)).map (Value.int .i64))):=Hid.intro (by rw [HS.out];simpa using hown')
       obtain ⟨g',cap',rfl⟩:=Joins.ownsRow_form hown' (by omega)
       clear hown' hgrow' hO2 hne
       go_wp2
       go_roundw
       case rel=>exact ⟨k+1,_,by omega,by go_num,rfl,HO5,HB5,HX5,hs5⟩
       case measure=>simp [intOf];omega
   ·obtain rfl:k=Rn:=by omega
    go_wp2
    go_ret
    refine ⟨_,rfl,?_,HB.out⟩
    rw [HF.out]
    exact (RowI.of_owns HO.out).base (by omega) (Nat.le_refl _)
end Go.Proofs.Ytggmjiddadjilac
