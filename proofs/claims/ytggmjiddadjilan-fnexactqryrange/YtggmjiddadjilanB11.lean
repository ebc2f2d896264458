/-
  PROVED HERE: what the model's l3Meets and l3Free answer; nothing that was in memory is turned. Also: what the model's GrdOk answers at a grid that lies in memory; nothing that was in memory is turned. Also: what the model's l10Span answers: the least part that has two; nothing that was in memory is turned.
-/
import Derived.Test.YtggmjiddadjilanB8
import Derived.Test.YtggmjiddadjilanB6
import Derived.Test.YtggmjiddadjilanB9
namespace Go.Proofs.Ytggmjiddadjilan
open Go.RowKit Go.BigFrame

/-- no number of a cell is great -/
def Sm (x:GC):Prop:=(0≤x.row∧x.row≤100000)∧(0≤x.col∧x.col≤100000)∧(0≤x.rows∧x.rows≤100000)∧(0≤x.cols∧x.cols≤100000)
theorem fits_sm {R C:Int} {x:GC} (h:fitsB R C x=true) (hR:R≤8) (hC:C≤94):Sm x:=by
 obtain ⟨e1,e2,e3,e4,h1,h2,h3,h4⟩:=fits_of h
 unfold Sm
 omega
theorem GsAt.take {w:World} {z:Nat} {ac:Option Addr} {cc:Nat} {gs:List GC} (h:GsAt w z (.slice ac gs.length cc) gs) {k:Nat} (hk:k≤gs.length):GsAt w z (.slice ac (gs.take k).length cc) (gs.take k):=by
 obtain ⟨a,cap,e,h1,h2,hx⟩:=h
 simp only [Value.slice.injEq,true_and] at e
 obtain ⟨rfl,rfl⟩:=e
 have hl:(gs.take k).length=k:=by rw [List.length_take];omega
 refine ⟨_,_,rfl,by omega,h2,fun i hi=>?_⟩
 obtain ⟨b,off,ea,hb,hz,he⟩:=hx i (by omega)
 have e:(gs.take k).getD i dG=gs.getD i dG:=by simp [List.getD,show i < k by omega]
 exact ⟨b,off,ea,hb,hz,by dsimp only;rw [e];exact he⟩

def gcA (x:GC):Value:=.agg #[.int .i64 x.row,.int .i64 x.col,.int .i64 x.rows,.int .i64 x.cols,.int .i64 x.ins]
set_option maxRecDepth 100000 in
set_option maxHeartbeats 1000000 in
theorem l3Meets_any (a b:GC) (ha:Sm a) (hb:Sm b) (w:World) :
  Calls Try.prog 20 #[.agg #[.int .i64 a.row,.int .i64 a.col,.int .i64 a.rows,.int .i64 a.cols,.int .i64 a.ins],.agg #[.int .i64 b.row,.int .i64 b.col,.int .i64 b.rows,.int .i64 b.cols,.int .i64 b.ins]] w fun e w'=>e=.returned (.bool (meetsB a b))∧Below w.heap.size w w':=by
 obtain ⟨a0,a1,a2,a3⟩:=ha
 obtain ⟨b0,b1,b2,b3⟩:=hb
 by_cases h1:a.row < b.row+b.rows
 ·by_cases h2:b.row < a.row+a.rows
  ·by_cases h3:a.col < b.col+b.cols
   ·have HE:Hid (meetsB a b=decide (b.col < a.col+a.cols)):=by
     show meetsB a b=_
     simp only [meetsB,h1,h2,h3,decide_true,Bool.true_and]
    go_enter Try.func20,Try.ntmps20
    go_wp2
    go_ret
    exact ⟨retB HE.out.symm,k_alloc (k_alloc (Below.refl _ _) _) _⟩
   ·have HE:Hid (meetsB a b=false):=by
     show meetsB a b=_
     simp only [meetsB,h3,decide_false,Bool.false_and,Bool.and_false]
    go_enter Try.func20,Try.ntmps20
    go_wp2
    go_ret
    exact ⟨retB HE.out.symm,k_alloc (k_alloc (Below.refl _ _) _) _⟩
  ·have HE:Hid (meetsB a b=false):=by
    show meetsB a b=_
    simp only [meetsB,h2,decide_false,Bool.false_and,Bool.and_false]
   go_enter Try.func20,Try.ntmps20
   go_wp2
   go_ret
   exact ⟨retB HE.out.symm,k_alloc (k_alloc (Below.refl _ _) _) _⟩
 ·have HE:Hid (meetsB a b=false):=by
   show meetsB a b=_
   simp only [meetsB,h1,decide_false,Bool.false_and]
  go_enter Try.func20,Try.ntmps20
  go_wp2
  go_ret
  exact ⟨retB HE.out.symm,k_alloc (k_alloc (Below.refl _ _) _) _⟩

theorem freeG_hit {gs:List GC} {x:GC} {k:Nat} (hk:k < gs.length) (h:meetsB (gs.getD k dG) x=true):freeG gs x=false:=by
 cases h2:freeG gs x with
 | false=>rfl
 | true =>
  have e:gs.getD k dG=gs[k]:=by simp [List.getD,hk]
  have:=List.all_eq_true.1 h2 gs[k] (List.getElem_mem hk)
  rw [← e,h] at this
  cases this
theorem freeG_all {gs:List GC} {x:GC} (h:∀ j,j < gs.length→meetsB (gs.getD j dG) x=false):freeG gs x=true:=by
 refine List.all_eq_true.2 (fun a ha=>?_)
 obtain ⟨i,hi,rfl⟩:=List.mem_iff_getElem.1 ha
 have:=h i hi
 have e:gs.getD i dG=gs[i]:=by simp [List.getD,hi]
 rw [e] at this
 rw [this];rfl

set_option maxRecDepth 100000 in
set_option maxHeartbeats 1000000 in
theorem l3Free_any (ac:Option Addr) (cc:Nat) (gs:List GC) (hgs:∀ a ∈ gs,Sm a) (x:GC) (hxs:Sm x) (w:World) {z:Nat} (h:GsAt w z (.slice ac gs.length cc) gs) :
  Calls Try.prog 27 #[.slice ac gs.length cc,.agg #[.int .i64 x.row,.int .i64 x.col,.int .i64 x.rows,.int .i64 x.cols,.int .i64 x.ins]] w fun e w'=>e=.returned (.bool (freeG gs x))∧Below w.heap.size w w':=by
 obtain ⟨_,_,_,hlen⟩:=At.form h
 unfold maxLen at hlen
 have K0:=Hid.intro (k_alloc (Below.refl w.heap.size w) (.cells #[.int .i64 x.row,.int .i64 x.col,.int .i64 x.rows,.int .i64 x.cols,.int .i64 x.ins] 33))
 have H:=Hid.intro h
 have HG:=Hid.intro hgs
 have HXS:=Hid.intro hxs
 have hmx:Try.prog.follows .mixedOrders=true:=by kernel_rfl
 clear h hgs hxs
 go_enter Try.func27,Try.ntmps27
 go_wp2_with fail
 go_loopw [5] (fun i W=>∃ k:Nat,k≤gs.length∧i=.int .i64 k∧Hid (∀ j,j < k→meetsB (gs.getD j dG) x=false)∧Hid (Below w.heap.size w W)∧Hid (W.heap[w.heap.size]?=some (.cells #[.int .i64 x.row,.int .i64 x.col,.int .i64 x.rows,.int .i64 x.cols,.int .i64 x.ins] 33))) (fun i _=>gs.length - (intOf i).toNat)
 case atStart=>exact ⟨0,Nat.zero_le _,rfl,fun j hj=>absurd hj (Nat.not_lt_zero _),K0.out,newestB _ _⟩
 case round =>
  obtain ⟨k,hk,rfl,HA,HB,HX⟩:=hrel
  have hz:w.heap.size < wr.heap.size:=(Array.getElem?_eq_some_iff.1 HX.out).1
  by_cases hlt:k < gs.length
  ·have hlt':(k:Int) < (gs.length:Int):=by omega
   have h0':(0:Int)≤(k:Int):=by omega
   obtain ⟨q,off,cap',e',hc1,hc2,hbl,hx,hs⟩:=At.get (H.out.kept HB.out) hlt
   simp only [Value.slice.injEq,true_and] at e'
   obtain ⟨rfl,rfl⟩:=e'
   have HH:Hid (meetsB (gs.getD k dG) x=true→freeG gs x=false):=fun hp=>freeG_hit hlt hp
   have HN:Hid (meetsB (gs.getD k dG) x=false→∀ j,j < k+1→meetsB (gs.getD j dG) x=false):=fun hp j hj=>by
    rcases Nat.lt_or_eq_of_le (Nat.lt_succ_iff.1 hj) with h1 | rfl
    ·exact HA.out j h1
    ·exact hp
   have HS:Sm (gs.getD k dG):=by
    have e:gs.getD k dG=gs[k]:=by simp [List.getD,hlt]
    rw [e]
    exact HG.out _ (List.getElem_mem hlt)
   have HL:=Hid.intro (l3Meets_any (gs.getD k dG) x HS HXS.out)
   clear HS hs
   generalize gs.getD k dG=y at hx HH HN HL
   obtain ⟨x0,x1,x2,x3,x4⟩:=hx
   have y0:=bw_cell (a:=⟨q,off+k * 5,none⟩) hbl x0
   have y1:=bw_cell (a:=⟨q,off+k * 5+1,none⟩) hbl x1
   have y2:=bw_cell (a:=⟨q,off+k * 5+2,none⟩) hbl x2
   have y3:=bw_cell (a:=⟨q,off+k * 5+3,none⟩) hbl x3
   have y4:=bw_cell (a:=⟨q,off+k * 5+4,none⟩) hbl x4
   have b0:=bw_cell (a:=⟨w.heap.size,0,none⟩) (v:=.int .i64 x.row) hz (cellB HX.out)
   have b1:=bw_cell (a:=⟨w.heap.size,1,none⟩) (v:=.int .i64 x.col) hz (cellB HX.out)
   have b2:=bw_cell (a:=⟨w.heap.size,2,none⟩) (v:=.int .i64 x.rows) hz (cellB HX.out)
   have b3:=bw_cell (a:=⟨w.heap.size,3,none⟩) (v:=.int .i64 x.cols) hz (cellB HX.out)
   have b4:=bw_cell (a:=⟨w.heap.size,4,none⟩) (v:=.int .i64 x.ins) hz (cellB HX.out)
   unfold maxLen at hc2
   clear x0 x1 x2 x3 x4
   go_wp2_with fail
   have hne:=bw_some wr
   refine wp_region_quiet_below hmx (by kernel_rfl) ?_
   repeat (go_big_quiet_step (refine bw_of (HL.out _)))
   refine wpQuiet_nil ?_
   intro _ hw'
   obtain ⟨⟨W7,hW7⟩,hw''⟩:=hw'
   subst hw''
   have HB7:=Hid.intro (k_trans HB.out hW7)
   have HX7:=Hid.intro ((hW7.block w.heap.size hz).trans HX.out)
   clear y0 y1 y2 y3 y4 b0 b1 b2 b3 b4 hW7
   cases h1:meetsB y x with
   | false =>
    have HF:=Hid.intro (HN.out h1)
    clear HH HN HA h1
    go_wp2
    go_roundw
    case rel=>exact ⟨k+1,by omega,by go_num,HF,HB7,HX7⟩
    case measure=>simp [intOf];omega
   | true =>
    have HF:=Hid.intro (HH.out h1)
    clear HH HN HA h1
    go_wp2
    go_ret
    exact ⟨retB HF.out.symm,HB7.out⟩
  ·obtain rfl:k=gs.length:=by omega
   have HF:=Hid.intro (freeG_all HA.out)
   clear HA
   go_wp2
   go_ret
   exact ⟨retB HF.out.symm,HB.out⟩
end Go.Proofs.Ytggmjiddadjilan
namespace Go.Proofs.Ytggmjiddadjilan
open Go.RowKit Go.BigFrame

set_option maxRecDepth 100000 in
set_option maxHeartbeats 20000000 in
theorem specGrdOk (R C:Int) (ac:Option Addr) (cc:Nat) (gs:List GC) (w:World) {z:Nat} (h:GsAt w z (.slice ac gs.length cc) gs) :
  Calls Try.prog 17 #[.agg #[.int .i64 R,.int .i64 C,.slice ac gs.length cc]] w fun e w'=>e=.returned (.bool (okB ⟨R,C,gs⟩))∧Below w.heap.size w w':=by
 obtain ⟨_,_,_,hlen⟩:=At.form h
 unfold maxLen at hlen
 have K0:=Hid.intro (k_alloc (Below.refl w.heap.size w) (.cells #[.int .i64 R,.int .i64 C,.slice ac gs.length cc] 37))
 have X0:=Hid.intro (newestB w (.cells #[.int .i64 R,.int .i64 C,.slice ac gs.length cc] 37))
 have H:=Hid.intro h
 have hmx:Try.prog.follows .mixedOrders=true:=by kernel_rfl
 have Q1:=Hid.intro (l1In_any R 1 8)
 have Q2:=Hid.intro (l1In_any C 1 94)
 clear h
 cases p1:inB R 1 8 with
 | false =>
  have HF:Hid (okB ⟨R,C,gs⟩=false):=okB_false1 (by simp only [boundsB,p1,Bool.false_and])
  rw [p1] at Q1
  go_enter Try.func17,Try.ntmps17
  go_wp2_with fail
  refine (Q1.out _).mono ?_
  rintro e w1 ⟨rfl,rfl⟩
  go_wp2
  go_ret
  exact ⟨retB HF.out.symm,K0.out⟩
 | true =>
  rw [p1] at Q1
  cases p2:inB C 1 94 with
  | false =>
   have HF:Hid (okB ⟨R,C,gs⟩=false):=okB_false1 (by simp only [boundsB,p2,Bool.false_and,Bool.and_false])
   rw [p2] at Q2
   go_enter Try.func17,Try.ntmps17
   go_wp2_with fail
   refine (Q1.out _).mono ?_
   rintro e w1 ⟨rfl,rfl⟩
   go_wp2_with fail
   refine (Q2.out _).mono ?_
   rintro e w1 ⟨rfl,rfl⟩
   go_wp2
   go_ret
   exact ⟨retB HF.out.symm,K0.out⟩
  | true =>
   rw [p2] at Q2
   by_cases p3:gs.length≤40
   ·have HBB:=Hid.intro (bounds_intro p1 p2 p3)
    obtain ⟨hR1,hR2,hC1,hC2,hn⟩:=bounds_of HBB.out
    have p3':¬ (40:Int) < (gs.length:Int):=by omega
    clear p1 p2
    go_enter Try.func17,Try.ntmps17
    go_wp2_with fail
    refine (Q1.out _).mono ?_
    rintro e w1 ⟨rfl,rfl⟩
    go_wp2_with fail
    refine (Q2.out _).mono ?_
    rintro e w1 ⟨rfl,rfl⟩
    go_wp2_with fail
    go_loopw [3] (fun i W=>∃ k:Nat,k≤gs.length∧i=.int .i64 k∧Hid (okTo R C gs k=true)∧Hid (Below w.heap.size w W)∧Hid (W.heap[w.heap.size]?=some (.cells #[.int .i64 R,.int .i64 C,.slice ac gs.length cc] 37))) (fun i _=>gs.length - (intOf i).toNat)
    case atStart=>exact ⟨0,Nat.zero_le _,rfl,okTo_zero _ _ _,K0.out,X0.out⟩
    case round =>
     obtain ⟨k,hk,rfl,HO,HB,HX⟩:=hrel
     have g2':wr.cell? ⟨w.heap.size,2,none⟩=some (.slice ac gs.length cc):=cellB HX.out
     have hz:w.heap.size < wr.heap.size:=(Array.getElem?_eq_some_iff.1 HX.out).1
     by_cases hlt:k < gs.length
     ·have hlt':(k:Int) < (gs.length:Int):=by omega
      have h0':(0:Int)≤(k:Int):=by omega
      obtain ⟨q,off,cap',e',hc1,hc2,hbl,hx,hs⟩:=At.get (H.out.kept HB.out) hlt
      simp only [Value.slice.injEq,true_and] at e'
      obtain ⟨rfl,rfl⟩:=e'
      have HN:Hid (fitsB R C (gs.getD k dG)=true→freeG (gs.take k) (gs.getD k dG)=true→okTo R C gs (k+1)=true):=fun h1 h2=>okTo_succ HO.out h1 h2
      have HF:Hid ((fitsB R C (gs.getD k dG) && freeG (gs.take k) (gs.getD k dG))=false→okB ⟨R,C,gs⟩=false):=fun h1=>okB_false2 (okTo_false hlt h1)
      have HFit:=Hid.intro (okTo_fits (Nat.le_of_lt hlt) HO.out)
      generalize gs.getD k dG=x at hx hs HN HF
      obtain ⟨x0,x1,x2,x3,x4⟩:=hx
      obtain ⟨b0,b1,b2,b3,b4⟩:=hs
      unfold I64 at b0 b1 b2 b3 b4
      unfold maxLen at hc2
      go_wp2_with fail
      obtain ⟨W1,hW1⟩:∃ W1,wr.alloc (.cells #[.int .i64 x.row,.int .i64 x.col,.int .i64 x.rows,.int .i64 x.cols,.int .i64 x.ins] 33)=W1:=⟨_,rfl⟩
      rw [hW1]
      have hs1:W1.heap.size=wr.heap.size+1:=by rw [← hW1];simp
      have HB1:Hid (Below w.heap.size w W1):=by rw [← hW1];exact k_alloc HB.out _
      have HX1:Hid (W1.heap[w.heap.size]?=some (.cells #[.int .i64 R,.int .i64 C,.slice (some ⟨q,off,none⟩) gs.length cc] 37)):=by rw [← hW1];exact (Below.heap_alloc _ _ _ hz).trans HX.out
      have HY1:Hid (W1.heap[wr.heap.size]?=some (.cells #[.int .i64 x.row,.int .i64 x.col,.int .i64 x.rows,.int .i64 x.cols,.int .i64 x.ins] 33)):=by rw [← hW1];exact newestB _ _
      have zw:w.heap.size < W1.heap.size:=by omega
      have zr:wr.heap.size < W1.heap.size:=by omega
      clear hW1 HB HX
      have g0:=bw_cell (a:=⟨w.heap.size,0,none⟩) (v:=.int .i64 R) zw (cellB HX1.out)
      have g1:=bw_cell (a:=⟨w.heap.size,1,none⟩) (v:=.int .i64 C) zw (cellB HX1.out)
      have g2:=bw_cell (a:=⟨w.heap.size,2,none⟩) (v:=.slice (some ⟨q,off,none⟩) gs.length cc) zw (cellB HX1.out)
      have y0:=bw_cell (a:=⟨wr.heap.size,0,none⟩) (v:=.int .i64 x.row) zr (cellB HY1.out)
      have y1:=bw_cell (a:=⟨wr.heap.size,1,none⟩) (v:=.int .i64 x.col) zr (cellB HY1.out)
      have y2:=bw_cell (a:=⟨wr.heap.size,2,none⟩) (v:=.int .i64 x.rows) zr (cellB HY1.out)
      have y3:=bw_cell (a:=⟨wr.heap.size,3,none⟩) (v:=.int .i64 x.cols) zr (cellB HY1.out)
      have y4:=bw_cell (a:=⟨wr.heap.size,4,none⟩) (v:=.int .i64 x.ins) zr (cellB HY1.out)
      have hne:=bw_some W1
      have r1:IntKind.i64.wrap (R - 1)=R - 1:=by rw [IntKind.wrap_i64];omega
      have r2:IntKind.i64.wrap (C - 1)=C - 1:=by rw [IntKind.wrap_i64];omega
      cases h1:inB x.row 0 (R - 1) with
      | false =>
       have HF':=Hid.intro (HF.out (by simp only [fitsB,h1,Bool.false_and]))
       clear HN HF HO HFit
       refine wp_region_quiet_below hmx (by kernel_rfl) ?_
       repeat (go_big_quiet_step (first | (go_at_call 18;refine bw_same (l1In_any _ _ _ _))))
       refine wpQuiet_nil ?_
       intro _ hw'
       obtain ⟨⟨W7,hW7⟩,hw''⟩:=hw'
       subst hw''
       have HB7:=Hid.intro (k_trans HB1.out hW7)
       clear hW7
       go_wp2
       go_ret
       exact ⟨retB HF'.out.symm,HB7.out⟩
      | true =>
       have r3:IntKind.i64.wrap (R - x.row)=R - x.row:=by
        have:=of_decide_eq_true h1
        rw [IntKind.wrap_i64];omega
       cases h2:inB x.col 0 (C - 1) with
       | false =>
        have HF':=Hid.intro (HF.out (by simp only [fitsB,h2,Bool.false_and,Bool.and_false]))
        clear HN HF HO HFit
        refine wp_region_quiet_below hmx (by kernel_rfl) ?_
        repeat (go_big_quiet_step (first | (go_at_call 18;refine bw_same (l1In_any _ _ _ _))))
        refine wpQuiet_nil ?_
        intro _ hw'
        obtain ⟨⟨W7,hW7⟩,hw''⟩:=hw'
        subst hw''
        have HB7:=Hid.intro (k_trans HB1.out hW7)
        clear hW7
        go_wp2
        go_ret
        exact ⟨retB HF'.out.symm,HB7.out⟩
       | true =>
        have r4:IntKind.i64.wrap (C - x.col)=C - x.col:=by
         have:=of_decide_eq_true h2
         rw [IntKind.wrap_i64];omega
        cases h3:inB x.rows 1 (R - x.row) with
        | false =>
         have HF':=Hid.intro (HF.out (by simp only [fitsB,h3,Bool.false_and,Bool.and_false]))
         clear HN HF HO HFit
         refine wp_region_quiet_below hmx (by kernel_rfl) ?_
         repeat (go_big_quiet_step (first | (go_at_call 18;refine bw_same (l1In_any _ _ _ _))))
         refine wpQuiet_nil ?_
         intro _ hw'
         obtain ⟨⟨W7,hW7⟩,hw''⟩:=hw'
         subst hw''
         have HB7:=Hid.intro (k_trans HB1.out hW7)
         clear hW7
         go_wp2
         go_ret
         exact ⟨retB HF'.out.symm,HB7.out⟩
        | true =>
         cases h4:inB x.cols 1 (C - x.col) with
         | false =>
          have HF':=Hid.intro (HF.out (by simp only [fitsB,h4,Bool.false_and,Bool.and_false]))
          clear HN HF HO HFit
          refine wp_region_quiet_below hmx (by kernel_rfl) ?_
          repeat (go_big_quiet_step (first | (go_at_call 18;refine bw_same (l1In_any _ _ _ _))))
          refine wpQuiet_nil ?_
          intro _ hw'
          obtain ⟨⟨W7,hW7⟩,hw''⟩:=hw'
          subst hw''
          have HB7:=Hid.intro (k_trans HB1.out hW7)
          clear hW7
          go_wp2
          go_ret
          exact ⟨retB HF'.out.symm,HB7.out⟩
         | true =>
          cases h5:inB x.ins 0 4 with
          | false =>
           have HF':=Hid.intro (HF.out (by simp only [fitsB,h5,Bool.and_false,Bool.false_and]))
           clear HN HF HO HFit
           refine wp_region_quiet_below hmx (by kernel_rfl) ?_
           repeat (go_big_quiet_step (first | (go_at_call 18;refine bw_same (l1In_any _ _ _ _))))
           refine wpQuiet_nil ?_
           intro _ hw'
           obtain ⟨⟨W7,hW7⟩,hw''⟩:=hw'
           subst hw''
           have HB7:=Hid.intro (k_trans HB1.out hW7)
           clear hW7
           go_wp2
           go_ret
           exact ⟨retB HF'.out.symm,HB7.out⟩
          | true =>
           have hfit:fitsB R C x=true:=by simp only [fitsB,h1,h2,h3,h4,h5,Bool.and_self]
           have hl:(gs.take k).length=k:=by rw [List.length_take];omega
           have KL:=Hid.intro (fun (p:BW W1)=>l3Free_any (some ⟨q,off,none⟩) cc (gs.take k) (fun a ha=>fits_sm (HFit.out a ha) hR2 hC2) x (fits_sm hfit hR2 hC2) p.u (((H.out.kept HB1.out).kept p.h).take hk))
           rw [hl] at KL
           cases hfr:freeG (gs.take k) x with
           | false =>
            rw [hfr] at KL
            have HF':=Hid.intro (HF.out (by simp only [hfr,Bool.and_false]))
            clear HN HF HO HFit hfit hfr hl
            refine wp_region_quiet_below hmx (by kernel_rfl) ?_
            repeat (go_big_quiet_step (first | (go_at_call 18;refine bw_same (l1In_any _ _ _ _)) | (go_at_call 27;refine bw_of (KL.out _))))
            refine wpQuiet_nil ?_
            intro _ hw'
            obtain ⟨⟨W7,hW7⟩,hw''⟩:=hw'
            subst hw''
            have HB7:=Hid.intro (k_trans HB1.out hW7)
            clear hW7
            go_wp2
            go_ret
            exact ⟨retB HF'.out.symm,HB7.out⟩
           | true =>
            rw [hfr] at KL
            have HN':=Hid.intro (HN.out hfit hfr)
            clear HN HF HO HFit hfit hfr hl
            refine wp_region_quiet_below hmx (by kernel_rfl) ?_
            repeat (go_big_quiet_step (first | (go_at_call 18;refine bw_same (l1In_any _ _ _ _)) | (go_at_call 27;refine bw_of (KL.out _))))
            refine wpQuiet_nil ?_
            intro _ hw'
            obtain ⟨⟨W7,hW7⟩,hw''⟩:=hw'
            subst hw''
            have HB7:=Hid.intro (k_trans HB1.out hW7)
            have HX7:=Hid.intro ((hW7.block w.heap.size zw).trans HX1.out)
            clear hW7
            go_wp2
            go_roundw
            case rel=>exact ⟨k+1,by omega,by go_num,HN',HB7,HX7⟩
            case measure=>simp [intOf];omega
     ·obtain rfl:k=gs.length:=by omega
      have HF:Hid (okB ⟨R,C,gs⟩=true):=by
       show okB _=true
       simp only [okB,HBB.out,HO.out,Bool.and_self]
      clear HO
      go_wp2
      go_ret
      exact ⟨retB HF.out.symm,HB.out⟩
   ·have p3':(40:Int) < (gs.length:Int):=by omega
    have HF:Hid (okB ⟨R,C,gs⟩=false):=okB_false1 (by simp only [boundsB,p3,decide_false,Bool.and_false])
    go_enter Try.func17,Try.ntmps17
    go_wp2_with fail
    refine (Q1.out _).mono ?_
    rintro e w1 ⟨rfl,rfl⟩
    go_wp2_with fail
    refine (Q2.out _).mono ?_
    rintro e w1 ⟨rfl,rfl⟩
    go_wp2
    go_ret
    exact ⟨retB HF.out.symm,K0.out⟩
end Go.Proofs.Ytggmjiddadjilan
namespace Go.Proofs.Ytggmjiddadjilan
open Go.RowKit

theorem l1Max_q (a b:Int) (w:World):Calls Try.prog 28 #[.int .i64 a,.int .i64 b] w fun e w'=>e=.returned (.int .i64 (max a b))∧w'=w:=by
 by_cases h:b < a
 ·have HF:Hid (max a b=a):=Hid.intro (by omega)
  go_enter Try.func28,Try.ntmps28
  go_wp2
  go_ret
  exact ⟨by rw [HF.out];rfl,rfl⟩
 ·have HF:Hid (max a b=b):=Hid.intro (by omega)
  go_enter Try.func28,Try.ntmps28
  go_wp2
  go_ret
  exact ⟨by rw [HF.out];rfl,rfl⟩
/-- the least part that has two, with the number of the first one -/
def spanI (a b:GC):GC:=⟨min a.row b.row,min a.col b.col,max (a.row+a.rows) (b.row+b.rows) - min a.row b.row,max (a.col+a.cols) (b.col+b.cols) - min a.col b.col,a.ins⟩
theorem spanI_zero {a b:GC} (h:a.ins=0):spanI a b=spanG a b:=by unfold spanI spanG;rw [h]
theorem spanI_set (a b:GC):({ spanI a b with ins:=0 }:GC)=spanG a b:=rfl

set_option maxRecDepth 100000 in
set_option maxHeartbeats 1000000 in
theorem l10Span_any (a b:GC) (ha:Sm4 a) (hb:Sm4 b) (w:World) :
  Calls Try.prog 19 #[gV a,gV b] w fun e w'=>e=.returned (gV (spanI a b))∧Below w.heap.size w w':=by
 obtain ⟨a0,a1,a2,a3,a4⟩:=a
 obtain ⟨b0,b1,b2,b3,b4⟩:=b
 unfold Sm4 at ha hb
 simp only at ha hb
 obtain ⟨ha0,ha1,ha2,ha3⟩:=ha
 obtain ⟨hb0,hb1,hb2,hb3⟩:=hb
 unfold gV spanI
 simp only
 have hM0:0≤max (a0+a2) (b0+b2)∧max (a0+a2) (b0+b2)≤200000:=by omega
 have hM1:0≤max (a1+a3) (b1+b3)∧max (a1+a3) (b1+b3)≤200000:=by omega
 have KM:=Hid.intro (l1Max_q (a0+a2) (b0+b2))
 have KN:=Hid.intro (l1Max_q (a1+a3) (b1+b3))
 generalize max (a0+a2) (b0+b2)=M0 at KM hM0 ⊢
 generalize max (a1+a3) (b1+b3)=M1 at KN hM1 ⊢
 by_cases h0:b0 < a0
 ·have HR:Hid (min a0 b0=b0):=Hid.intro (by omega)
  by_cases h1:b1 < a1
  ·have HS:Hid (min a1 b1=b1):=Hid.intro (by omega)
   go_enter Try.func19,Try.ntmps19
   go_wp2_with fail
   refine (KM.out _).mono ?_
   rintro e w1 ⟨rfl,rfl⟩
   go_wp2_with fail
   refine (KN.out _).mono ?_
   rintro e w1 ⟨rfl,rfl⟩
   go_wp2
   exact bodyPost_ret (v:=.agg #[.int .i64 b0,.int .i64 b1,.int .i64 (M0 - b0),.int .i64 (M1 - b1),.int .i64 a4]) (by simp [results,Try.results19,go_sem]) rfl ⟨by rw [HR.out,HS.out],k_alloc (k_alloc (k_alloc (k_alloc (Below.refl _ _) _) _) _) _⟩
  ·have HS:Hid (min a1 b1=a1):=Hid.intro (by omega)
   go_enter Try.func19,Try.ntmps19
   go_wp2_with fail
   refine (KM.out _).mono ?_
   rintro e w1 ⟨rfl,rfl⟩
   go_wp2_with fail
   refine (KN.out _).mono ?_
   rintro e w1 ⟨rfl,rfl⟩
   go_wp2
   exact bodyPost_ret (v:=.agg #[.int .i64 b0,.int .i64 a1,.int .i64 (M0 - b0),.int .i64 (M1 - a1),.int .i64 a4]) (by simp [results,Try.results19,go_sem]) rfl ⟨by rw [HR.out,HS.out],k_alloc (k_alloc (k_alloc (k_alloc (Below.refl _ _) _) _) _) _⟩
 ·have HR:Hid (min a0 b0=a0):=Hid.intro (by omega)
  by_cases h1:b1 < a1
  ·have HS:Hid (min a1 b1=b1):=Hid.intro (by omega)
   go_enter Try.func19,Try.ntmps19
   go_wp2_with fail
   refine (KM.out _).mono ?_
   rintro e w1 ⟨rfl,rfl⟩
   go_wp2_with fail
   refine (KN.out _).mono ?_
   rintro e w1 ⟨rfl,rfl⟩
   go_wp2
   exact bodyPost_ret (v:=.agg #[.int .i64 a0,.int .i64 b1,.int .i64 (M0 - a0),.int .i64 (M1 - b1),.int .i64 a4]) (by simp [results,Try.results19,go_sem]) rfl ⟨by rw [HR.out,HS.out],k_alloc (k_alloc (k_alloc (k_alloc (Below.refl _ _) _) _) _) _⟩
  ·have HS:Hid (min a1 b1=a1):=Hid.intro (by omega)
   go_enter Try.func19,Try.ntmps19
   go_wp2_with fail
   refine (KM.out _).mono ?_
   rintro e w1 ⟨rfl,rfl⟩
   go_wp2_with fail
   refine (KN.out _).mono ?_
   rintro e w1 ⟨rfl,rfl⟩
   go_wp2
   exact bodyPost_ret (v:=.agg #[.int .i64 a0,.int .i64 a1,.int .i64 (M0 - a0),.int .i64 (M1 - a1),.int .i64 a4]) (by simp [results,Try.results19,go_sem]) rfl ⟨by rw [HR.out,HS.out],k_alloc (k_alloc (k_alloc (k_alloc (Below.refl _ _) _) _) _) _⟩
end Go.Proofs.Ytggmjiddadjilan
