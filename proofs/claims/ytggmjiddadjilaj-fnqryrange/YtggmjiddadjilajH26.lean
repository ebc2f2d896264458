/-
  PROVED HERE: what the model's QryRange answers: the least part of a grid that has two cells, and of each cell all or nothing; nothing that was in memory is turned.
-/
import Derived.Test.YtggmjiddadjilajH24
import Derived.Test.YtggmjiddadjilajH25
namespace Go.Proofs.Ytggmjiddadjilaj
open Go.RowKit

theorem sm4 {x:GC} (h:Sm4 x):Sm x:=h
theorem ins_raw {w:World} {g:Nat} {y:GC} (h:w.heap[g]?=some (gO y)):(w.setCell ⟨g,4,none⟩ (.int .i64 0)).heap[g]?=some (gO { y with ins:=0 }):=by
 rw [setB h _]
 simp
theorem RQ.set4 {w W:World} {R C:Int} {ac:Option Addr} {n cc:Nat} (h:RQ w R C ac n cc W) {xb:Nat} (hx:w.heap.size+1 < xb):RQ w R C ac n cc (W.setCell ⟨xb,4,none⟩ (.int .i64 0)) :=
 ⟨k_set h.below (p:=⟨xb,4,none⟩) (by show _≤xb;omega) _,(Below.heap_setCell _ _ _ _ (by show _ ≠ xb;omega)).trans h.b0,(Below.heap_setCell _ _ _ _ (by show _ ≠ xb;omega)).trans h.b1⟩
structure QgN (nb qi offi i j len cc:Nat) (ci cj s:GC) (W3:World) (L:Nat→Bool) (W:World) (v7 v32 v33 v34 v35 v36 v37 v38 v39 v40 v41 v42:Value):Prop where
 f0:L 0=true→v32=.pointer (some ⟨nb,2,none⟩)
 f1:L 1=true→v33=.slice (some ⟨qi,offi,none⟩) len cc
 f2:L 2=true→v34=.int .i64 i
 f3:L 3=true→v35=.pointer (some ⟨qi,offi+i * 5,none⟩)
 f4:L 4=true→v36=.agg #[.int .i64 ci.row,.int .i64 ci.col,.int .i64 ci.rows,.int .i64 ci.cols,.int .i64 ci.ins]
 f5:L 5=true→v37=.pointer (some ⟨nb,2,none⟩)
 f6:L 6=true→v38=.slice (some ⟨qi,offi,none⟩) len cc
 f7:L 7=true→v39=.int .i64 j
 f8:L 8=true→v40=.pointer (some ⟨qi,offi+j * 5,none⟩)
 f9:L 9=true→v41=.agg #[.int .i64 cj.row,.int .i64 cj.col,.int .i64 cj.rows,.int .i64 cj.cols,.int .i64 cj.ins]
 f10:L 10=true→v42=.agg #[.int .i64 s.row,.int .i64 s.col,.int .i64 s.rows,.int .i64 s.cols,.int .i64 s.ins]
 f11:L 11=true→L 12=false→∃ b,v7=.pointer (some ⟨b,0,none⟩)∧W3.heap.size≤b∧W.heap[b]?=some (gO dG)
 f12:L 12=true→∃ b,v7=.pointer (some ⟨b,0,none⟩)∧W3.heap.size≤b∧W.heap[b]?=some (gO s)
 b:L 12=false→Below W3.heap.size W3 W
 bb:Below W3.heap.size W3 W
set_option maxRecDepth 100000 in
set_option maxHeartbeats 2000000 in
theorem specQryRange (R C:Int) (ac:Option Addr) (cc:Nat) (gs:List GC) (a b:Int) (w:World) {z:Nat} (h:GsAt w z (.slice ac gs.length cc) gs) :
  Calls Try.prog 10 #[.agg #[.int .i64 R,.int .i64 C,.slice ac gs.length cc],.int .i64 a,.int .i64 b] w fun e w'=>e=.returned (gV (rngF ⟨R,C,gs⟩ a b))∧Below w.heap.size w w':=by
 have H:=Hid.intro h
 obtain ⟨_,_,_,hlen⟩:=At.form h
 unfold maxLen at hlen
 clear h
 have Q0:=Hid.intro (RQ.new w R C ac gs.length cc)
 have KO:=Hid.intro (specGrdOk R C ac cc gs _ (H.out.kept Q0.out.below))
 have KA:=Hid.intro (l1In_any a 0 ((gs.length:Int) - 1))
 have KB:=Hid.intro (l1In_any b 0 ((gs.length:Int) - 1))
 cases hok:okB ⟨R,C,gs⟩ with
 | false =>
  have HF:=Hid.intro (rngF_no1 (a:=a) (b:=b) hok)
  rw [hok] at KO
  clear hok
  go_enter Try.func10,Try.ntmps10
  go_wp2_with fail
  refine KO.out.mono ?_
  rintro e w1 ⟨rfl,hb1⟩
  have Q1:=Hid.intro (Q0.out.kept hb1)
  obtain ⟨q0,q1,q2⟩:=Q1.out.cells
  clear hb1 KO Q0
  obtain ⟨⟨c0,c1,c2,c3,c4⟩,f0,f1,f2,f3,f4⟩:=fiveQ Q1.out.b1
  obtain ⟨⟨p0,p1,p2,p3,p4⟩,_⟩:=fiveQ (pg5_block Q1.out.b1 dG)
  have K:=Hid.intro (pg5_below Q1.out.below (g:=w.heap.size+1) (by omega) dG)
  simp only [pg5,dG] at p0 p1 p2 p3 p4 K
  clear Q1
  go_wp2
  exact bodyPost_ret (v:=gV dG) (by simp [results,Try.results10,go_sem,p0,p1,p2,p3,p4,dG]) rfl ⟨by rw [HF.out],K.out⟩
 | true =>
  rw [hok] at KO
  cases hA:inB a 0 ((gs.length:Int) - 1) with
  | false =>
   have HF:=Hid.intro (rngF_no2 (g:=⟨R,C,gs⟩) (a:=a) (b:=b) hA)
   rw [hA] at KA
   clear hok hA
   go_enter Try.func10,Try.ntmps10
   go_wp2_with fail
   refine KO.out.mono ?_
   rintro e w1 ⟨rfl,hb1⟩
   have Q1:=Hid.intro (Q0.out.kept hb1)
   obtain ⟨q0,q1,q2⟩:=Q1.out.cells
   clear hb1 KO Q0
   go_wp2_with fail
   refine (KA.out _).mono ?_
   rintro e w1 ⟨rfl,rfl⟩
   obtain ⟨⟨c0,c1,c2,c3,c4⟩,f0,f1,f2,f3,f4⟩:=fiveQ Q1.out.b1
   obtain ⟨⟨p0,p1,p2,p3,p4⟩,_⟩:=fiveQ (pg5_block Q1.out.b1 dG)
   have K:=Hid.intro (pg5_below Q1.out.below (g:=w.heap.size+1) (by omega) dG)
   simp only [pg5,dG] at p0 p1 p2 p3 p4 K
   clear Q1
   go_wp2
   exact bodyPost_ret (v:=gV dG) (by simp [results,Try.results10,go_sem,p0,p1,p2,p3,p4,dG]) rfl ⟨by rw [HF.out],K.out⟩
  | true =>
   rw [hA] at KA
   cases hB:inB b 0 ((gs.length:Int) - 1) with
   | false =>
    have HF:=Hid.intro (rngF_no3 (g:=⟨R,C,gs⟩) (a:=a) (b:=b) hB)
    rw [hB] at KB
    clear hok hA hB
    go_enter Try.func10,Try.ntmps10
    go_wp2_with fail
    refine KO.out.mono ?_
    rintro e w1 ⟨rfl,hb1⟩
    have Q1:=Hid.intro (Q0.out.kept hb1)
    obtain ⟨q0,q1,q2⟩:=Q1.out.cells
    clear hb1 KO Q0
    go_wp2_with fail
    refine (KA.out _).mono ?_
    rintro e w1 ⟨rfl,rfl⟩
    go_wp2_with fail
    refine (KB.out _).mono ?_
    rintro e w1 ⟨rfl,rfl⟩
    obtain ⟨⟨c0,c1,c2,c3,c4⟩,f0,f1,f2,f3,f4⟩:=fiveQ Q1.out.b1
    obtain ⟨⟨p0,p1,p2,p3,p4⟩,_⟩:=fiveQ (pg5_block Q1.out.b1 dG)
    have K:=Hid.intro (pg5_below Q1.out.below (g:=w.heap.size+1) (by omega) dG)
    simp only [pg5,dG] at p0 p1 p2 p3 p4 K
    clear Q1
    go_wp2
    exact bodyPost_ret (v:=gV dG) (by simp [results,Try.results10,go_sem,p0,p1,p2,p3,p4,dG]) rfl ⟨by rw [HF.out],K.out⟩
   | true =>
    rw [hB] at KB
    have hF:=rngF_ok (g:=⟨R,C,gs⟩) hok hA hB
    have hfit:=ok_fit hok
    obtain ⟨hR,hC,hn⟩:=ok_len hok
    simp only at hF hfit hR hC hn
    obtain ⟨i,rfl⟩:∃ i:Nat,a=i:=⟨a.toNat,by simp [inB] at hA;omega⟩
    obtain ⟨j,rfl⟩:∃ j:Nat,b=j:=⟨b.toNat,by simp [inB] at hB;omega⟩
    have hi:i < gs.length:=by simp [inB] at hA;omega
    have hj:j < gs.length:=by simp [inB] at hB;omega
    rw [Int.toNat_natCast,Int.toNat_natCast] at hF
    have HF:=Hid.intro hF
    have hfi:=hfit _ (mem_getD hi)
    have hfj:=hfit _ (mem_getD hj)
    have hfs:=span_fit hfi hfj
    have KL:=Hid.intro (l10Span_any _ _ (fitP_sm hfi hR hC) (fitP_sm hfj hR hC))
    clear hok hA hB hF
    go_enter Try.func10,Try.ntmps10
    go_wp2_with fail
    refine KO.out.mono ?_
    rintro e w1 ⟨rfl,hb1⟩
    have Q1:=Hid.intro (Q0.out.kept hb1)
    obtain ⟨q0,q1,q2⟩:=Q1.out.cells
    clear hb1 KO Q0
    go_wp2_with fail
    refine (KA.out _).mono ?_
    rintro e w1 ⟨rfl,rfl⟩
    go_wp2_with fail
    refine (KB.out _).mono ?_
    rintro e w1 ⟨rfl,rfl⟩
    obtain ⟨qi,offi,capi,ei,hi1,hi2,hbi,hxi,_⟩:=At.get (H.out.kept Q1.out.below) hi
    simp only [Value.slice.injEq,true_and] at ei
    obtain ⟨rfl,rfl⟩:=ei
    obtain ⟨qj,offj,capj,ej,hj1,hj2,hbj,hxj,_⟩:=At.get (H.out.kept Q1.out.below) hj
    simp only [Value.slice.injEq,Option.some.injEq,Addr.mk.injEq,and_true,true_and] at ej
    obtain ⟨⟨rfl,rfl⟩,rfl⟩:=ej
    unfold maxLen at hi2
    clear hi1 hj1 hj2
    generalize gs.getD i dG=ci at hxi hfi KL HF hfs
    generalize gs.getD j dG=cj at hxj hfj KL HF hfs
    obtain ⟨x0,x1,x2,x3,x4⟩:=hxi
    obtain ⟨y0,y1,y2,y3,y4⟩:=hxj
    go_upto_region 3 with fail
    have hmx:Try.prog.follows .mixedOrders=true:=by kernel_rfl
    have HI:Hid (_∧_∧_∧_∧_):=Hid.intro ⟨x0,x1,x2,x3,x4⟩
    have HJ:Hid (_∧_∧_∧_∧_):=Hid.intro ⟨y0,y1,y2,y3,y4⟩
    have HQ2:=Hid.intro q2
    have hlt1:=Q1.out.lt
    have hln:w.heap.size < w1.heap.size:=by omega
    have hlq:qi < w1.heap.size:=hbi
    have HSp:Hid (({ spanI ci cj with ins:=0 }:GC)=spanG ci cj):=Hid.intro (spanI_set ci cj)
    have HI0:Hid ((spanG ci cj).ins=0):=Hid.intro rfl
    generalize spanI ci cj=s at KL HSp
    generalize spanG ci cj=s0 at HSp HF hfs HI0
    clear x0 x1 x2 x3 x4 y0 y1 y2 y3 y4 q0 q1 q2 hbi hbj
    refine wp_region_inv2 (fun L act W=>∃ v7 v32 v33 v34 v35 v36 v37 v38 v39 v40 v41 v42:Value,act=⟨#[.agg #[.int .i64 R,.int .i64 C,.slice (some ⟨qi,offi,none⟩) gs.length cc],.int .i64 i,.int .i64 j,.pointer (some ⟨w.heap.size,0,none⟩),undef,undef,.pointer (some ⟨w.heap.size+1,0,none⟩),v7,undef,undef,.agg #[.int .i64 R,.int .i64 C,.slice (some ⟨qi,offi,none⟩) gs.length cc],.bool true,.bool false,.bool false,.int .i64 i,.pointer (some ⟨w.heap.size,2,none⟩),.slice (some ⟨qi,offi,none⟩) gs.length cc,.int .i64 gs.length,.int .i64 ((gs.length:Int) - 1),.bool true,.bool false,.bool false,.bool false,.int .i64 j,.pointer (some ⟨w.heap.size,2,none⟩),.slice (some ⟨qi,offi,none⟩) gs.length cc,.int .i64 gs.length,.int .i64 ((gs.length:Int) - 1),.bool true,.bool false,.bool false,undef,v32,v33,v34,v35,v36,v37,v38,v39,v40,v41,v42,undef,undef,undef,undef,undef,undef,undef,undef,undef,undef,undef,undef,undef,undef,undef,undef,undef,undef,undef,undef,undef,undef,undef,undef,undef,undef,undef,undef,undef,undef],[]⟩∧QgN w.heap.size qi offi i j gs.length cc ci cj s w1 L W v7 v32 v33 v34 v35 v36 v37 v38 v39 v40 v41 v42) hmx (by kernel_rfl) ?hs ?hd ?h0
    case h0=>exact ⟨_,_,_,_,_,_,_,_,_,_,_,_,rfl,⟨(fun h=>by cases h),(fun h=>by cases h),(fun h=>by cases h),(fun h=>by cases h),(fun h=>by cases h),(fun h=>by cases h),(fun h=>by cases h),(fun h=>by cases h),(fun h=>by cases h),(fun h=>by cases h),(fun h=>by cases h),(fun h=>by cases h),(fun h=>by cases h),(fun _=>k_drew (Below.refl _ _)),k_drew (Below.refl _ _)⟩⟩
    case hd =>
     intro L act W hJ hall
     obtain ⟨v7,v32,v33,v34,v35,v36,v37,v38,v39,v40,v41,v42,ha,J⟩:=hJ
     subst ha
     obtain ⟨xb,rfl,hbw,hbk⟩:=J.f12 (hall 12 (by decide))
     obtain rfl:=J.f0 (hall 0 (by decide))
     obtain rfl:=J.f1 (hall 1 (by decide))
     obtain rfl:=J.f2 (hall 2 (by decide))
     obtain rfl:=J.f3 (hall 3 (by decide))
     obtain rfl:=J.f4 (hall 4 (by decide))
     obtain rfl:=J.f5 (hall 5 (by decide))
     obtain rfl:=J.f6 (hall 6 (by decide))
     obtain rfl:=J.f7 (hall 7 (by decide))
     obtain rfl:=J.f8 (hall 8 (by decide))
     obtain rfl:=J.f9 (hall 9 (by decide))
     obtain rfl:=J.f10 (hall 10 (by decide))
     have hb:=J.bb
     have Q2:=Hid.intro (Q1.out.kept hb)
     have hxb:w.heap.size+1 < xb:=by omega
     have hne1:¬ w.heap.size=xb:=by omega
     have X2:=Hid.intro (ins_raw hbk)
     obtain ⟨⟨c0,c1,c2,c3,c4⟩,f0,f1,f2,f3,f4⟩:=fiveQ hbk
     rw [HSp.out] at X2
     have Q3:=Hid.intro (Q2.out.set4 hxb)
     clear J hall hb hbk hbw HI HJ HQ2 hlq hln hlt1 KL Q1 HSp Q2 hfi hfj KA KB
     rename World=>w2
     go_upto_region 5 with fail
     clear c0 c1 c2 c3 c4 f0 f1 f2 f3 f4
     generalize w2.setCell ⟨xb,4,none⟩ (.int .i64 0)=w3 at X2 Q3 ⊢
     have HIns:Hid (s0.ins=0):=HI0
     obtain ⟨q0,q1,q2⟩:=Q3.out.cells
     go_wp2_with fail
     go_loopw [8] (fun s8 W=>∃ k:Nat,k≤gs.length∧s8=.int .i64 k∧Hid (W.heap[xb]?=some (gO (itM gs k s0)))∧Hid (RQ w R C (some ⟨qi,offi,none⟩) gs.length cc W)) (fun s8 _=>gs.length - (intOf s8).toNat)
     case atStart=>exact ⟨0,Nat.zero_le _,rfl,X2,Q3⟩
     case round =>
      clear X2 Q3 q0 q1 q2
      obtain ⟨k,hk,rfl,X,Q⟩:=hrel
      obtain ⟨q0,q1,q2⟩:=Q.out.cells
      by_cases hlt:k < gs.length
      case neg =>
       obtain rfl:k=gs.length:=by omega
       have hl1:xb < wr.heap.size:=(Array.getElem?_eq_some_iff.1 X.out).1
       have hX:Hid (wr.heap[xb]?=some (gO (rangeG gs s0))):=X
       clear X
       generalize hY:rangeG gs s0=y at hX HF
       clear hY
       obtain ⟨⟨x0,x1,x2,x3,x4⟩,_⟩:=fiveQ hX.out
       obtain ⟨⟨c0,c1,c2,c3,c4⟩,f0,f1,f2,f3,f4⟩:=fiveQ Q.out.b1
       obtain ⟨⟨p0,p1,p2,p3,p4⟩,_⟩:=fiveQ (pg5_block Q.out.b1 y)
       have K:=Hid.intro (pg5_below Q.out.below (g:=w.heap.size+1) (by omega) y)
       unfold pg5 at p0 p1 p2 p3 p4 K
       go_wp2
       exact bodyPost_ret (v:=gV y) (by simp [results,Try.results10,go_sem,p0,p1,p2,p3,p4]) rfl ⟨by rw [HF.out],K.out⟩
      have hft:=itM_fit hfit hfs k
      have hin:Hid ((itM gs k s0).ins=0):=Hid.intro (itM_facts HIns.out k).2.2.1
      have HRd:Hid ((gs.take gs.length).foldl stepM (itM gs k s0)=itM gs (k+1) s0):=by show _=_;rw [List.take_length];rfl
      generalize itM gs k s0=y at X hft hin HRd
      have XS:=X
      have QS:=Q
      go_wp2_with fail
      go_loopw [9] (fun s9 W=>∃ a:Nat,a≤gs.length∧s9=.int .i64 a∧Hid (W.heap[xb]?=some (gO ((gs.take a).foldl stepM y)))∧Hid (RQ w R C (some ⟨qi,offi,none⟩) gs.length cc W)) (fun s9 _=>gs.length - (intOf s9).toNat)
      case atStart=>exact ⟨0,Nat.zero_le _,rfl,XS,QS⟩
      case round =>
       clear X Q XS QS q0 q1 q2
       obtain ⟨a,ha,rfl,X,Q⟩:=hrel
       obtain ⟨q0,q1,q2⟩:=Q.out.cells
       by_cases hla:a < gs.length
       case neg =>
        obtain rfl:a=gs.length:=by omega
        go_wp2
        go_roundw
        case rel=>exact ⟨k+1,by omega,by go_num,by rw [HRd.out] at X;exact X,Q⟩
        case measure=>simp [intOf];omega
       have hfa:=foldM_fit (gs.take a) y (fun c hc=>hfit c (List.mem_of_mem_take hc)) hft
       have hia:Hid (((gs.take a).foldl stepM y).ins=0):=Hid.intro (foldM_grow (gs.take a) gs y (fun c hc=>List.mem_of_mem_take hc) hin.out).2.2.2
       have HS:Hid ((gs.take (a+1)).foldl stepM y=stepM ((gs.take a).foldl stepM y) (gs.getD a dG)):=by
        show _=_
        rw [List.take_succ_eq_append_getElem hla,List.foldl_append]
        simp [List.getD,hla]
       have hfc:=hfit _ (mem_getD hla)
       obtain ⟨qa,offa,capa,ea,ha1,ha2,hba,hxa,_⟩:=At.get (H.out.kept Q.out.below) hla
       simp only [Value.slice.injEq,Option.some.injEq,Addr.mk.injEq,and_true,true_and] at ea
       obtain ⟨⟨rfl,rfl⟩,rfl⟩:=ea
       generalize (gs.take a).foldl stepM y=v at X hfa hia HS
       generalize gs.getD a dG=c at hxa hfc HS
       obtain ⟨x0,x1,x2,x3,x4⟩:=hxa
       obtain ⟨⟨y0,y1,y2,y3,y4⟩,z0,z1,z2,z3,z4⟩:=fiveQ X.out
       have hl1:xb < wr.heap.size:=(Array.getElem?_eq_some_iff.1 X.out).1
       have hl0:w.heap.size < wr.heap.size:=by have:=Q.out.lt;omega
       have KM:=Hid.intro (fun (p:BW wr)=>bw_of (l3Meets_any v c (sm4 (fitP_sm hfa hR hC)) (sm4 (fitP_sm hfc hR hC)) p.u))
       have KL:=Hid.intro (l10Span_any v c (fitP_sm hfa hR hC) (fitP_sm hfc hR hC))
       rw [spanI_zero hia.out] at KL
       have m2:=bw_cell (a:=⟨w.heap.size,2,none⟩) hl0 q2
       have my0:=bw_cell (a:=⟨xb,0,none⟩) hl1 y0
       have my1:=bw_cell (a:=⟨xb,1,none⟩) hl1 y1
       have my2:=bw_cell (a:=⟨xb,2,none⟩) hl1 y2
       have my3:=bw_cell (a:=⟨xb,3,none⟩) hl1 y3
       have my4:=bw_cell (a:=⟨xb,4,none⟩) hl1 y4
       have mx0:=bw_cell (a:=⟨qi,offi+a * 5,none⟩) hba x0
       have mx1:=bw_cell (a:=⟨qi,offi+a * 5+1,none⟩) hba x1
       have mx2:=bw_cell (a:=⟨qi,offi+a * 5+2,none⟩) hba x2
       have mx3:=bw_cell (a:=⟨qi,offi+a * 5+3,none⟩) hba x3
       have mx4:=bw_cell (a:=⟨qi,offi+a * 5+4,none⟩) hba x4
       have hnb:=bw_some wr
       have HXa:=Hid.intro (And.intro x0 (And.intro x1 (And.intro x2 (And.intro x3 x4))))
       unfold maxLen at ha2
       go_upto_region 11 with fail
       refine wp_region_quiet_below hmx (by kernel_rfl) ?_
       repeat (go_big_quiet_step (first | (go_at_call 41;refine KM.out _)))
       refine wpQuiet_nil ?_
       intro W3 hw'
       obtain ⟨⟨Wx,hW3⟩,hw''⟩:=hw'
       subst hw''
       replace Q:=Hid.intro (Q.out.kept hW3)
       replace X:=Hid.intro (box_keptQ X.out hW3)
       have hx0:=(hW3.cell (p:=⟨qi,offi+a * 5,none⟩) hba).trans HXa.out.1
       have hx1:=(hW3.cell (p:=⟨qi,offi+a * 5+1,none⟩) hba).trans HXa.out.2.1
       have hx2:=(hW3.cell (p:=⟨qi,offi+a * 5+2,none⟩) hba).trans HXa.out.2.2.1
       have hx3:=(hW3.cell (p:=⟨qi,offi+a * 5+3,none⟩) hba).trans HXa.out.2.2.2.1
       have hx4:=(hW3.cell (p:=⟨qi,offi+a * 5+4,none⟩) hba).trans HXa.out.2.2.2.2
       clear m2 my0 my1 my2 my3 my4 mx0 mx1 mx2 mx3 mx4 hnb KM hW3 q0 q1 q2 x0 x1 x2 x3 x4 y0 y1 y2 y3 y4 z0 z1 z2 z3 z4 HXa hl1 hl0
       cases hm:meetsB v c with
       | false =>
        have HE:Hid (stepM v c=v):=by show _=_;unfold stepM;rw [hm];rfl
        clear hm
        go_wp2
        go_roundw
        case rel=>exact ⟨a+1,by omega,by go_num,by rw [HS.out,HE.out];exact X,Q⟩
        case measure=>simp [intOf];omega
       | true =>
        have HE:Hid (stepM v c=spanG v c):=by show _=_;unfold stepM;rw [hm];rfl
        clear hm
        rw [HE.out] at HS
        clear HE
        generalize spanG v c=d at HS KL
        obtain ⟨q0,q1,q2⟩:=Q.out.cells
        obtain ⟨⟨y0,y1,y2,y3,y4⟩,z0,z1,z2,z3,z4⟩:=fiveQ X.out
        go_upto_region 12 with fail
        go_region_with (first
         | (go_at_call 40;refine (KL.out _).mono ?_;rintro e W5 ⟨rfl,hb5⟩;have Q5:=Hid.intro (Q.out.kept (k_trans (k_drew (Below.refl _ _)) hb5));have X5:=Hid.intro (box_keptQ X.out (k_trans (k_drew (Below.refl _ _)) hb5));obtain ⟨⟨u0,u1,u2,u3,u4⟩,f0,f1,f2,f3,f4⟩:=fiveQ X5.out;have Q6:=Hid.intro (Q5.out.put hxb d);have X6:=Hid.intro (pg5_block X5.out d);unfold pg5 at Q6 X6;clear hb5))
        all_goals
         go_wp2
         go_roundw
         case rel=>exact ⟨a+1,by omega,by go_num,by rw [HS.out];exact X6,Q6⟩
         case measure=>simp [intOf];omega
    case hs =>
     intro L act W i o hJ hcl ho hLi haft K hK
     obtain ⟨v7,v32,v33,v34,v35,v36,v37,v38,v39,v40,v41,v42,ha,J⟩:=hJ
     subst ha
     have hi':i < 13:=by
      have:=(Array.getElem?_eq_some_iff.1 ho).1
      simpa using this
     rcases (by omega:i=0∨i=1∨i=2∨i=3∨i=4∨i=5∨i=6∨i=7∨i=8∨i=9∨i=10∨i=11∨i=12) with rfl | rfl | rfl | rfl | rfl | rfl | rfl | rfl | rfl | rfl | rfl | rfl | rfl
     all_goals
      simp only [List.getElem?_toArray,List.getElem?_cons_zero,List.getElem?_cons_succ,Option.some.injEq] at ho
      subst ho
      clear hi'
     ·skip
      have hN:=(hcl 12 10 (by kernel_rfl) (hcl 10 4 (by kernel_rfl) (hcl 4 3 (by kernel_rfl) (hcl 3 1 (by kernel_rfl) (hcl 1 0 (by kernel_rfl) hLi)))))
      have hB:=J.b hN
      go_simp
      exact hK _ _ ⟨_,_,_,_,_,_,_,_,_,_,_,_,rfl,⟨(fun _=>rfl),(fun h=>absurd (((hcl 1 0 (by kernel_rfl) hLi)).symm.trans (un h)) (by simp)),(fun h=>J.f2 (un h)),(fun h=>absurd (((hcl 3 1 (by kernel_rfl) (hcl 1 0 (by kernel_rfl) hLi))).symm.trans (un h)) (by simp)),(fun h=>absurd (((hcl 4 3 (by kernel_rfl) (hcl 3 1 (by kernel_rfl) (hcl 1 0 (by kernel_rfl) hLi)))).symm.trans (un h)) (by simp)),(fun h=>J.f5 (un h)),(fun h=>J.f6 (un h)),(fun h=>J.f7 (un h)),(fun h=>J.f8 (un h)),(fun h=>J.f9 (un h)),(fun h=>absurd (((hcl 10 4 (by kernel_rfl) (hcl 4 3 (by kernel_rfl) (hcl 3 1 (by kernel_rfl) (hcl 1 0 (by kernel_rfl) hLi))))).symm.trans (un h)) (by simp)),(fun h h2=>(J.f11 (un h) (un h2))),(fun h=>absurd (((hcl 12 10 (by kernel_rfl) (hcl 10 4 (by kernel_rfl) (hcl 4 3 (by kernel_rfl) (hcl 3 1 (by kernel_rfl) (hcl 1 0 (by kernel_rfl) hLi)))))).symm.trans (un h)) (by simp)),(fun _=>hB),J.bb⟩⟩
     ·skip
      have hN:=(hcl 12 10 (by kernel_rfl) (hcl 10 4 (by kernel_rfl) (hcl 4 3 (by kernel_rfl) (hcl 3 1 (by kernel_rfl) hLi))))
      have hB:=J.b hN
      obtain rfl:=J.f0 (haft ⟨0,.data⟩ (by simp) rfl)
      have q2:=(hB.cell (p:=⟨w.heap.size,2,none⟩) hln).trans HQ2.out
      go_simp
      exact hK _ _ ⟨_,_,_,_,_,_,_,_,_,_,_,_,rfl,⟨(fun h=>J.f0 (un h)),(fun _=>rfl),(fun h=>J.f2 (un h)),(fun h=>absurd (((hcl 3 1 (by kernel_rfl) hLi)).symm.trans (un h)) (by simp)),(fun h=>absurd (((hcl 4 3 (by kernel_rfl) (hcl 3 1 (by kernel_rfl) hLi))).symm.trans (un h)) (by simp)),(fun h=>J.f5 (un h)),(fun h=>J.f6 (un h)),(fun h=>J.f7 (un h)),(fun h=>J.f8 (un h)),(fun h=>J.f9 (un h)),(fun h=>absurd (((hcl 10 4 (by kernel_rfl) (hcl 4 3 (by kernel_rfl) (hcl 3 1 (by kernel_rfl) hLi)))).symm.trans (un h)) (by simp)),(fun h h2=>(J.f11 (un h) (un h2))),(fun h=>absurd (((hcl 12 10 (by kernel_rfl) (hcl 10 4 (by kernel_rfl) (hcl 4 3 (by kernel_rfl) (hcl 3 1 (by kernel_rfl) hLi))))).symm.trans (un h)) (by simp)),(fun _=>hB),J.bb⟩⟩
     ·skip
      have hN:=(hcl 12 10 (by kernel_rfl) (hcl 10 4 (by kernel_rfl) (hcl 4 3 (by kernel_rfl) (hcl 3 2 (by kernel_rfl) hLi))))
      have hB:=J.b hN
      go_simp
      exact hK _ _ ⟨_,_,_,_,_,_,_,_,_,_,_,_,rfl,⟨(fun h=>J.f0 (un h)),(fun h=>J.f1 (un h)),(fun _=>rfl),(fun h=>absurd (((hcl 3 2 (by kernel_rfl) hLi)).symm.trans (un h)) (by simp)),(fun h=>absurd (((hcl 4 3 (by kernel_rfl) (hcl 3 2 (by kernel_rfl) hLi))).symm.trans (un h)) (by simp)),(fun h=>J.f5 (un h)),(fun h=>J.f6 (un h)),(fun h=>J.f7 (un h)),(fun h=>J.f8 (un h)),(fun h=>J.f9 (un h)),(fun h=>absurd (((hcl 10 4 (by kernel_rfl) (hcl 4 3 (by kernel_rfl) (hcl 3 2 (by kernel_rfl) hLi)))).symm.trans (un h)) (by simp)),(fun h h2=>(J.f11 (un h) (un h2))),(fun h=>absurd (((hcl 12 10 (by kernel_rfl) (hcl 10 4 (by kernel_rfl) (hcl 4 3 (by kernel_rfl) (hcl 3 2 (by kernel_rfl) hLi))))).symm.trans (un h)) (by simp)),(fun _=>hB),J.bb⟩⟩
     ·skip
      have hN:=(hcl 12 10 (by kernel_rfl) (hcl 10 4 (by kernel_rfl) (hcl 4 3 (by kernel_rfl) hLi)))
      have hB:=J.b hN
      obtain rfl:=J.f1 (haft ⟨1,.data⟩ (by simp) rfl)
      obtain rfl:=J.f2 (haft ⟨2,.data⟩ (by simp) rfl)
      go_simp
      exact hK _ _ ⟨_,_,_,_,_,_,_,_,_,_,_,_,rfl,⟨(fun h=>J.f0 (un h)),(fun h=>J.f1 (un h)),(fun h=>J.f2 (un h)),(fun _=>rfl),(fun h=>absurd (((hcl 4 3 (by kernel_rfl) hLi)).symm.trans (un h)) (by simp)),(fun h=>J.f5 (un h)),(fun h=>J.f6 (un h)),(fun h=>J.f7 (un h)),(fun h=>J.f8 (un h)),(fun h=>J.f9 (un h)),(fun h=>absurd (((hcl 10 4 (by kernel_rfl) (hcl 4 3 (by kernel_rfl) hLi))).symm.trans (un h)) (by simp)),(fun h h2=>(J.f11 (un h) (un h2))),(fun h=>absurd (((hcl 12 10 (by kernel_rfl) (hcl 10 4 (by kernel_rfl) (hcl 4 3 (by kernel_rfl) hLi)))).symm.trans (un h)) (by simp)),(fun _=>hB),J.bb⟩⟩
     ·skip
      have hN:=(hcl 12 10 (by kernel_rfl) (hcl 10 4 (by kernel_rfl) hLi))
      have hB:=J.b hN
      obtain rfl:=J.f3 (haft ⟨3,.data⟩ (by simp) rfl)
      have q0:=(hB.cell (p:=⟨qi,offi+i * 5,none⟩) hlq).trans HI.out.1
      have q1:=(hB.cell (p:=⟨qi,offi+i * 5+1,none⟩) hlq).trans HI.out.2.1
      have q2:=(hB.cell (p:=⟨qi,offi+i * 5+2,none⟩) hlq).trans HI.out.2.2.1
      have q3:=(hB.cell (p:=⟨qi,offi+i * 5+3,none⟩) hlq).trans HI.out.2.2.2.1
      have q4:=(hB.cell (p:=⟨qi,offi+i * 5+4,none⟩) hlq).trans HI.out.2.2.2.2
      go_simp
      exact hK _ _ ⟨_,_,_,_,_,_,_,_,_,_,_,_,rfl,⟨(fun h=>J.f0 (un h)),(fun h=>J.f1 (un h)),(fun h=>J.f2 (un h)),(fun h=>J.f3 (un h)),(fun _=>rfl),(fun h=>J.f5 (un h)),(fun h=>J.f6 (un h)),(fun h=>J.f7 (un h)),(fun h=>J.f8 (un h)),(fun h=>J.f9 (un h)),(fun h=>absurd (((hcl 10 4 (by kernel_rfl) hLi)).symm.trans (un h)) (by simp)),(fun h h2=>(J.f11 (un h) (un h2))),(fun h=>absurd (((hcl 12 10 (by kernel_rfl) (hcl 10 4 (by kernel_rfl) hLi))).symm.trans (un h)) (by simp)),(fun _=>hB),J.bb⟩⟩
     ·skip
      have hN:=(hcl 12 10 (by kernel_rfl) (hcl 10 9 (by kernel_rfl) (hcl 9 8 (by kernel_rfl) (hcl 8 6 (by kernel_rfl) (hcl 6 5 (by kernel_rfl) hLi)))))
      have hB:=J.b hN
      go_simp
      exact hK _ _ ⟨_,_,_,_,_,_,_,_,_,_,_,_,rfl,⟨(fun h=>J.f0 (un h)),(fun h=>J.f1 (un h)),(fun h=>J.f2 (un h)),(fun h=>J.f3 (un h)),(fun h=>J.f4 (un h)),(fun _=>rfl),(fun h=>absurd (((hcl 6 5 (by kernel_rfl) hLi)).symm.trans (un h)) (by simp)),(fun h=>J.f7 (un h)),(fun h=>absurd (((hcl 8 6 (by kernel_rfl) (hcl 6 5 (by kernel_rfl) hLi))).symm.trans (un h)) (by simp)),(fun h=>absurd (((hcl 9 8 (by kernel_rfl) (hcl 8 6 (by kernel_rfl) (hcl 6 5 (by kernel_rfl) hLi)))).symm.trans (un h)) (by simp)),(fun h=>absurd (((hcl 10 9 (by kernel_rfl) (hcl 9 8 (by kernel_rfl) (hcl 8 6 (by kernel_rfl) (hcl 6 5 (by kernel_rfl) hLi))))).symm.trans (un h)) (by simp)),(fun h h2=>(J.f11 (un h) (un h2))),(fun h=>absurd (((hcl 12 10 (by kernel_rfl) (hcl 10 9 (by kernel_rfl) (hcl 9 8 (by kernel_rfl) (hcl 8 6 (by kernel_rfl) (hcl 6 5 (by kernel_rfl) hLi)))))).symm.trans (un h)) (by simp)),(fun _=>hB),J.bb⟩⟩
     ·skip
      have hN:=(hcl 12 10 (by kernel_rfl) (hcl 10 9 (by kernel_rfl) (hcl 9 8 (by kernel_rfl) (hcl 8 6 (by kernel_rfl) hLi))))
      have hB:=J.b hN
      obtain rfl:=J.f5 (haft ⟨5,.data⟩ (by simp) rfl)
      have q2:=(hB.cell (p:=⟨w.heap.size,2,none⟩) hln).trans HQ2.out
      go_simp
      exact hK _ _ ⟨_,_,_,_,_,_,_,_,_,_,_,_,rfl,⟨(fun h=>J.f0 (un h)),(fun h=>J.f1 (un h)),(fun h=>J.f2 (un h)),(fun h=>J.f3 (un h)),(fun h=>J.f4 (un h)),(fun h=>J.f5 (un h)),(fun _=>rfl),(fun h=>J.f7 (un h)),(fun h=>absurd (((hcl 8 6 (by kernel_rfl) hLi)).symm.trans (un h)) (by simp)),(fun h=>absurd (((hcl 9 8 (by kernel_rfl) (hcl 8 6 (by kernel_rfl) hLi))).symm.trans (un h)) (by simp)),(fun h=>absurd (((hcl 10 9 (by kernel_rfl) (hcl 9 8 (by kernel_rfl) (hcl 8 6 (by kernel_rfl) hLi)))).symm.trans (un h)) (by simp)),(fun h h2=>(J.f11 (un h) (un h2))),(fun h=>absurd (((hcl 12 10 (by kernel_rfl) (hcl 10 9 (by kernel_rfl) (hcl 9 8 (by kernel_rfl) (hcl 8 6 (by kernel_rfl) hLi))))).symm.trans (un h)) (by simp)),(fun _=>hB),J.bb⟩⟩
     ·skip
      have hN:=(hcl 12 10 (by kernel_rfl) (hcl 10 9 (by kernel_rfl) (hcl 9 8 (by kernel_rfl) (hcl 8 7 (by kernel_rfl) hLi))))
      have hB:=J.b hN
      go_simp
      exact hK _ _ ⟨_,_,_,_,_,_,_,_,_,_,_,_,rfl,⟨(fun h=>J.f0 (un h)),(fun h=>J.f1 (un h)),(fun h=>J.f2 (un h)),(fun h=>J.f3 (un h)),(fun h=>J.f4 (un h)),(fun h=>J.f5 (un h)),(fun h=>J.f6 (un h)),(fun _=>rfl),(fun h=>absurd (((hcl 8 7 (by kernel_rfl) hLi)).symm.trans (un h)) (by simp)),(fun h=>absurd (((hcl 9 8 (by kernel_rfl) (hcl 8 7 (by kernel_rfl) hLi))).symm.trans (un h)) (by simp)),(fun h=>absurd (((hcl 10 9 (by kernel_rfl) (hcl 9 8 (by kernel_rfl) (hcl 8 7 (by kernel_rfl) hLi)))).symm.trans (un h)) (by simp)),(fun h h2=>(J.f11 (un h) (un h2))),(fun h=>absurd (((hcl 12 10 (by kernel_rfl) (hcl 10 9 (by kernel_rfl) (hcl 9 8 (by kernel_rfl) (hcl 8 7 (by kernel_rfl) hLi))))).symm.trans (un h)) (by simp)),(fun _=>hB),J.bb⟩⟩
     ·skip
      have hN:=(hcl 12 10 (by kernel_rfl) (hcl 10 9 (by kernel_rfl) (hcl 9 8 (by kernel_rfl) hLi)))
      have hB:=J.b hN
      obtain rfl:=J.f6 (haft ⟨6,.data⟩ (by simp) rfl)
      obtain rfl:=J.f7 (haft ⟨7,.data⟩ (by simp) rfl)
      go_simp
      exact hK _ _ ⟨_,_,_,_,_,_,_,_,_,_,_,_,rfl,⟨(fun h=>J.f0 (un h)),(fun h=>J.f1 (un h)),(fun h=>J.f2 (un h)),(fun h=>J.f3 (un h)),(fun h=>J.f4 (un h)),(fun h=>J.f5 (un h)),(fun h=>J.f6 (un h)),(fun h=>J.f7 (un h)),(fun _=>rfl),(fun h=>absurd (((hcl 9 8 (by kernel_rfl) hLi)).symm.trans (un h)) (by simp)),(fun h=>absurd (((hcl 10 9 (by kernel_rfl) (hcl 9 8 (by kernel_rfl) hLi))).symm.trans (un h)) (by simp)),(fun h h2=>(J.f11 (un h) (un h2))),(fun h=>absurd (((hcl 12 10 (by kernel_rfl) (hcl 10 9 (by kernel_rfl) (hcl 9 8 (by kernel_rfl) hLi)))).symm.trans (un h)) (by simp)),(fun _=>hB),J.bb⟩⟩
     ·skip
      have hN:=(hcl 12 10 (by kernel_rfl) (hcl 10 9 (by kernel_rfl) hLi))
      have hB:=J.b hN
      obtain rfl:=J.f8 (haft ⟨8,.data⟩ (by simp) rfl)
      have q0:=(hB.cell (p:=⟨qi,offi+j * 5,none⟩) hlq).trans HJ.out.1
      have q1:=(hB.cell (p:=⟨qi,offi+j * 5+1,none⟩) hlq).trans HJ.out.2.1
      have q2:=(hB.cell (p:=⟨qi,offi+j * 5+2,none⟩) hlq).trans HJ.out.2.2.1
      have q3:=(hB.cell (p:=⟨qi,offi+j * 5+3,none⟩) hlq).trans HJ.out.2.2.2.1
      have q4:=(hB.cell (p:=⟨qi,offi+j * 5+4,none⟩) hlq).trans HJ.out.2.2.2.2
      go_simp
      exact hK _ _ ⟨_,_,_,_,_,_,_,_,_,_,_,_,rfl,⟨(fun h=>J.f0 (un h)),(fun h=>J.f1 (un h)),(fun h=>J.f2 (un h)),(fun h=>J.f3 (un h)),(fun h=>J.f4 (un h)),(fun h=>J.f5 (un h)),(fun h=>J.f6 (un h)),(fun h=>J.f7 (un h)),(fun h=>J.f8 (un h)),(fun _=>rfl),(fun h=>absurd (((hcl 10 9 (by kernel_rfl) hLi)).symm.trans (un h)) (by simp)),(fun h h2=>(J.f11 (un h) (un h2))),(fun h=>absurd (((hcl 12 10 (by kernel_rfl) (hcl 10 9 (by kernel_rfl) hLi))).symm.trans (un h)) (by simp)),(fun _=>hB),J.bb⟩⟩
     ·skip
      have hN:=(hcl 12 10 (by kernel_rfl) hLi)
      have hB:=J.b hN
      obtain rfl:=J.f4 (haft ⟨4,.data⟩ (by simp) rfl)
      obtain rfl:=J.f9 (haft ⟨9,.data⟩ (by simp) rfl)
      go_simp
      go_wp2_with (go_at_call 40;refine (KL.out _).mono ?_;rintro e W2 ⟨rfl,hb⟩)
      exact ⟨_,_,_,_,_,_,_,_,_,_,_,_,rfl,⟨(fun h=>J.f0 (un h)),(fun h=>J.f1 (un h)),(fun h=>J.f2 (un h)),(fun h=>J.f3 (un h)),(fun h=>J.f4 (un h)),(fun h=>J.f5 (un h)),(fun h=>J.f6 (un h)),(fun h=>J.f7 (un h)),(fun h=>J.f8 (un h)),(fun h=>J.f9 (un h)),(fun _=>rfl),(fun h h2=>((J.f11 (un h) (un h2))).elim fun b h=>⟨b,h.1,h.2.1,box_keptQ h.2.2 hb⟩),(fun h=>absurd (((hcl 12 10 (by kernel_rfl) hLi)).symm.trans (un h)) (by simp)),(fun _=>k_trans hB hb),k_trans J.bb hb⟩⟩
     ·skip
      have hN:=(hcl 12 11 (by kernel_rfl) hLi)
      have hB:=J.b hN
      go_simp
      exact hK _ _ ⟨_,_,_,_,_,_,_,_,_,_,_,_,rfl,⟨(fun h=>J.f0 (un h)),(fun h=>J.f1 (un h)),(fun h=>J.f2 (un h)),(fun h=>J.f3 (un h)),(fun h=>J.f4 (un h)),(fun h=>J.f5 (un h)),(fun h=>J.f6 (un h)),(fun h=>J.f7 (un h)),(fun h=>J.f8 (un h)),(fun h=>J.f9 (un h)),(fun h=>J.f10 (un h)),(fun _ _=>⟨_,rfl,hB.size,newestB _ _⟩),(fun h=>absurd (((hcl 12 11 (by kernel_rfl) hLi)).symm.trans (un h)) (by simp)),(fun _=>k_alloc hB _),k_alloc J.bb _⟩⟩
     ·skip
      have hN:=hLi
      have hB:=J.b hN
      obtain rfl:=J.f10 (haft ⟨10,.data⟩ (by simp) rfl)
      obtain ⟨b,rfl,hbw,hbk⟩:=J.f11 (haft ⟨11,.data⟩ (by simp) rfl) hLi
      have hB:=J.b hLi
      obtain ⟨⟨q0,q1,q2,q3,q4⟩,f0,f1,f2,f3,f4⟩:=fiveQ hbk
      go_simp
      exact hK _ _ ⟨_,_,_,_,_,_,_,_,_,_,_,_,rfl,⟨(fun h=>J.f0 (un h)),(fun h=>J.f1 (un h)),(fun h=>J.f2 (un h)),(fun h=>J.f3 (un h)),(fun h=>J.f4 (un h)),(fun h=>J.f5 (un h)),(fun h=>J.f6 (un h)),(fun h=>J.f7 (un h)),(fun h=>J.f8 (un h)),(fun h=>J.f9 (un h)),(fun h=>J.f10 (un h)),(fun _ h=>absurd (h.symm.trans upd_self) (by simp)),(fun _=>⟨b,rfl,hbw,pg5_raw hbk s⟩),(fun h=>absurd (h.symm.trans upd_self) (by simp)),k_set (k_set (k_set (k_set (k_set J.bb hbw _) hbw _) hbw _) hbw _) hbw _⟩⟩
end Go.Proofs.Ytggmjiddadjilaj
