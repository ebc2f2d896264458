/-
  PROVED HERE: what the program's QryRange answers: the least part of a grid that has two cells, and of each cell all or nothing; nothing that was in memory is turned.
-/
import Derived.Test.YtggmjiddadjilajH23
import Derived.Test.YtggmjiddadjilajH12
import Derived.Laws.StructEq
import Derived.Deep.DeepCutAuto
namespace Go.Proofs.Ytggmjiddadjilaj
open Go.RowKit

def rngF (g:G) (a b:Int):GC:=if okB g && (inB a 0 ((g.cells.length:Int) - 1) && inB b 0 ((g.cells.length:Int) - 1)) then rangeG g.cells (spanG (g.cells.getD a.toNat dG) (g.cells.getD b.toNat dG)) else dG
theorem rngF_ok {g:G} {a b:Int} (h1:okB g=true) (h2:inB a 0 ((g.cells.length:Int) - 1)=true) (h3:inB b 0 ((g.cells.length:Int) - 1)=true):rngF g a b=rangeG g.cells (spanG (g.cells.getD a.toNat dG) (g.cells.getD b.toNat dG)):=by
 rw [rngF,h1,h2,h3]
 rfl
theorem rngF_no1 {g:G} {a b:Int} (h1:okB g=false):rngF g a b=dG:=by rw [rngF,h1];rfl
theorem rngF_no2 {g:G} {a b:Int} (h1:inB a 0 ((g.cells.length:Int) - 1)=false):rngF g a b=dG:=by rw [rngF,h1,Bool.false_and,Bool.and_false];rfl
theorem rngF_no3 {g:G} {a b:Int} (h1:inB b 0 ((g.cells.length:Int) - 1)=false):rngF g a b=dG:=by rw [rngF,h1,Bool.and_false,Bool.and_false];rfl
theorem ok_fit {g:G} (h:okB g=true):∀ c ∈ g.cells,FitP g.rows g.cols c:=by
 have h2:=h
 simp only [okB,Bool.and_eq_true] at h2
 intro c hc
 have h3:=okTo_fits (Nat.le_refl _) h2.2
 rw [List.take_length] at h3
 exact fitP_of (h3 c hc)
theorem ok_len {g:G} (h:okB g=true):g.rows≤8∧g.cols≤94∧g.cells.length≤40:=by
 have h2:=h
 simp only [okB,Bool.and_eq_true] at h2
 obtain ⟨_,h3,_,h4,h5⟩:=bounds_of h2.1
 exact ⟨h3,h4,h5⟩
theorem mem_getD {gs:List GC} {k:Nat} (h:k < gs.length):gs.getD k dG ∈ gs:=by
 rw [List.getD_eq_getElem?_getD,List.getElem?_eq_getElem h]
 exact List.getElem_mem h

/-- the boxes of QryRange, all along it -/
structure RQ (w:World) (R C:Int) (ac:Option Addr) (n cc:Nat) (W:World):Prop where
 below:Below w.heap.size w W
 b0:W.heap[w.heap.size]?=some (.cells #[.int .i64 R,.int .i64 C,.slice ac n cc] 25)
 b1:W.heap[w.heap.size+1]?=some (gO dG)
theorem RQ.lt {w W:World} {R C:Int} {ac:Option Addr} {n cc:Nat} (h:RQ w R C ac n cc W):w.heap.size+1 < W.heap.size:=(Array.getElem?_eq_some_iff.1 h.b1).1
theorem RQ.kept {w W W':World} {R C:Int} {ac:Option Addr} {n cc:Nat} (h:RQ w R C ac n cc W) (k:Below W.heap.size W W'):RQ w R C ac n cc W':=by
 have:=h.lt
 exact ⟨k_trans h.below k,(k.block _ (by omega)).trans h.b0,(k.block _ (by omega)).trans h.b1⟩
theorem RQ.put {w W:World} {R C:Int} {ac:Option Addr} {n cc:Nat} (h:RQ w R C ac n cc W) {xb:Nat} (hx:w.heap.size+1 < xb) (y:GC):RQ w R C ac n cc (pg5 W xb y) :=
 ⟨pg5_below h.below (by omega) y,(pg5_other (by omega) y).trans h.b0,(pg5_other (by omega) y).trans h.b1⟩
theorem RQ.new (w:World) (R C:Int) (ac:Option Addr) (n cc:Nat):RQ w R C ac n cc ((w.alloc (.cells #[.int .i64 R,.int .i64 C,.slice ac n cc] 25)).alloc (gO dG)):=by
 have s0:(w.alloc (.cells #[.int .i64 R,.int .i64 C,.slice ac n cc] 25)).heap.size=w.heap.size+1:=by simp
 have n1:=newestB (w.alloc (.cells #[.int .i64 R,.int .i64 C,.slice ac n cc] 25)) (gO dG)
 rw [s0] at n1
 exact ⟨k_alloc (k_alloc (Below.refl _ _) _) _,(Below.heap_alloc _ _ _ (by omega)).trans (newestB w _),n1⟩
theorem RQ.cells {w W:World} {R C:Int} {ac:Option Addr} {n cc:Nat} (h:RQ w R C ac n cc W):W.cell? ⟨w.heap.size,0,none⟩=some (.int .i64 R)∧W.cell? ⟨w.heap.size,1,none⟩=some (.int .i64 C)∧W.cell? ⟨w.heap.size,2,none⟩=some (.slice ac n cc) :=
 ⟨cellB h.b0,cellB h.b0,cellB h.b0⟩
def intAt (W:World) (b o:Nat):Int:=match W.cell? ⟨b,o,none⟩ with | some (.int _ v)=>v | _=>0
def partIn (W:World) (b:Nat):GC:=⟨intAt W b 0,intAt W b 1,intAt W b 2,intAt W b 3,intAt W b 4⟩
theorem partIn_of {W:World} {b:Nat} {x:GC} (h:W.heap[b]?=some (gO x)):partIn W b=x:=by
 obtain ⟨⟨h0,h1,h2,h3,h4⟩,_⟩:=fiveQ h
 simp only [partIn,intAt,h0,h1,h2,h3,h4]

theorem pg5_raw {w:World} {g:Nat} {y:GC} (h:w.heap[g]?=some (gO y)) (x:GC):(((((w.setCell ⟨g,0,none⟩ (.int .i64 x.row)).setCell ⟨g,1,none⟩ (.int .i64 x.col)).setCell ⟨g,2,none⟩ (.int .i64 x.rows)).setCell ⟨g,3,none⟩ (.int .i64 x.cols)).setCell ⟨g,4,none⟩ (.int .i64 x.ins)).heap[g]?=some (gO x):=pg5_block h x
theorem diff_cases {a b:GC} (h:¬ a=b) (ha:a.ins=0) (hb:b.ins=0):(a.row == b.row)=false∨((a.row == b.row)=true∧(a.col == b.col)=false)∨((a.row == b.row)=true∧(a.col == b.col)=true∧(a.rows == b.rows)=false)∨((a.row == b.row)=true∧(a.col == b.col)=true∧(a.rows == b.rows)=true∧(a.cols == b.cols)=false):=by
 obtain ⟨a0,a1,a2,a3,a4⟩:=a
 obtain ⟨b0,b1,b2,b3,b4⟩:=b
 simp only [GC.mk.injEq,beq_iff_eq,beq_eq_false_iff_ne] at *
 omega
theorem box_keptQ {W W2:World} {b:Nat} {o:Obj} (h:W.heap[b]?=some o) (hb:Below W.heap.size W W2):W2.heap[b]?=some o:=(hb.block b (Array.getElem?_eq_some_iff.1 h).1).trans h
structure QgM (nb qi offi i j len cc:Nat) (ci cj s:GC) (W3:World) (L:Nat→Bool) (W:World) (v8 v30 v31 v32 v33 v34 v35 v36 v37 v38 v39 v40:Value):Prop where
 f0:L 0=true→v30=.pointer (some ⟨nb,2,none⟩)
 f1:L 1=true→v31=.slice (some ⟨qi,offi,none⟩) len cc
 f2:L 2=true→v32=.int .i64 i
 f3:L 3=true→v33=.pointer (some ⟨qi,offi+i * 5,none⟩)
 f4:L 4=true→v34=.agg #[.int .i64 ci.row,.int .i64 ci.col,.int .i64 ci.rows,.int .i64 ci.cols,.int .i64 ci.ins]
 f5:L 5=true→v35=.pointer (some ⟨nb,2,none⟩)
 f6:L 6=true→v36=.slice (some ⟨qi,offi,none⟩) len cc
 f7:L 7=true→v37=.int .i64 j
 f8:L 8=true→v38=.pointer (some ⟨qi,offi+j * 5,none⟩)
 f9:L 9=true→v39=.agg #[.int .i64 cj.row,.int .i64 cj.col,.int .i64 cj.rows,.int .i64 cj.cols,.int .i64 cj.ins]
 f10:L 10=true→v40=.agg #[.int .i64 s.row,.int .i64 s.col,.int .i64 s.rows,.int .i64 s.cols,.int .i64 s.ins]
 f11:L 11=true→L 12=false→∃ b,v8=.pointer (some ⟨b,0,none⟩)∧W3.heap.size≤b∧W.heap[b]?=some (gO dG)
 f12:L 12=true→∃ b,v8=.pointer (some ⟨b,0,none⟩)∧W3.heap.size≤b∧W.heap[b]?=some (gO s)
 b:L 12=false→Below W3.heap.size W3 W
 bb:Below W3.heap.size W3 W
set_option maxRecDepth 100000 in
set_option maxHeartbeats 1000000 in
theorem implQryRange (R C:Int) (ac:Option Addr) (cc:Nat) (gs:List GC) (a b:Int) (w:World) {z:Nat} (h:GsAt w z (.slice ac gs.length cc) gs) :
  Calls Try.prog 9 #[.agg #[.int .i64 R,.int .i64 C,.slice ac gs.length cc],.int .i64 a,.int .i64 b] w fun e w'=>e=.returned (gV (rngF ⟨R,C,gs⟩ a b))∧Below w.heap.size w w':=by
 have H:=Hid.intro h
 obtain ⟨_,_,_,hlen⟩:=At.form h
 unfold maxLen at hlen
 clear h
 have Q0:=Hid.intro (RQ.new w R C ac gs.length cc)
 have KO:=Hid.intro (implGrdOk R C ac cc gs _ (H.out.kept Q0.out.below))
 have KA:=Hid.intro (within_any a 0 ((gs.length:Int) - 1))
 have KB:=Hid.intro (within_any b 0 ((gs.length:Int) - 1))
 cases hok:okB ⟨R,C,gs⟩ with
 | false =>
  have HF:=Hid.intro (rngF_no1 (a:=a) (b:=b) hok)
  rw [hok] at KO
  clear hok
  go_enter Try.func9,Try.ntmps9
  go_wp2_with fail
  refine KO.out.mono ?_
  rintro e w1 ⟨rfl,hb1⟩
  have Q1:=Hid.intro (Q0.out.kept hb1)
  clear hb1 KO Q0
  obtain ⟨⟨c0,c1,c2,c3,c4⟩,f0,f1,f2,f3,f4⟩:=fiveQ Q1.out.b1
  obtain ⟨⟨p0,p1,p2,p3,p4⟩,_⟩:=fiveQ (pg5_block Q1.out.b1 dG)
  have K:=Hid.intro (pg5_below Q1.out.below (g:=w.heap.size+1) (by omega) dG)
  simp only [pg5,dG] at p0 p1 p2 p3 p4 K
  clear Q1
  go_wp2
  exact bodyPost_ret (v:=gV dG) (by simp [results,Try.results9,go_sem,p0,p1,p2,p3,p4,dG]) rfl ⟨by rw [HF.out],K.out⟩
 | true =>
  rw [hok] at KO
  cases hA:inB a 0 ((gs.length:Int) - 1) with
  | false =>
   have HF:=Hid.intro (rngF_no2 (g:=⟨R,C,gs⟩) (a:=a) (b:=b) hA)
   rw [hA] at KA
   clear hok hA
   go_enter Try.func9,Try.ntmps9
   go_wp2_with fail
   refine KO.out.mono ?_
   rintro e w1 ⟨rfl,hb1⟩
   have Q1:=Hid.intro (Q0.out.kept hb1)
   clear hb1 KO Q0
   go_wp2_with fail
   refine (KA.out _).mono ?_
   rintro e w1 ⟨rfl,rfl⟩
   obtain ⟨⟨c0,c1,c2,c3,c4⟩,f0,f1,f2,f3,f4⟩:=fiveQ Q1.out.b1
   obtain ⟨⟨p0,p1,p2,p3,p4⟩,_⟩:=fiveQ (pg5_block Q1.out.b1 dG)
   have K:=Hid.intro (pg5_below Q1.out.below (g:=w.heap.size+1) (by omega) dG)
   simp only [pg5,dG] at p0 p1 p2 p3 p4 K
   clear Q1
   go_wp2
   exact bodyPost_ret (v:=gV dG) (by simp [results,Try.results9,go_sem,p0,p1,p2,p3,p4,dG]) rfl ⟨by rw [HF.out],K.out⟩
  | true =>
   rw [hA] at KA
   cases hB:inB b 0 ((gs.length:Int) - 1) with
   | false =>
    have HF:=Hid.intro (rngF_no3 (g:=⟨R,C,gs⟩) (a:=a) (b:=b) hB)
    rw [hB] at KB
    clear hok hA hB
    go_enter Try.func9,Try.ntmps9
    go_wp2_with fail
    refine KO.out.mono ?_
    rintro e w1 ⟨rfl,hb1⟩
    have Q1:=Hid.intro (Q0.out.kept hb1)
    clear hb1 KO Q0
    go_wp2_with fail
    refine (KA.out _).mono ?_
    rintro e w1 ⟨rfl,rfl⟩
    go_wp2_with fail
    refine (KB.out _).mono ?_
    rintro e w1 ⟨rfl,rfl⟩
    obtain ⟨⟨c0,c1,c2,c3,c4⟩,f0,f1,f2,f3,f4⟩:=fiveQ Q1.out.b1
    obtain ⟨⟨p0,p1,p2,p3,p4⟩,_⟩:=fiveQ (pg5_block Q1.out.b1 dG)
    have K:=Hid.intro (pg5_below Q1.out.below (g:=w.heap.size+1) (by omega) dG)
    simp only [pg5,dG] at p0 p1 p2 p3 p4 K
    clear Q1
    go_wp2
    exact bodyPost_ret (v:=gV dG) (by simp [results,Try.results9,go_sem,p0,p1,p2,p3,p4,dG]) rfl ⟨by rw [HF.out],K.out⟩
   | true =>
    rw [hB] at KB
    have hF:=rngF_ok (g:=⟨R,C,gs⟩) hok hA hB
    have hfit:=ok_fit hok
    obtain ⟨hR,hC,hn⟩:=ok_len hok
    simp only at hF hfit hR hC hn
    obtain ⟨i,rfl⟩:∃ i:Nat,a=i:=⟨a.toNat,by simp [inB] at hA;omega⟩
    obtain ⟨j,rfl⟩:∃ j:Nat,b=j:=⟨b.toNat,by simp [inB] at hB;omega⟩
    have hi:i < gs.length:=by simp [inB] at hA;omega
    have hj:j < gs.length:=by simp [inB] at hB;omega
    rw [Int.toNat_natCast,Int.toNat_natCast] at hF
    have HF:=Hid.intro hF
    have hfi:=hfit _ (mem_getD hi)
    have hfj:=hfit _ (mem_getD hj)
    have hfs:=span_fit hfi hfj
    have KL:=Hid.intro (leastWith_any _ _ (fitP_sm hfi hR hC) (fitP_sm hfj hR hC))
    clear hok hA hB hF
    go_enter Try.func9,Try.ntmps9
    go_wp2_with fail
    refine KO.out.mono ?_
    rintro e w1 ⟨rfl,hb1⟩
    have Q1:=Hid.intro (Q0.out.kept hb1)
    clear hb1 KO Q0
    go_wp2_with fail
    refine (KA.out _).mono ?_
    rintro e w1 ⟨rfl,rfl⟩
    go_wp2_with fail
    refine (KB.out _).mono ?_
    rintro e w1 ⟨rfl,rfl⟩
    obtain ⟨q0,q1,q2⟩:=Q1.out.cells
    obtain ⟨qi,offi,capi,ei,hi1,hi2,hbi,hxi,_⟩:=At.get (H.out.kept Q1.out.below) hi
    simp only [Value.slice.injEq,true_and] at ei
    obtain ⟨rfl,rfl⟩:=ei
    obtain ⟨qj,offj,capj,ej,hj1,hj2,hbj,hxj,_⟩:=At.get (H.out.kept Q1.out.below) hj
    simp only [Value.slice.injEq,Option.some.injEq,Addr.mk.injEq,and_true,true_and] at ej
    obtain ⟨⟨rfl,rfl⟩,rfl⟩:=ej
    unfold maxLen at hi2
    clear hi1 hj1 hj2
    generalize hci:gs.getD i dG=ci at hxi hfi KL HF hfs
    generalize hcj:gs.getD j dG=cj at hxj hfj KL HF hfs
    obtain ⟨x0,x1,x2,x3,x4⟩:=hxi
    obtain ⟨y0,y1,y2,y3,y4⟩:=hxj
    go_upto_region 4 with fail
    have hmx:Try.prog.follows .mixedOrders=true:=by kernel_rfl
    have HI:Hid (_∧_∧_∧_∧_):=Hid.intro ⟨x0,x1,x2,x3,x4⟩
    have HJ:Hid (_∧_∧_∧_∧_):=Hid.intro ⟨y0,y1,y2,y3,y4⟩
    have HQ2:=Hid.intro q2
    have hlt1:=Q1.out.lt
    have hln:w.heap.size < w1.heap.size:=by omega
    have hlq:qi < w1.heap.size:=hbi
    generalize hsp:spanG ci cj=s at KL HF hfs
    have HIns:Hid (s.ins=0):=by show _=_;rw [← hsp];rfl
    clear hsp x0 x1 x2 x3 x4 y0 y1 y2 y3 y4 q0 q1 q2 hbi hbj
    refine wp_region_inv2 (fun L act W=>∃ v8 v30 v31 v32 v33 v34 v35 v36 v37 v38 v39 v40:Value,act=⟨#[.agg #[.int .i64 R,.int .i64 C,.slice (some ⟨qi,offi,none⟩) gs.length cc],.int .i64 i,.int .i64 j,.pointer (some ⟨w.heap.size,0,none⟩),undef,undef,.pointer (some ⟨w.heap.size+1,0,none⟩),.int .i64 ((gs.length:Int) - 1),v8,undef,.pointer (some ⟨w.heap.size,2,none⟩),.slice (some ⟨qi,offi,none⟩) gs.length cc,.int .i64 gs.length,.int .i64 ((gs.length:Int) - 1),.agg #[.int .i64 R,.int .i64 C,.slice (some ⟨qi,offi,none⟩) gs.length cc],.bool true,.bool false,.bool false,.int .i64 i,.int .i64 ((gs.length:Int) - 1),.bool true,.bool false,.bool false,.bool false,.int .i64 j,.int .i64 ((gs.length:Int) - 1),.bool true,.bool false,.bool false,undef,v30,v31,v32,v33,v34,v35,v36,v37,v38,v39,v40,undef,undef,undef,undef,undef,undef,undef,undef],[]⟩∧QgM w.heap.size qi offi i j gs.length cc ci cj s w1 L W v8 v30 v31 v32 v33 v34 v35 v36 v37 v38 v39 v40) hmx (by kernel_rfl) ?hs ?hd ?h0
    case h0=>exact ⟨_,_,_,_,_,_,_,_,_,_,_,_,rfl,⟨(fun h=>by cases h),(fun h=>by cases h),(fun h=>by cases h),(fun h=>by cases h),(fun h=>by cases h),(fun h=>by cases h),(fun h=>by cases h),(fun h=>by cases h),(fun h=>by cases h),(fun h=>by cases h),(fun h=>by cases h),(fun h=>by cases h),(fun h=>by cases h),(fun _=>k_drew (Below.refl _ _)),k_drew (Below.refl _ _)⟩⟩
    case hd =>
     intro L act W hJ hall
     obtain ⟨v8,v30,v31,v32,v33,v34,v35,v36,v37,v38,v39,v40,ha,J⟩:=hJ
     subst ha
     obtain ⟨xb,rfl,hbw,hbk⟩:=J.f12 (hall 12 (by decide))
     obtain rfl:=J.f0 (hall 0 (by decide))
     obtain rfl:=J.f1 (hall 1 (by decide))
     obtain rfl:=J.f2 (hall 2 (by decide))
     obtain rfl:=J.f3 (hall 3 (by decide))
     obtain rfl:=J.f4 (hall 4 (by decide))
     obtain rfl:=J.f5 (hall 5 (by decide))
     obtain rfl:=J.f6 (hall 6 (by decide))
     obtain rfl:=J.f7 (hall 7 (by decide))
     obtain rfl:=J.f8 (hall 8 (by decide))
     obtain rfl:=J.f9 (hall 9 (by decide))
     obtain rfl:=J.f10 (hall 10 (by decide))
     have hb:=J.bb
     have Q2:=Hid.intro (Q1.out.kept hb)
     have X2:=Hid.intro hbk
     have hxb:w.heap.size+1 < xb:=by omega
     clear J hall hb hbk hbw HI HJ HQ2 hlq hln hlt1 KL Q1
     rename World=>w2
     have Y2:Hid (inG s s∧(∀ z,Closed2 gs z→inG s z→inG s z)∧s.ins=0∧FitP R C s):=Hid.intro ⟨in_refl _,fun _ _ h=>h,HIns.out,hfs⟩
     clear hfs hfi hfj KA KB hi hj
     go_wp2_with fail
     go_loopw [9] (fun _ W=>∃ y:GC,Hid (W.heap[xb]?=some (gO y))∧Hid (RQ w R C (some ⟨qi,offi,none⟩) gs.length cc W)∧Hid (inG s y∧(∀ z,Closed2 gs z→inG s z→inG y z)∧y.ins=0∧FitP R C y)) (fun _ W=>gs.length - cntG gs (partIn W xb))
     case atStart=>exact ⟨s,X2,Q2,Y2⟩
     case round =>
      clear X2 Q2 Y2
      obtain ⟨y,X,Q,Y⟩:=hrel
      have KW:=Hid.intro (withCellsOf_any R C (some ⟨qi,offi,none⟩) cc gs y hR hC hfit Y.out.2.2.2 _ (H.out.kept Q.out.below))
      have HG:=Hid.intro (roundP_grow (gs:=gs) Y.out.2.2.1)
      have HM:=Hid.intro (partIn_of X.out)
      obtain ⟨q0,q1,q2⟩:=Q.out.cells
      obtain ⟨⟨x0,x1,x2,x3,x4⟩,_⟩:=fiveQ X.out
      have hl1:xb < wr.heap.size:=(Array.getElem?_eq_some_iff.1 X.out).1
      have hl2:=Q.out.lt
      by_cases he:roundP gs y=y
      ·rw [he] at KW
       have HE:=Hid.intro (range_is HIns.out Y.out.1 Y.out.2.1 Y.out.2.2.1 he)
       clear he HG HM
       go_wp2_with fail
       refine KW.out.mono ?_
       rintro e W5 ⟨rfl,hb5⟩
       have Q6:=Hid.intro ((Q.out.kept hb5).kept (k_alloc (Below.refl _ _) (gO y)))
       have X6:=Hid.intro ((box_keptQ X.out hb5).trans rfl)
       have X7:=box_keptQ X6.out (k_alloc (Below.refl _ _) (gO y))
       have N7:=newestB W5 (gO y)
       obtain ⟨⟨u0,u1,u2,u3,u4⟩,_⟩:=fiveQ X7
       obtain ⟨⟨n0,n1,n2,n3,n4⟩,_⟩:=fiveQ N7
       obtain ⟨⟨c0,c1,c2,c3,c4⟩,f0,f1,f2,f3,f4⟩:=fiveQ Q6.out.b1
       obtain ⟨⟨p0,p1,p2,p3,p4⟩,_⟩:=fiveQ (pg5_block Q6.out.b1 y)
       have K:=Hid.intro (pg5_below Q6.out.below (g:=w.heap.size+1) (by omega) y)
       unfold pg5 at p0 p1 p2 p3 p4 K
       clear hb5 KW X7 N7 q0 q1 q2 x0 x1 x2 x3 x4
       go_wp2
       exact bodyPost_ret (v:=gV y) (by simp [results,Try.results9,go_sem,p0,p1,p2,p3,p4]) rfl ⟨by rw [HF.out,← HE.out],K.out⟩
      ·have HN:=Hid.intro (fun hc:Closed2 gs y=>he (HG.out.fix hc Y.out.2.2.1))
       have HL:=Hid.intro (HG.out.more HN.out)
       have Y3:Hid (inG s (roundP gs y)∧(∀ z,Closed2 gs z→inG s z→inG (roundP gs y) z)∧(roundP gs y).ins=0∧FitP R C (roundP gs y)):=Hid.intro ⟨in_trans Y.out.1 HG.out.ge,fun z hz hs=>HG.out.le z hz (Y.out.2.1 z hz hs),HG.out.ins,foldP_fit y gs y hfit Y.out.2.2.2⟩
       have hdf:=diff_cases he HG.out.ins Y.out.2.2.1
       have hcn:=cntG_le gs (roundP gs y)
       clear he HG HN Y
       generalize roundP gs y=d at KW HL Y3 hdf hcn
       have HMs:Hid (∀ W:World,W.heap[xb]?=some (gO d)→gs.length - cntG gs (partIn W xb) < gs.length - cntG gs (partIn wr xb)):=Hid.intro (fun W hW=>by rw [partIn_of hW,HM.out];have:=HL.out;omega)
       clear HL HM hcn
       rcases hdf with d0 | ⟨d0,d1⟩ | ⟨d0,d1,d2⟩ | ⟨d0,d1,d2,d3⟩
       all_goals
        go_wp2_with fail
        refine KW.out.mono ?_
        rintro e W5 ⟨rfl,hb5⟩
        have Q6:=Hid.intro ((Q.out.kept hb5).kept (k_alloc (Below.refl _ _) (gO d)))
        have X6:=Hid.intro ((box_keptQ X.out hb5).trans rfl)
        have X7:=box_keptQ X6.out (k_alloc (Below.refl _ _) (gO d))
        have N7:=newestB W5 (gO d)
        have Q8:=Hid.intro (Q6.out.put hxb d)
        have X8:=Hid.intro (pg5_block X7 d)
        have M8:=Hid.intro (HMs.out _ X8.out)
        obtain ⟨⟨u0,u1,u2,u3,u4⟩,f0,f1,f2,f3,f4⟩:=fiveQ X7
        obtain ⟨⟨n0,n1,n2,n3,n4⟩,_⟩:=fiveQ N7
        unfold pg5 at Q8 X8 M8
        clear hb5 KW X7 N7 q0 q1 q2 x0 x1 x2 x3 x4 HMs
        go_wp2
        go_roundw
        case rel=>exact ⟨d,X8,Q8,Y3⟩
        case measure=>exact M8.out
    case hs =>
     intro L act W i o hJ hcl ho hLi haft K hK
     obtain ⟨v8,v30,v31,v32,v33,v34,v35,v36,v37,v38,v39,v40,ha,J⟩:=hJ
     subst ha
     have hi':i < 13:=by
      have:=(Array.getElem?_eq_some_iff.1 ho).1
      simpa using this
     rcases (by omega:i=0∨i=1∨i=2∨i=3∨i=4∨i=5∨i=6∨i=7∨i=8∨i=9∨i=10∨i=11∨i=12) with rfl | rfl | rfl | rfl | rfl | rfl | rfl | rfl | rfl | rfl | rfl | rfl | rfl
     all_goals
      simp only [List.getElem?_toArray,List.getElem?_cons_zero,List.getElem?_cons_succ,Option.some.injEq] at ho
      subst ho
      clear hi'
     ·skip
      have hN:=(hcl 12 10 (by kernel_rfl) (hcl 10 4 (by kernel_rfl) (hcl 4 3 (by kernel_rfl) (hcl 3 1 (by kernel_rfl) (hcl 1 0 (by kernel_rfl) hLi)))))
      have hB:=J.b hN
      go_simp
      exact hK _ _ ⟨_,_,_,_,_,_,_,_,_,_,_,_,rfl,⟨(fun _=>rfl),(fun h=>absurd (((hcl 1 0 (by kernel_rfl) hLi)).symm.trans (un h)) (by simp)),(fun h=>J.f2 (un h)),(fun h=>absurd (((hcl 3 1 (by kernel_rfl) (hcl 1 0 (by kernel_rfl) hLi))).symm.trans (un h)) (by simp)),(fun h=>absurd (((hcl 4 3 (by kernel_rfl) (hcl 3 1 (by kernel_rfl) (hcl 1 0 (by kernel_rfl) hLi)))).symm.trans (un h)) (by simp)),(fun h=>J.f5 (un h)),(fun h=>J.f6 (un h)),(fun h=>J.f7 (un h)),(fun h=>J.f8 (un h)),(fun h=>J.f9 (un h)),(fun h=>absurd (((hcl 10 4 (by kernel_rfl) (hcl 4 3 (by kernel_rfl) (hcl 3 1 (by kernel_rfl) (hcl 1 0 (by kernel_rfl) hLi))))).symm.trans (un h)) (by simp)),(fun h h2=>(J.f11 (un h) (un h2))),(fun h=>absurd (((hcl 12 10 (by kernel_rfl) (hcl 10 4 (by kernel_rfl) (hcl 4 3 (by kernel_rfl) (hcl 3 1 (by kernel_rfl) (hcl 1 0 (by kernel_rfl) hLi)))))).symm.trans (un h)) (by simp)),(fun _=>hB),J.bb⟩⟩
     ·skip
      have hN:=(hcl 12 10 (by kernel_rfl) (hcl 10 4 (by kernel_rfl) (hcl 4 3 (by kernel_rfl) (hcl 3 1 (by kernel_rfl) hLi))))
      have hB:=J.b hN
      obtain rfl:=J.f0 (haft ⟨0,.data⟩ (by simp) rfl)
      have q2:=(hB.cell (p:=⟨w.heap.size,2,none⟩) hln).trans HQ2.out
      go_simp
      exact hK _ _ ⟨_,_,_,_,_,_,_,_,_,_,_,_,rfl,⟨(fun h=>J.f0 (un h)),(fun _=>rfl),(fun h=>J.f2 (un h)),(fun h=>absurd (((hcl 3 1 (by kernel_rfl) hLi)).symm.trans (un h)) (by simp)),(fun h=>absurd (((hcl 4 3 (by kernel_rfl) (hcl 3 1 (by kernel_rfl) hLi))).symm.trans (un h)) (by simp)),(fun h=>J.f5 (un h)),(fun h=>J.f6 (un h)),(fun h=>J.f7 (un h)),(fun h=>J.f8 (un h)),(fun h=>J.f9 (un h)),(fun h=>absurd (((hcl 10 4 (by kernel_rfl) (hcl 4 3 (by kernel_rfl) (hcl 3 1 (by kernel_rfl) hLi)))).symm.trans (un h)) (by simp)),(fun h h2=>(J.f11 (un h) (un h2))),(fun h=>absurd (((hcl 12 10 (by kernel_rfl) (hcl 10 4 (by kernel_rfl) (hcl 4 3 (by kernel_rfl) (hcl 3 1 (by kernel_rfl) hLi))))).symm.trans (un h)) (by simp)),(fun _=>hB),J.bb⟩⟩
     ·skip
      have hN:=(hcl 12 10 (by kernel_rfl) (hcl 10 4 (by kernel_rfl) (hcl 4 3 (by kernel_rfl) (hcl 3 2 (by kernel_rfl) hLi))))
      have hB:=J.b hN
      go_simp
      exact hK _ _ ⟨_,_,_,_,_,_,_,_,_,_,_,_,rfl,⟨(fun h=>J.f0 (un h)),(fun h=>J.f1 (un h)),(fun _=>rfl),(fun h=>absurd (((hcl 3 2 (by kernel_rfl) hLi)).symm.trans (un h)) (by simp)),(fun h=>absurd (((hcl 4 3 (by kernel_rfl) (hcl 3 2 (by kernel_rfl) hLi))).symm.trans (un h)) (by simp)),(fun h=>J.f5 (un h)),(fun h=>J.f6 (un h)),(fun h=>J.f7 (un h)),(fun h=>J.f8 (un h)),(fun h=>J.f9 (un h)),(fun h=>absurd (((hcl 10 4 (by kernel_rfl) (hcl 4 3 (by kernel_rfl) (hcl 3 2 (by kernel_rfl) hLi)))).symm.trans (un h)) (by simp)),(fun h h2=>(J.f11 (un h) (un h2))),(fun h=>absurd (((hcl 12 10 (by kernel_rfl) (hcl 10 4 (by kernel_rfl) (hcl 4 3 (by kernel_rfl) (hcl 3 2 (by kernel_rfl) hLi))))).symm.trans (un h)) (by simp)),(fun _=>hB),J.bb⟩⟩
     ·skip
      have hN:=(hcl 12 10 (by kernel_rfl) (hcl 10 4 (by kernel_rfl) (hcl 4 3 (by kernel_rfl) hLi)))
      have hB:=J.b hN
      obtain rfl:=J.f1 (haft ⟨1,.data⟩ (by simp) rfl)
      obtain rfl:=J.f2 (haft ⟨2,.data⟩ (by simp) rfl)
      go_simp
      exact hK _ _ ⟨_,_,_,_,_,_,_,_,_,_,_,_,rfl,⟨(fun h=>J.f0 (un h)),(fun h=>J.f1 (un h)),(fun h=>J.f2 (un h)),(fun _=>rfl),(fun h=>absurd (((hcl 4 3 (by kernel_rfl) hLi)).symm.trans (un h)) (by simp)),(fun h=>J.f5 (un h)),(fun h=>J.f6 (un h)),(fun h=>J.f7 (un h)),(fun h=>J.f8 (un h)),(fun h=>J.f9 (un h)),(fun h=>absurd (((hcl 10 4 (by kernel_rfl) (hcl 4 3 (by kernel_rfl) hLi))).symm.trans (un h)) (by simp)),(fun h h2=>(J.f11 (un h) (un h2))),(fun h=>absurd (((hcl 12 10 (by kernel_rfl) (hcl 10 4 (by kernel_rfl) (hcl 4 3 (by kernel_rfl) hLi)))).symm.trans (un h)) (by simp)),(fun _=>hB),J.bb⟩⟩
     ·skip
      have hN:=(hcl 12 10 (by kernel_rfl) (hcl 10 4 (by kernel_rfl) hLi))
      have hB:=J.b hN
      obtain rfl:=J.f3 (haft ⟨3,.data⟩ (by simp) rfl)
      have q0:=(hB.cell (p:=⟨qi,offi+i * 5,none⟩) hlq).trans HI.out.1
      have q1:=(hB.cell (p:=⟨qi,offi+i * 5+1,none⟩) hlq).trans HI.out.2.1
      have q2:=(hB.cell (p:=⟨qi,offi+i * 5+2,none⟩) hlq).trans HI.out.2.2.1
      have q3:=(hB.cell (p:=⟨qi,offi+i * 5+3,none⟩) hlq).trans HI.out.2.2.2.1
      have q4:=(hB.cell (p:=⟨qi,offi+i * 5+4,none⟩) hlq).trans HI.out.2.2.2.2
      go_simp
      exact hK _ _ ⟨_,_,_,_,_,_,_,_,_,_,_,_,rfl,⟨(fun h=>J.f0 (un h)),(fun h=>J.f1 (un h)),(fun h=>J.f2 (un h)),(fun h=>J.f3 (un h)),(fun _=>rfl),(fun h=>J.f5 (un h)),(fun h=>J.f6 (un h)),(fun h=>J.f7 (un h)),(fun h=>J.f8 (un h)),(fun h=>J.f9 (un h)),(fun h=>absurd (((hcl 10 4 (by kernel_rfl) hLi)).symm.trans (un h)) (by simp)),(fun h h2=>(J.f11 (un h) (un h2))),(fun h=>absurd (((hcl 12 10 (by kernel_rfl) (hcl 10 4 (by kernel_rfl) hLi))).symm.trans (un h)) (by simp)),(fun _=>hB),J.bb⟩⟩
     ·skip
      have hN:=(hcl 12 10 (by kernel_rfl) (hcl 10 9 (by kernel_rfl) (hcl 9 8 (by kernel_rfl) (hcl 8 6 (by kernel_rfl) (hcl 6 5 (by kernel_rfl) hLi)))))
      have hB:=J.b hN
      go_simp
      exact hK _ _ ⟨_,_,_,_,_,_,_,_,_,_,_,_,rfl,⟨(fun h=>J.f0 (un h)),(fun h=>J.f1 (un h)),(fun h=>J.f2 (un h)),(fun h=>J.f3 (un h)),(fun h=>J.f4 (un h)),(fun _=>rfl),(fun h=>absurd (((hcl 6 5 (by kernel_rfl) hLi)).symm.trans (un h)) (by simp)),(fun h=>J.f7 (un h)),(fun h=>absurd (((hcl 8 6 (by kernel_rfl) (hcl 6 5 (by kernel_rfl) hLi))).symm.trans (un h)) (by simp)),(fun h=>absurd (((hcl 9 8 (by kernel_rfl) (hcl 8 6 (by kernel_rfl) (hcl 6 5 (by kernel_rfl) hLi)))).symm.trans (un h)) (by simp)),(fun h=>absurd (((hcl 10 9 (by kernel_rfl) (hcl 9 8 (by kernel_rfl) (hcl 8 6 (by kernel_rfl) (hcl 6 5 (by kernel_rfl) hLi))))).symm.trans (un h)) (by simp)),(fun h h2=>(J.f11 (un h) (un h2))),(fun h=>absurd (((hcl 12 10 (by kernel_rfl) (hcl 10 9 (by kernel_rfl) (hcl 9 8 (by kernel_rfl) (hcl 8 6 (by kernel_rfl) (hcl 6 5 (by kernel_rfl) hLi)))))).symm.trans (un h)) (by simp)),(fun _=>hB),J.bb⟩⟩
     ·skip
      have hN:=(hcl 12 10 (by kernel_rfl) (hcl 10 9 (by kernel_rfl) (hcl 9 8 (by kernel_rfl) (hcl 8 6 (by kernel_rfl) hLi))))
      have hB:=J.b hN
      obtain rfl:=J.f5 (haft ⟨5,.data⟩ (by simp) rfl)
      have q2:=(hB.cell (p:=⟨w.heap.size,2,none⟩) hln).trans HQ2.out
      go_simp
      exact hK _ _ ⟨_,_,_,_,_,_,_,_,_,_,_,_,rfl,⟨(fun h=>J.f0 (un h)),(fun h=>J.f1 (un h)),(fun h=>J.f2 (un h)),(fun h=>J.f3 (un h)),(fun h=>J.f4 (un h)),(fun h=>J.f5 (un h)),(fun _=>rfl),(fun h=>J.f7 (un h)),(fun h=>absurd (((hcl 8 6 (by kernel_rfl) hLi)).symm.trans (un h)) (by simp)),(fun h=>absurd (((hcl 9 8 (by kernel_rfl) (hcl 8 6 (by kernel_rfl) hLi))).symm.trans (un h)) (by simp)),(fun h=>absurd (((hcl 10 9 (by kernel_rfl) (hcl 9 8 (by kernel_rfl) (hcl 8 6 (by kernel_rfl) hLi)))).symm.trans (un h)) (by simp)),(fun h h2=>(J.f11 (un h) (un h2))),(fun h=>absurd (((hcl 12 10 (by kernel_rfl) (hcl 10 9 (by kernel_rfl) (hcl 9 8 (by kernel_rfl) (hcl 8 6 (by kernel_rfl) hLi))))).symm.trans (un h)) (by simp)),(fun _=>hB),J.bb⟩⟩
     ·skip
      have hN:=(hcl 12 10 (by kernel_rfl) (hcl 10 9 (by kernel_rfl) (hcl 9 8 (by kernel_rfl) (hcl 8 7 (by kernel_rfl) hLi))))
      have hB:=J.b hN
      go_simp
      exact hK _ _ ⟨_,_,_,_,_,_,_,_,_,_,_,_,rfl,⟨(fun h=>J.f0 (un h)),(fun h=>J.f1 (un h)),(fun h=>J.f2 (un h)),(fun h=>J.f3 (un h)),(fun h=>J.f4 (un h)),(fun h=>J.f5 (un h)),(fun h=>J.f6 (un h)),(fun _=>rfl),(fun h=>absurd (((hcl 8 7 (by kernel_rfl) hLi)).symm.trans (un h)) (by simp)),(fun h=>absurd (((hcl 9 8 (by kernel_rfl) (hcl 8 7 (by kernel_rfl) hLi))).symm.trans (un h)) (by simp)),(fun h=>absurd (((hcl 10 9 (by kernel_rfl) (hcl 9 8 (by kernel_rfl) (hcl 8 7 (by kernel_rfl) hLi)))).symm.trans (un h)) (by simp)),(fun h h2=>(J.f11 (un h) (un h2))),(fun h=>absurd (((hcl 12 10 (by kernel_rfl) (hcl 10 9 (by kernel_rfl) (hcl 9 8 (by kernel_rfl) (hcl 8 7 (by kernel_rfl) hLi))))).symm.trans (un h)) (by simp)),(fun _=>hB),J.bb⟩⟩
     ·skip
      have hN:=(hcl 12 10 (by kernel_rfl) (hcl 10 9 (by kernel_rfl) (hcl 9 8 (by kernel_rfl) hLi)))
      have hB:=J.b hN
      obtain rfl:=J.f6 (haft ⟨6,.data⟩ (by simp) rfl)
      obtain rfl:=J.f7 (haft ⟨7,.data⟩ (by simp) rfl)
      go_simp
      exact hK _ _ ⟨_,_,_,_,_,_,_,_,_,_,_,_,rfl,⟨(fun h=>J.f0 (un h)),(fun h=>J.f1 (un h)),(fun h=>J.f2 (un h)),(fun h=>J.f3 (un h)),(fun h=>J.f4 (un h)),(fun h=>J.f5 (un h)),(fun h=>J.f6 (un h)),(fun h=>J.f7 (un h)),(fun _=>rfl),(fun h=>absurd (((hcl 9 8 (by kernel_rfl) hLi)).symm.trans (un h)) (by simp)),(fun h=>absurd (((hcl 10 9 (by kernel_rfl) (hcl 9 8 (by kernel_rfl) hLi))).symm.trans (un h)) (by simp)),(fun h h2=>(J.f11 (un h) (un h2))),(fun h=>absurd (((hcl 12 10 (by kernel_rfl) (hcl 10 9 (by kernel_rfl) (hcl 9 8 (by kernel_rfl) hLi)))).symm.trans (un h)) (by simp)),(fun _=>hB),J.bb⟩⟩
     ·skip
      have hN:=(hcl 12 10 (by kernel_rfl) (hcl 10 9 (by kernel_rfl) hLi))
      have hB:=J.b hN
      obtain rfl:=J.f8 (haft ⟨8,.data⟩ (by simp) rfl)
      have q0:=(hB.cell (p:=⟨qi,offi+j * 5,none⟩) hlq).trans HJ.out.1
      have q1:=(hB.cell (p:=⟨qi,offi+j * 5+1,none⟩) hlq).trans HJ.out.2.1
      have q2:=(hB.cell (p:=⟨qi,offi+j * 5+2,none⟩) hlq).trans HJ.out.2.2.1
      have q3:=(hB.cell (p:=⟨qi,offi+j * 5+3,none⟩) hlq).trans HJ.out.2.2.2.1
      have q4:=(hB.cell (p:=⟨qi,offi+j * 5+4,none⟩) hlq).trans HJ.out.2.2.2.2
      go_simp
      exact hK _ _ ⟨_,_,_,_,_,_,_,_,_,_,_,_,rfl,⟨(fun h=>J.f0 (un h)),(fun h=>J.f1 (un h)),(fun h=>J.f2 (un h)),(fun h=>J.f3 (un h)),(fun h=>J.f4 (un h)),(fun h=>J.f5 (un h)),(fun h=>J.f6 (un h)),(fun h=>J.f7 (un h)),(fun h=>J.f8 (un h)),(fun _=>rfl),(fun h=>absurd (((hcl 10 9 (by kernel_rfl) hLi)).symm.trans (un h)) (by simp)),(fun h h2=>(J.f11 (un h) (un h2))),(fun h=>absurd (((hcl 12 10 (by kernel_rfl) (hcl 10 9 (by kernel_rfl) hLi))).symm.trans (un h)) (by simp)),(fun _=>hB),J.bb⟩⟩
     ·skip
      have hN:=(hcl 12 10 (by kernel_rfl) hLi)
      have hB:=J.b hN
      obtain rfl:=J.f4 (haft ⟨4,.data⟩ (by simp) rfl)
      obtain rfl:=J.f9 (haft ⟨9,.data⟩ (by simp) rfl)
      go_simp
      go_wp2_with (go_at_call 37;refine (KL.out _).mono ?_;rintro e W2 ⟨rfl,hb⟩)
      exact ⟨_,_,_,_,_,_,_,_,_,_,_,_,rfl,⟨(fun h=>J.f0 (un h)),(fun h=>J.f1 (un h)),(fun h=>J.f2 (un h)),(fun h=>J.f3 (un h)),(fun h=>J.f4 (un h)),(fun h=>J.f5 (un h)),(fun h=>J.f6 (un h)),(fun h=>J.f7 (un h)),(fun h=>J.f8 (un h)),(fun h=>J.f9 (un h)),(fun _=>rfl),(fun h h2=>((J.f11 (un h) (un h2))).elim fun b h=>⟨b,h.1,h.2.1,box_keptQ h.2.2 hb⟩),(fun h=>absurd (((hcl 12 10 (by kernel_rfl) hLi)).symm.trans (un h)) (by simp)),(fun _=>k_trans hB hb),k_trans J.bb hb⟩⟩
     ·skip
      have hN:=(hcl 12 11 (by kernel_rfl) hLi)
      have hB:=J.b hN
      go_simp
      exact hK _ _ ⟨_,_,_,_,_,_,_,_,_,_,_,_,rfl,⟨(fun h=>J.f0 (un h)),(fun h=>J.f1 (un h)),(fun h=>J.f2 (un h)),(fun h=>J.f3 (un h)),(fun h=>J.f4 (un h)),(fun h=>J.f5 (un h)),(fun h=>J.f6 (un h)),(fun h=>J.f7 (un h)),(fun h=>J.f8 (un h)),(fun h=>J.f9 (un h)),(fun h=>J.f10 (un h)),(fun _ _=>⟨_,rfl,hB.size,newestB _ _⟩),(fun h=>absurd (((hcl 12 11 (by kernel_rfl) hLi)).symm.trans (un h)) (by simp)),(fun _=>k_alloc hB _),k_alloc J.bb _⟩⟩
     ·skip
      have hN:=hLi
      have hB:=J.b hN
      obtain rfl:=J.f10 (haft ⟨10,.data⟩ (by simp) rfl)
      obtain ⟨b,rfl,hbw,hbk⟩:=J.f11 (haft ⟨11,.data⟩ (by simp) rfl) hLi
      have hB:=J.b hLi
      obtain ⟨⟨q0,q1,q2,q3,q4⟩,f0,f1,f2,f3,f4⟩:=fiveQ hbk
      go_simp
      exact hK _ _ ⟨_,_,_,_,_,_,_,_,_,_,_,_,rfl,⟨(fun h=>J.f0 (un h)),(fun h=>J.f1 (un h)),(fun h=>J.f2 (un h)),(fun h=>J.f3 (un h)),(fun h=>J.f4 (un h)),(fun h=>J.f5 (un h)),(fun h=>J.f6 (un h)),(fun h=>J.f7 (un h)),(fun h=>J.f8 (un h)),(fun h=>J.f9 (un h)),(fun h=>J.f10 (un h)),(fun _ h=>absurd (h.symm.trans upd_self) (by simp)),(fun _=>⟨b,rfl,hbw,pg5_raw hbk s⟩),(fun h=>absurd (h.symm.trans upd_self) (by simp)),k_set (k_set (k_set (k_set (k_set J.bb hbw _) hbw _) hbw _) hbw _) hbw _⟩⟩
end Go.Proofs.Ytggmjiddadjilaj
