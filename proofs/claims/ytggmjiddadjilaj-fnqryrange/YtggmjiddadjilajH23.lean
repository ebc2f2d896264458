/-
  PROVED HERE: what the program's meetsAlong and leastWith answer; nothing that was in memory is turned. Also: what the program's QryRange answers: the least part of a grid that has two cells, and of each cell all or nothing; nothing that was in memory is turned.
-/
import Derived.Test.YtggmjiddadjilajH22
import Derived.Test.YtggmjiddadjilajH6
import Derived.WalkLawsBesides
import Derived.WalkSpells
import Derived.Deep.RegionWith
import Derived.Deep.QuietTactic
import Derived.BigQuiet
import Derived.BigRegion
namespace Go.Proofs.Ytggmjiddadjilaj
open Go.RowKit

/-- numbers that are not great -/
def Sm4 (x:GC):Prop:=(0≤x.row∧x.row≤100000)∧(0≤x.col∧x.col≤100000)∧(0≤x.rows∧x.rows≤100000)∧(0≤x.cols∧x.cols≤100000)
theorem fitP_sm {R C:Int} {x:GC} (h:FitP R C x) (hR:R≤8) (hC:C≤94):Sm4 x:=by
 unfold FitP at h
 unfold Sm4
 omega
abbrev gV (x:GC):Value:=.agg #[.int .i64 x.row,.int .i64 x.col,.int .i64 x.rows,.int .i64 x.cols,.int .i64 x.ins]
abbrev gO (x:GC):Obj:=.cells #[.int .i64 x.row,.int .i64 x.col,.int .i64 x.rows,.int .i64 x.cols,.int .i64 x.ins] 29

set_option maxRecDepth 100000 in
set_option maxHeartbeats 400000 in
theorem meetsAlong_any (a b c d:Int) (ha:0≤a∧a≤100000) (hb:0≤b∧b≤100000) (hc:0≤c∧c≤100000) (hd:0≤d∧d≤100000) (w:World) :
  Calls Try.prog 72 #[.int .i64 a,.int .i64 b,.int .i64 c,.int .i64 d] w fun e w'=>e=.returned (.bool (decide (a < c+d) && decide (c < a+b)))∧w'=w:=by
 by_cases h1:a < c+d
 ·by_cases h2:c < a+b
  ·have HF:Hid ((decide (a < c+d) && decide (c < a+b))=true):=Hid.intro (by simp [h1,h2])
   go_enter Try.func72,Try.ntmps72
   go_wp2
   go_ret
   exact ⟨by rw [HF.out];rfl,rfl⟩
  ·have HF:Hid (decide (c < a+b)=false):=Hid.intro (decide_eq_false h2)
   go_enter Try.func72,Try.ntmps72
   go_wp2
   go_ret
   exact ⟨by rw [HF.out];rfl,rfl⟩
 ·have HF:Hid ((decide (a < c+d) && decide (c < a+b))=false):=Hid.intro (by simp [h1])
  go_enter Try.func72,Try.ntmps72
  go_wp2
  go_ret
  exact ⟨by rw [HF.out];rfl,rfl⟩

theorem retG {a b c d e a' b' c' d' e':Int} (h1:a=a') (h2:b=b') (h3:c=c') (h4:d=d') (h5:e=e'):Ending.returned (.agg #[.int .i64 a,.int .i64 b,.int .i64 c,.int .i64 d,.int .i64 e])=.returned (.agg #[.int .i64 a',.int .i64 b',.int .i64 c',.int .i64 d',.int .i64 e']):=by rw [h1,h2,h3,h4,h5]
set_option maxRecDepth 100000 in
set_option maxHeartbeats 1000000 in
theorem leastWith_any (a b:GC) (ha:Sm4 a) (hb:Sm4 b) (w:World) :
  Calls Try.prog 37 #[gV a,gV b] w fun e w'=>e=.returned (gV (spanG a b))∧Below w.heap.size w w':=by
 obtain ⟨a0,a1,a2,a3,a4⟩:=a
 obtain ⟨b0,b1,b2,b3,b4⟩:=b
 unfold Sm4 at ha hb
 simp only at ha hb
 obtain ⟨ha0,ha1,ha2,ha3⟩:=ha
 obtain ⟨hb0,hb1,hb2,hb3⟩:=hb
 unfold gV spanG
 simp only
 go_enter Try.func37,Try.ntmps37
 go_wp2_with fail
 go_region
 have e0:(if b0 < a0 then b0 else a0)=min a0 b0:=by omega
 have e1:(if b1 < a1 then b1 else a1)=min a1 b1:=by omega
 rw [e0,e1]
 have hm0:0≤min a0 b0∧min a0 b0≤100000:=by omega
 have hm1:0≤min a1 b1∧min a1 b1≤100000:=by omega
 clear e0 e1
 generalize hM0:min a0 b0=m0 at hm0 ⊢
 generalize hM1:min a1 b1=m1 at hm1 ⊢
 have HM0:=Hid.intro hM0
 have HM1:=Hid.intro hM1
 clear hM0 hM1
 go_wp2
 all_goals
  first
  | exact bodyPost_ret (v:=.agg #[.int .i64 m0,.int .i64 m1,.int .i64 (a0+a2 - m0),.int .i64 (a1+a3 - m1),.int .i64 0]) (by simp [results,Try.results37,go_sem]) rfl ⟨retG HM0.out.symm HM1.out.symm (by rw [HM0.out];omega) (by rw [HM1.out];omega) rfl,k_drew (k_alloc (k_alloc (k_alloc (Below.refl _ _) _) _) _)⟩
  | exact bodyPost_ret (v:=.agg #[.int .i64 m0,.int .i64 m1,.int .i64 (a0+a2 - m0),.int .i64 (b1+b3 - m1),.int .i64 0]) (by simp [results,Try.results37,go_sem]) rfl ⟨retG HM0.out.symm HM1.out.symm (by rw [HM0.out];omega) (by rw [HM1.out];omega) rfl,k_drew (k_alloc (k_alloc (k_alloc (Below.refl _ _) _) _) _)⟩
  | exact bodyPost_ret (v:=.agg #[.int .i64 m0,.int .i64 m1,.int .i64 (b0+b2 - m0),.int .i64 (a1+a3 - m1),.int .i64 0]) (by simp [results,Try.results37,go_sem]) rfl ⟨retG HM0.out.symm HM1.out.symm (by rw [HM0.out];omega) (by rw [HM1.out];omega) rfl,k_drew (k_alloc (k_alloc (k_alloc (Below.refl _ _) _) _) _)⟩
  | exact bodyPost_ret (v:=.agg #[.int .i64 m0,.int .i64 m1,.int .i64 (b0+b2 - m0),.int .i64 (b1+b3 - m1),.int .i64 0]) (by simp [results,Try.results37,go_sem]) rfl ⟨retG HM0.out.symm HM1.out.symm (by rw [HM0.out];omega) (by rw [HM1.out];omega) rfl,k_drew (k_alloc (k_alloc (k_alloc (Below.refl _ _) _) _) _)⟩
end Go.Proofs.Ytggmjiddadjilaj
namespace Go.Proofs.Ytggmjiddadjilaj
open Go.RowKit

/-- five cells of a block, one after the other -/
def pg5 (w:World) (g:Nat) (x:GC):World:=((((w.setCell ⟨g,0,none⟩ (.int .i64 x.row)).setCell ⟨g,1,none⟩ (.int .i64 x.col)).setCell ⟨g,2,none⟩ (.int .i64 x.rows)).setCell ⟨g,3,none⟩ (.int .i64 x.cols)).setCell ⟨g,4,none⟩ (.int .i64 x.ins)
theorem pg5_block {w:World} {g:Nat} {y:GC} (h:w.heap[g]?=some (gO y)) (x:GC):(pg5 w g x).heap[g]?=some (gO x):=by
 unfold pg5
 rw [setB (setB (setB (setB (setB h _) _) _) _) _]
 simp
theorem pg5_other {w:World} {g k:Nat} (hk:k ≠ g) (x:GC):(pg5 w g x).heap[k]?=w.heap[k]?:=by
 unfold pg5
 rw [Below.heap_setCell _ _ _ _ hk,Below.heap_setCell _ _ _ _ hk,Below.heap_setCell _ _ _ _ hk,Below.heap_setCell _ _ _ _ hk,Below.heap_setCell _ _ _ _ hk]
theorem pg5_below {a w:World} (h:Below a.heap.size a w) {g:Nat} (hg:a.heap.size≤g) (x:GC):Below a.heap.size a (pg5 w g x) :=
 k_set (k_set (k_set (k_set (k_set h (p:=⟨g,0,none⟩) hg _) (p:=⟨g,1,none⟩) hg _) (p:=⟨g,2,none⟩) hg _) (p:=⟨g,3,none⟩) hg _) (p:=⟨g,4,none⟩) hg _
theorem fiveQ {w:World} {g:Nat} {x:GC} (h:w.heap[g]?=some (gO x)) :
  (w.cell? ⟨g,0,none⟩=some (.int .i64 x.row)∧w.cell? ⟨g,1,none⟩=some (.int .i64 x.col)∧w.cell? ⟨g,2,none⟩=some (.int .i64 x.rows)∧w.cell? ⟨g,3,none⟩=some (.int .i64 x.cols)∧w.cell? ⟨g,4,none⟩=some (.int .i64 x.ins)) ∧
  w.frozen? ⟨g,0,none⟩=false∧w.frozen? ⟨g,1,none⟩=false∧w.frozen? ⟨g,2,none⟩=false∧w.frozen? ⟨g,3,none⟩=false∧w.frozen? ⟨g,4,none⟩=false :=
 ⟨⟨cellB h,cellB h,cellB h,cellB h,cellB h⟩,freeB h,freeB h,freeB h,freeB h,freeB h⟩
theorem meets_two (c x:GC):meetsB c x=((decide (c.row < x.row+x.rows) && decide (x.row < c.row+c.rows)) && (decide (c.col < x.col+x.cols) && decide (x.col < c.col+c.cols))):=by
 unfold meetsB
 simp only [Bool.and_assoc]
theorem four_new (w:World) (o0 o1 o2 o3:Obj):((((w.alloc o0).alloc o1).alloc o2).alloc o3).heap[w.heap.size]?=some o0∧((((w.alloc o0).alloc o1).alloc o2).alloc o3).heap[w.heap.size+1]?=some o1∧((((w.alloc o0).alloc o1).alloc o2).alloc o3).heap[w.heap.size+2]?=some o2∧((((w.alloc o0).alloc o1).alloc o2).alloc o3).heap[w.heap.size+3]?=some o3:=by
 have s0:(w.alloc o0).heap.size=w.heap.size+1:=by simp
 have s1:((w.alloc o0).alloc o1).heap.size=w.heap.size+2:=by simp
 have s2:(((w.alloc o0).alloc o1).alloc o2).heap.size=w.heap.size+3:=by simp
 have n1:=newestB (w.alloc o0) o1
 have n2:=newestB ((w.alloc o0).alloc o1) o2
 have n3:=newestB (((w.alloc o0).alloc o1).alloc o2) o3
 rw [s0] at n1
 rw [s1] at n2
 rw [s2] at n3
 exact ⟨(Below.heap_alloc _ _ _ (by omega)).trans ((Below.heap_alloc _ _ _ (by omega)).trans ((Below.heap_alloc _ _ _ (by omega)).trans (newestB w o0))),
  (Below.heap_alloc _ _ _ (by omega)).trans ((Below.heap_alloc _ _ _ (by omega)).trans n1),(Below.heap_alloc _ _ _ (by omega)).trans n2,n3⟩
/-- the boxes of withCellsOf, all along it -/
structure WX (w:World) (R C:Int) (ac:Option Addr) (n cc:Nat) (x gr:GC) (W:World):Prop where
 below:Below w.heap.size w W
 b0:W.heap[w.heap.size]?=some (.cells #[.int .i64 R,.int .i64 C,.slice ac n cc] 25)
 b1:W.heap[w.heap.size+1]?=some (gO x)
 b2:W.heap[w.heap.size+2]?=some (gO dG)
 b3:W.heap[w.heap.size+3]?=some (gO gr)
theorem WX.lt {w W:World} {R C:Int} {ac:Option Addr} {n cc:Nat} {x gr:GC} (h:WX w R C ac n cc x gr W):w.heap.size+3 < W.heap.size:=(Array.getElem?_eq_some_iff.1 h.b3).1
theorem WX.kept {w W W':World} {R C:Int} {ac:Option Addr} {n cc:Nat} {x gr:GC} (h:WX w R C ac n cc x gr W) (k:Below W.heap.size W W'):WX w R C ac n cc x gr W':=by
 have:=h.lt
 exact ⟨k_trans h.below k,(k.block _ (by omega)).trans h.b0,(k.block _ (by omega)).trans h.b1,(k.block _ (by omega)).trans h.b2,(k.block _ (by omega)).trans h.b3⟩
theorem WX.put {w W:World} {R C:Int} {ac:Option Addr} {n cc:Nat} {x gr:GC} (h:WX w R C ac n cc x gr W) (y:GC):WX w R C ac n cc x y (pg5 W (w.heap.size+3) y) :=
 ⟨pg5_below h.below (by omega) y,(pg5_other (by omega) y).trans h.b0,(pg5_other (by omega) y).trans h.b1,(pg5_other (by omega) y).trans h.b2,pg5_block h.b3 y⟩

set_option maxRecDepth 100000 in
set_option maxHeartbeats 1000000 in
theorem withCellsOf_any (R C:Int) (ac:Option Addr) (cc:Nat) (gs:List GC) (x:GC) (hR:R≤8) (hC:C≤94) (hg:∀ c ∈ gs,FitP R C c) (hx:FitP R C x) (w:World) {z:Nat} (h:GsAt w z (.slice ac gs.length cc) gs) :
  Calls Try.prog 38 #[.agg #[.int .i64 R,.int .i64 C,.slice ac gs.length cc],gV x] w fun e w'=>e=.returned (gV (roundP gs x))∧Below w.heap.size w w':=by
 have H:=Hid.intro h
 obtain ⟨_,_,_,hlen⟩:=At.form h
 unfold maxLen at hlen
 clear h
 have X0:Hid (WX w R C ac gs.length cc x x ((((w.alloc (.cells #[.int .i64 R,.int .i64 C,.slice ac gs.length cc] 25)).alloc (gO x)).alloc (gO dG)).alloc (gO x))):=Hid.intro (by
  obtain ⟨h0,h1,h2,h3⟩:=four_new w (.cells #[.int .i64 R,.int .i64 C,.slice ac gs.length cc] 25) (gO x) (gO dG) (gO x)
  exact ⟨k_alloc (k_alloc (k_alloc (k_alloc (Below.refl _ _) _) _) _) _,h0,h1,h2,h3⟩)
 go_enter Try.func38,Try.ntmps38
 go_wp2_with fail
 go_loopw [12] (fun i W=>∃ k:Nat,k≤gs.length∧i=.int .i64 k∧Hid (WX w R C ac gs.length cc x ((gs.take k).foldl (stepP x) x) W)) (fun i _=>gs.length - (intOf i).toNat)
 case atStart=>exact ⟨0,Nat.zero_le _,rfl,X0⟩
 case round =>
  clear X0
  obtain ⟨k,hk,rfl,X⟩:=hrel
  by_cases hlt:k < gs.length
  case neg =>
   obtain rfl:k=gs.length:=by omega
   rw [List.take_length] at X
   have hX:Hid (WX w R C ac gs.length cc x (roundP gs x) wr):=X
   clear X
   generalize hY:roundP gs x=y at hX
   have HY:=Hid.intro hY
   clear hY
   obtain ⟨⟨c0,c1,c2,c3,c4⟩,f0,f1,f2,f3,f4⟩:=fiveQ hX.out.b2
   obtain ⟨⟨d0,d1,d2,d3,d4⟩,_⟩:=fiveQ hX.out.b3
   have hP:=pg5_block hX.out.b2 y
   obtain ⟨⟨p0,p1,p2,p3,p4⟩,_⟩:=fiveQ hP
   have K:=Hid.intro (pg5_below hX.out.below (g:=w.heap.size+2) (by omega) y)
   unfold pg5 at p0 p1 p2 p3 p4 K
   clear hP
   go_wp2
   exact bodyPost_ret (v:=gV y) (by simp [results,Try.results38,go_sem,p0,p1,p2,p3,p4]) rfl ⟨by rw [HY.out],K.out⟩
  obtain ⟨q,off,cap',e',hc1,hc2,hbl,hxc,hs⟩:=At.get (H.out.kept X.out.below) hlt
  simp only [Value.slice.injEq,true_and] at e'
  obtain ⟨rfl,rfl⟩:=e'
  have hmem:gs.getD k dG ∈ gs:=by rw [List.getD_eq_getElem?_getD,List.getElem?_eq_getElem hlt];exact List.getElem_mem hlt
  have hfc:=hg _ hmem
  have HS:Hid ((gs.take (k+1)).foldl (stepP x) x=stepP x ((gs.take k).foldl (stepP x) x) (gs.getD k dG)):=by
   show _=_
   rw [List.take_succ_eq_append_getElem hlt,List.foldl_append]
   simp [List.getD,hlt]
  have hfg:=foldP_fit x (gs.take k) x (fun c hc=>hg c (List.mem_of_mem_take hc)) hx
  generalize (gs.take k).foldl (stepP x) x=y at X HS hfg
  generalize gs.getD k dG=c at hxc hs hfc HS
  obtain ⟨x0,x1,x2,x3,x4⟩:=hxc
  unfold maxLen at hc2
  obtain ⟨s0,s1,s2,s3⟩:=fitP_sm hfc hR hC
  obtain ⟨t0,t1,t2,t3⟩:=fitP_sm hx hR hC
  have KM:=Hid.intro (meetsAlong_any c.row c.rows x.row x.rows s0 s2 t0 t2)
  have KN:=Hid.intro (meetsAlong_any c.col c.cols x.col x.cols s1 s3 t1 t3)
  have KL:=Hid.intro (leastWith_any y c (fitP_sm hfg hR hC) (fitP_sm hfc hR hC))
  have hme:=meets_two c x
  have X1:=Hid.intro (X.out.kept (k_alloc (Below.refl _ _) (gO c)))
  have N1:=newestB wr (gO c)
  have hsz:=X.out.lt
  obtain ⟨q0,q1,q2⟩:wr.cell? ⟨w.heap.size,0,none⟩=_∧wr.cell? ⟨w.heap.size,1,none⟩=_∧wr.cell? ⟨w.heap.size,2,none⟩=_:=⟨cellB X.out.b0,cellB X.out.b0,cellB X.out.b0⟩
  obtain ⟨⟨p0,p1,p2,p3,p4⟩,_⟩:=fiveQ X1.out.b1
  clear hs s0 s1 s2 s3 t0 t1 t2 t3 hmem
  cases h1:(decide (c.row < x.row+x.rows) && decide (x.row < c.row+c.rows)) with
  | false =>
   rw [h1] at KM hme
   have HE:Hid (stepP x y c=y):=by show _=_;unfold stepP;rw [hme];rfl
   clear hme h1
   go_wp2_with fail
   refine (KM.out _).mono ?_
   rintro e w1 ⟨rfl,rfl⟩
   go_wp2
   go_roundw
   case rel=>exact ⟨k+1,by omega,by go_num,by rw [HS.out,HE.out];exact X1.out⟩
   case measure=>simp [intOf];omega
  | true =>
   rw [h1] at KM hme
   clear h1
   cases h2:(decide (c.col < x.col+x.cols) && decide (x.col < c.col+c.cols)) with
   | false =>
    rw [h2] at KN hme
    have HE:Hid (stepP x y c=y):=by show _=_;unfold stepP;rw [hme];rfl
    clear hme h2
    go_wp2_with fail
    refine (KM.out _).mono ?_
    rintro e w1 ⟨rfl,rfl⟩
    go_wp2_with fail
    refine (KN.out _).mono ?_
    rintro e w1 ⟨rfl,rfl⟩
    go_wp2
    go_roundw
    case rel=>exact ⟨k+1,by omega,by go_num,by rw [HS.out,HE.out];exact X1.out⟩
    case measure=>simp [intOf];omega
   | true =>
    rw [h2] at KN hme
    have HE:Hid (stepP x y c=spanG y c):=by show _=_;unfold stepP;rw [hme];rfl
    clear hme h2
    rw [HE.out] at HS
    clear HE
    generalize spanG y c=s at HS KL
    obtain ⟨⟨r0,r1,r2,r3,r4⟩,_⟩:=fiveQ X1.out.b3
    obtain ⟨⟨m0,m1,m2,m3,m4⟩,_⟩:=fiveQ N1
    go_wp2_with fail
    refine (KM.out _).mono ?_
    rintro e w1 ⟨rfl,rfl⟩
    go_wp2_with fail
    refine (KN.out _).mono ?_
    rintro e w1 ⟨rfl,rfl⟩
    go_wp2_with fail
    refine (KL.out _).mono ?_
    rintro e W5 ⟨rfl,hb5⟩
    have X5:=Hid.intro (X1.out.kept hb5)
    have X6:=Hid.intro (X5.out.put s)
    obtain ⟨⟨u0,u1,u2,u3,u4⟩,f0,f1,f2,f3,f4⟩:=fiveQ X5.out.b3
    unfold pg5 at X6
    clear hb5 X5 X1 X KL KM KN r0 r1 r2 r3 r4 m0 m1 m2 m3 m4 p0 p1 p2 p3 p4 q0 q1 q2 N1 x0 x1 x2 x3 x4
    go_wp2
    go_roundw
    case rel=>exact ⟨k+1,by omega,by go_num,by rw [HS.out];exact X6.out⟩
    case measure=>simp [intOf];omega

end Go.Proofs.Ytggmjiddadjilaj
