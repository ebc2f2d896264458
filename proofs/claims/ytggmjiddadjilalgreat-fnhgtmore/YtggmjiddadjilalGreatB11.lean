/-
  PROVED HERE: what the program's TxtLines answers: a text's lines, in new memory; nothing that was in memory is turned.
-/
import Derived.Test.YtggmjiddadjilalGreatB10
set_option maxRecDepth 1000000
set_option maxHeartbeats 40000000
namespace Go.Proofs.YtggmjiddadjilalGreat
open Value (int)
open IntKind (i64)
open Go.RowKit Go.Shelf Go.BigFrame
theorem zfe (f:FuncId):Fence.wide.fn f=True:=eq_true trivial
attribute [local go_sem] Oper.semAt_some zfe Oper.askedIn
theorem zfE:(Tryz.prog.info? 9).map (fun i=>(i.zero,i.size,i.bytes))=some (some (Value.string ⟨#[]⟩),1,16):=by kernel_rfl
theorem zdb {s:ByteArray} (h:s.size=0):(⟨#[]⟩:ByteArray)=s:=Go.WideShapes.bytes_inj (by
 have:s.data.size=0:=h;simp [Array.eq_empty_of_size_eq_zero this])
theorem z4r (x:ByteArray):(ByteArray.mk #[]) ++ x=x:=Go.WideShapes.bytes_inj (by rw [Joins.data_append];rfl)
theorem LS0.drewN {w W:World} {s:ByteArray} {q:Int} {v:Value} {lines:List ByteArray} (h:LS0 w s q v lines W) (n:Nat):LS0 w s q v lines (W.drewN n):=⟨h.1,h.2.1,h.2.2.1,h.2.2.2.1,z5b h.2.2.2.2 n⟩
theorem LS0.drew {w W:World} {s:ByteArray} {q:Int} {v:Value} {lines:List ByteArray} (h:LS0 w s q v lines W):LS0 w s q v lines W.drew:=⟨h.1,h.2.1,h.2.2.1,h.2.2.2.1,z1P h.2.2.2.2⟩
theorem Fr.drew (w W:World):Fr w W W.drew:=⟨KeepsOthers.drew W,rfl⟩
theorem z73 (w:World) (W:World) (h:BS w ⟨#[]⟩ W):Calls Tryz.prog 71 #[.pointer (some ⟨w.heap.size+2,0,none⟩)] W fun e w'=>e=.returned (int i64 0)/\w'=W:=z3c w ⟨#[]⟩ W h
theorem z3S {w:World} {base base' size n:Nat} {e:TypeId} {v:Value} {xs:List Value} (h:w.ownsRow base e size v n xs) (hb:base'<=base):w.ownsRow base' e size v n xs :=
 ⟨h.1,h.2.elim Or.inl (fun ⟨g,cap,cur,hv,hg,r⟩=>Or.inr ⟨g,cap,cur,hv,Nat.le_trans hb hg,r⟩)⟩
theorem zfF (w W:World) (c:W.heap[w.heap.size+2]?=some (.cells #[.pointer none,.slice none 0 0] 122)):BS w ⟨#[]⟩ W :=
 Or.inl ⟨Nat.le_refl _,.slice none 0 0,c,World.ownsRowF_of (World.ownsRow_nil _ _ _ _),by simp [Value.ownBlock]⟩
theorem zan (s:ByteArray) (hs:s.size<=maxLen) (q:Int) (w:World) :
  Calls Tryz.prog 56 #[.string s,int i64 q] w fun e w'=>∃ v,e=.returned v/\w'.ownsRow w.heap.size 9 1 v (z08 (z0Q q (zV s))).length ((z08 (z0Q q (zV s))).map Value.string)/\Below w.heap.size w w':=by
 obtain ⟨i0,hi,hz0,hz1,hz2⟩:=info_parts zfE;have hwl:=z7v s;have hmx:Tryz.prog.follows .mixedOrders=true:=(by kernel_rfl);refine (callsIn_wide (n:=4)).1 ?_;refine callsIn_of_wp_marks Tryz.func56 rfl trivial ?_ rfl;simp only [Tryz.ntmps56,List.size_toArray,List.length_cons,List.length_nil,Nat.reduceAdd,Nat.reduceSub,Array.replicate_succ,Array.replicate_zero,List.push_toArray,List.append_toArray,List.nil_append,List.cons_append]
 gi_wp2_with (gi_at_call 60;refine (callsIn_wide.2 (z6G s _)).mono ?_;rintro e w' ⟨rfl,rfl⟩)
 have hl0:z0Q q []=([],⟨#[]⟩):=rfl
 have hbx:((((w.alloc (.cells #[int i64 q] 3)).alloc (.cells #[.slice none 0 0] 74)).alloc (.cells #[.pointer none,.slice none 0 0] 122)).alloc (.cells #[.string s] 9)).heap[w.heap.size+3]?=some (.cells #[.string s] 9):=by
  have:=World.alloc_heap_new (((w.alloc (.cells #[int i64 q] 3)).alloc (.cells #[.slice none 0 0] 74)).alloc (.cells #[.pointer none,.slice none 0 0] 122)) (.cells #[.string s] 9)
  simpa using this
 have b0:Boxed ((((w.alloc (.cells #[int i64 q] 3)).alloc (.cells #[.slice none 0 0] 74)).alloc (.cells #[.pointer none,.slice none 0 0] 122)).alloc (.cells #[.string s] 9)) w.heap.size 3 (int i64 q):=(((Boxed.new w 3 (int i64 q)).alloc _).alloc _).alloc _
 have b1:Boxed ((((w.alloc (.cells #[int i64 q] 3)).alloc (.cells #[.slice none 0 0] 74)).alloc (.cells #[.pointer none,.slice none 0 0] 122)).alloc (.cells #[.string s] 9)) (w.heap.size+1) 74 (.slice none 0 0):=by
  have:=((Boxed.new (w.alloc (.cells #[int i64 q] 3)) 74 (.slice none 0 0)).alloc (.cells #[.pointer none,.slice none 0 0] 122)).alloc (.cells #[.string s] 9)
  simpa using this
 have b2:((((w.alloc (.cells #[int i64 q] 3)).alloc (.cells #[.slice none 0 0] 74)).alloc (.cells #[.pointer none,.slice none 0 0] 122)).alloc (.cells #[.string s] 9)).heap[w.heap.size+2]?=some (.cells #[.pointer none,.slice none 0 0] 122):=by
  rw [Below.heap_alloc _ _ _ (by simp)];have:=World.alloc_heap_new ((w.alloc (.cells #[int i64 q] 3)).alloc (.cells #[.slice none 0 0] 74)) (.cells #[.pointer none,.slice none 0 0] 122)
  simpa using this
 have hB0:Below w.heap.size w ((((w.alloc (.cells #[int i64 q] 3)).alloc (.cells #[.slice none 0 0] 74)).alloc (.cells #[.pointer none,.slice none 0 0] 122)).alloc (.cells #[.string s] 9)):=ze (ze (ze (ze (Below.refl _ _) _) _) _) _
 refine wpIn_rangeFunc_ownF rfl (by omega) (gf:=79) (lb:=#[.pointer (some ⟨w.heap.size+1+1+1,0,none⟩)]) rfl trivial (enters_of Tryz.func79 (by kernel_rfl) rfl)
  (z6H (w.heap.size+3) s hs _ (by simp) hbx) (fun h k=>z2X.trans h k) (z7g (by simp)) (Below.refl _ _) (fun _=>rfl)
  (fun pre W=>(∃ v,Boxed W (w.heap.size+1) 74 v/\W.ownsRow (w.heap.size+4) 9 1 v (z0Q q pre).1.length ((z0Q q pre).1.map Value.string)/\True)/\Boxed W w.heap.size 3 (int i64 q)/\Boxed W (w.heap.size+3) 9 (.string s)/\BS w (z0Q q pre).2 W/\Below w.heap.size w W)
  (fun _ _ _=>False)
  (OwnFrom.and (Own.from (holdsRow_own (w.heap.size+4) (w.heap.size+1) 74 9 1 (fun pre:List W30=>(z0Q q pre).1.length) (fun pre:List W30=>(z0Q q pre).1.map Value.string) (fun _ _=>True)) _) (OwnFrom.and (Own.from (boxed_own _ _ (fun _=>int i64 q)) _) (OwnFrom.and (Own.from (boxed_own _ _ (fun _=>.string s)) _) (OwnFrom.and (Own.from (zfw w (fun pre=>(z0Q q pre).2)) _) (ownFrom_below (Nat.le_refl _) (by simp;omega))))))
  (fun _ _ _ _ _ hs _ _=>hs)
  ⟨⟨_,b1,World.ownsRow_nil _ _ _ _,trivial⟩,b0,hbx,zfF w _ b2,hB0⟩
  (fun x=>{ tmps:=#[.string s,int i64 q,undef,.pointer (some ⟨w.heap.size,0,none⟩),.slice none 0 0,.pointer (some ⟨w.heap.size+1,0,none⟩),.pointer (some ⟨w.heap.size+1+1,0,none⟩),.string x.1,.string s,.func (.func 79) #[] #[.pointer (some ⟨w.heap.size+1+1+1,0,none⟩)],.string x.1,undef,undef,undef,undef,undef,undef,undef,undef,undef,undef,undef,undef,undef,undef,undef,undef,undef,undef,undef,undef,undef,undef,undef,undef,undef,undef,undef,undef],defers:=[] }) ?assign ?body ?done ?stop
 case assign =>
  intro l x W K hK
  gi_wp2
  exact hK
 case body =>
  rintro l pre x W ⟨⟨v,hv,hrow,_⟩,hbq,hbs3,hbs,hB⟩ hpl;have hst:=z8G q pre x;obtain ⟨hn1,hn2⟩:=z5B q pre;have hx:=x.2;have hls:LS0 w s q v (z0Q q pre).1 W:=⟨hbq,hv,hrow,hbs3,hB⟩;generalize z0Q q pre=st at hst hn1 hn2 hls hbs hrow;obtain ⟨lines,line⟩:=st;dsimp only at hst hn1 hn2 hls hbs hrow;have hcq:=hbq.cell;by_cases h0:0 < line.size
  ·by_cases hq:q < (line.size:Int)+1+(x.1.size:Int)
   ·have hd:decide ((0:Int) < (line.size:Int))=true:=decide_eq_true (by omega);have hdq:decide (q < (line.size:Int)+1+(x.1.size:Int))=true:=decide_eq_true hq;have hdq':q < (line.size:Int)+1+(x.1.size:Int):=hq;have e0:zZ q (lines,line) x.1=(lines ++ [line],x.1):=(by simp only [zZ];rw [if_pos h0,if_pos hq]);rw [e0] at hst
    gi_wp2
    refine z5u rfl hmx (by kernel_rfl) ?_;repeat (gi_big_quiet_step (exact CallsIn.quiet_of_same (callsIn_wide.2 (z3c w line _ hbs))))
    refine wpQuietIn_nil ?_;intro _ hw';obtain ⟨nq,hw''⟩:=hw';subst hw'';have hls1:LS0 w s q v lines (W.drewN nq):=hls.drewN nq;have hbs1:BS w line (W.drewN nq):=hbs;have hfr1:Fr w W (W.drewN nq):=Fr.drewN w W nq;have hcq1:(W.drewN nq).cell? ⟨w.heap.size,0,none⟩=some (int i64 q):=hcq;generalize W.drewN nq=W1 at hls1 hbs1 hfr1 hcq1;have hz1':w.heap.size+2<=W1.heap.size:=(by have:=(Boxed.lt hls1.2.2.2.1);omega)
    gi_wp2
    refine wpIn_region_any hmx ?_;change wpAnyIn _ _ _ _ _ _ _ _ _ (World.drew _);have hls2:LS0 w s q v lines W1.drew:=hls1.drew;have hbs2:BS w line W1.drew:=hbs1;have hfr2:Fr w W W1.drew:=hfr1.trans (Fr.drew w W1);have hz2':w.heap.size+2<=W1.drew.heap.size:=hz1';generalize W1.drew=W2 at hls2 hbs2 hfr2 hz2';have hc2:=Boxed.cell hls2.2.1;refine z7j (i:=0) (j:=1) (by kernel_rfl) rfl rfl (fun K hK=>?_) (fun K hK=>?_)
    ·go_simp;refine hK _ _ ?_;clear hK K;refine zS (i:=1) (by kernel_rfl) rfl (fun K hK=>?_);go_simp;refine (CallsIn.inRound l (callsIn_wide.2 (z4m w line _ hbs2 hz2'))).mono ?_;rintro e w3 ⟨rfl,hbs3',hk3,ho3⟩;obtain ⟨hls3,hfr3⟩:=z0r hls2 hbs2 hk3 ho3;have hc3:=(Boxed.cell hls3.2.1);have hd3:=z2E (.cells #[.string line] 9) hc3;have hr3:=hls3.2.2.1;have hs3:=Boxed.lt hls3.2.2.2.1;refine hK _ _ ?_;clear hK K;refine zS (i:=2) (by kernel_rfl) rfl (fun K hK=>?_);go_simp;refine hK _ _ ?_;clear hK K;refine z2d (j:=3) (by kernel_rfl) rfl rfl _ _ 74 rfl (w.heap.size+4) 9 i0 (.string ⟨#[]⟩) 1 16 Tryz.underlying74 hi hz0 hz1 hz2 rfl (by decide) v lines.length _ rfl (hr3.alloc _) ⟨w3.heap.size,0,none⟩ 1 1 [.string line] rfl rfl (cell_one_new _ _ _) (by simp [Value.oneCell']) (by unfold maxLen;omega) (by omega) (by simp;omega) ?_;intro v' w4 hown' hgrow;obtain ⟨g',cap',rfl⟩:=ownsRow_succ hown';obtain ⟨hv4,hls4,hbs4,hfr4⟩:=z2T hls2 hbs2 hk3 ho3 hbs3' hown' hgrow;have hc4:=hv4.cell;have hf4:=hv4.frozen;refine zS (i:=4) (by kernel_rfl) rfl (fun K hK=>?_);go_simp;refine hK _ _ ?_;clear hK K;refine wpAnyIn_done (by kernel_rfl) ?_ _;clear hown' hgrow hv4 hc4 hf4;generalize w4.setCell ⟨w.heap.size+1,0,none⟩ (.slice (some ⟨g',0,none⟩) (lines.length+1) cap')=W5 at hls4 hbs4 hfr4 |-;have hz5:w.heap.size+2<=W5.heap.size:=(by have:=Boxed.lt hls4.2.2.2.1;omega)
     gi_wp2_with (first
      | (gi_at_call 73;refine (CallsIn.inRound l (callsIn_wide.2 (z69 w line _ hbs4))).mono ?_;rintro e w6 ⟨rfl,hbs6,hk6,ho6⟩;obtain ⟨hls6,hfr6⟩:=z0r hls4 hbs4 hk6 ho6;have hz6:w.heap.size+2<=w6.heap.size:=Nat.le_trans hz5 hk6.size)
      | (gi_at_call 71;refine (CallsIn.inRound l (callsIn_wide.2 (z73 w _ hbs6))).mono ?_;rintro e w' ⟨rfl,rfl⟩)
      | (gi_at_call 75;refine (CallsIn.inRound l (callsIn_wide.2 (z5j w ⟨#[]⟩ x.1 _ hbs6 (by decide) hx.2 hz6))).mono ?_;rintro e w9 ⟨⟨u9,rfl⟩,hbs9,hk9,ho9⟩))
     obtain ⟨hls9,hfr9⟩:=z0r hls6 hbs6 hk9 ho9;have hfr:=((hfr2.trans hfr4).trans hfr6).trans hfr9;refine ⟨hfr.1,hfr.2,?_⟩;dsimp only;rw [hst];obtain ⟨t1,t2,t3,t4,t5⟩:=hls9;exact ⟨⟨_,t2,t3,trivial⟩,t1,t4,by rw [z4r] at hbs9;exact hbs9,t5⟩
    ·go_simp;refine (CallsIn.inRound l (callsIn_wide.2 (z4m w line _ hbs2 hz2'))).mono ?_;rintro e w3 ⟨rfl,hbs3',hk3,ho3⟩;obtain ⟨hls3,hfr3⟩:=z0r hls2 hbs2 hk3 ho3;have hc3:=(Boxed.cell hls3.2.1);have hd3:=z2E (.cells #[.string line] 9) hc3;have hr3:=hls3.2.2.1;have hs3:=Boxed.lt hls3.2.2.2.1;refine hK _ _ ?_;clear hK K;refine z7j (i:=0) (j:=2) (by kernel_rfl) rfl rfl (fun K hK=>?_) (fun K hK=>?_)
     ·go_simp;refine hK _ _ ?_;clear hK K;refine zS (i:=2) (by kernel_rfl) rfl (fun K hK=>?_);go_simp;refine hK _ _ ?_;clear hK K;refine z2d (j:=3) (by kernel_rfl) rfl rfl _ _ 74 rfl (w.heap.size+4) 9 i0 (.string ⟨#[]⟩) 1 16 Tryz.underlying74 hi hz0 hz1 hz2 rfl (by decide) v lines.length _ rfl (hr3.alloc _) ⟨w3.heap.size,0,none⟩ 1 1 [.string line] rfl rfl (cell_one_new _ _ _) (by simp [Value.oneCell']) (by unfold maxLen;omega) (by omega) (by simp;omega) ?_;intro v' w4 hown' hgrow;obtain ⟨g',cap',rfl⟩:=ownsRow_succ hown';obtain ⟨hv4,hls4,hbs4,hfr4⟩:=z2T hls2 hbs2 hk3 ho3 hbs3' hown' hgrow;have hc4:=hv4.cell;have hf4:=hv4.frozen;refine zS (i:=4) (by kernel_rfl) rfl (fun K hK=>?_);go_simp;refine hK _ _ ?_;clear hK K;refine wpAnyIn_done (by kernel_rfl) ?_ _;clear hown' hgrow hv4 hc4 hf4;generalize w4.setCell ⟨w.heap.size+1,0,none⟩ (.slice (some ⟨g',0,none⟩) (lines.length+1) cap')=W5 at hls4 hbs4 hfr4 |-;have hz5:w.heap.size+2<=W5.heap.size:=(by have:=Boxed.lt hls4.2.2.2.1;omega)
      gi_wp2_with (first
       | (gi_at_call 73;refine (CallsIn.inRound l (callsIn_wide.2 (z69 w line _ hbs4))).mono ?_;rintro e w6 ⟨rfl,hbs6,hk6,ho6⟩;obtain ⟨hls6,hfr6⟩:=z0r hls4 hbs4 hk6 ho6;have hz6:w.heap.size+2<=w6.heap.size:=Nat.le_trans hz5 hk6.size)
       | (gi_at_call 71;refine (CallsIn.inRound l (callsIn_wide.2 (z73 w _ hbs6))).mono ?_;rintro e w' ⟨rfl,rfl⟩)
       | (gi_at_call 75;refine (CallsIn.inRound l (callsIn_wide.2 (z5j w ⟨#[]⟩ x.1 _ hbs6 (by decide) hx.2 hz6))).mono ?_;rintro e w9 ⟨⟨u9,rfl⟩,hbs9,hk9,ho9⟩))
      obtain ⟨hls9,hfr9⟩:=z0r hls6 hbs6 hk9 ho9;have hfr:=((hfr2.trans hfr4).trans hfr6).trans hfr9;refine ⟨hfr.1,hfr.2,?_⟩;dsimp only;rw [hst];obtain ⟨t1,t2,t3,t4,t5⟩:=hls9;exact ⟨⟨_,t2,t3,trivial⟩,t1,t4,by rw [z4r] at hbs9;exact hbs9,t5⟩
     ·go_simp;refine hK _ _ ?_;clear hK K;refine zS (i:=0) (by kernel_rfl) rfl (fun K hK=>?_);go_simp;refine hK _ _ ?_;clear hK K;refine z2d (j:=3) (by kernel_rfl) rfl rfl _ _ 74 rfl (w.heap.size+4) 9 i0 (.string ⟨#[]⟩) 1 16 Tryz.underlying74 hi hz0 hz1 hz2 rfl (by decide) v lines.length _ rfl (hr3.alloc _) ⟨w3.heap.size,0,none⟩ 1 1 [.string line] rfl rfl (cell_one_new _ _ _) (by simp [Value.oneCell']) (by unfold maxLen;omega) (by omega) (by simp;omega) ?_;intro v' w4 hown' hgrow;obtain ⟨g',cap',rfl⟩:=ownsRow_succ hown';obtain ⟨hv4,hls4,hbs4,hfr4⟩:=z2T hls2 hbs2 hk3 ho3 hbs3' hown' hgrow;have hc4:=hv4.cell;have hf4:=hv4.frozen;refine zS (i:=4) (by kernel_rfl) rfl (fun K hK=>?_);go_simp;refine hK _ _ ?_;clear hK K;refine wpAnyIn_done (by kernel_rfl) ?_ _;clear hown' hgrow hv4 hc4 hf4;generalize w4.setCell ⟨w.heap.size+1,0,none⟩ (.slice (some ⟨g',0,none⟩) (lines.length+1) cap')=W5 at hls4 hbs4 hfr4 |-;have hz5:w.heap.size+2<=W5.heap.size:=(by have:=Boxed.lt hls4.2.2.2.1;omega)
      gi_wp2_with (first
       | (gi_at_call 73;refine (CallsIn.inRound l (callsIn_wide.2 (z69 w line _ hbs4))).mono ?_;rintro e w6 ⟨rfl,hbs6,hk6,ho6⟩;obtain ⟨hls6,hfr6⟩:=z0r hls4 hbs4 hk6 ho6;have hz6:w.heap.size+2<=w6.heap.size:=Nat.le_trans hz5 hk6.size)
       | (gi_at_call 71;refine (CallsIn.inRound l (callsIn_wide.2 (z73 w _ hbs6))).mono ?_;rintro e w' ⟨rfl,rfl⟩)
       | (gi_at_call 75;refine (CallsIn.inRound l (callsIn_wide.2 (z5j w ⟨#[]⟩ x.1 _ hbs6 (by decide) hx.2 hz6))).mono ?_;rintro e w9 ⟨⟨u9,rfl⟩,hbs9,hk9,ho9⟩))
      obtain ⟨hls9,hfr9⟩:=z0r hls6 hbs6 hk9 ho9;have hfr:=((hfr2.trans hfr4).trans hfr6).trans hfr9;refine ⟨hfr.1,hfr.2,?_⟩;dsimp only;rw [hst];obtain ⟨t1,t2,t3,t4,t5⟩:=hls9;exact ⟨⟨_,t2,t3,trivial⟩,t1,t4,by rw [z4r] at hbs9;exact hbs9,t5⟩
   ·have hd:decide ((0:Int) < (line.size:Int))=true:=decide_eq_true (by omega);have hd':(0:Int) < (line.size:Int):=(by omega);have hdq:decide (q < (line.size:Int)+1+(x.1.size:Int))=false:=decide_eq_false hq;have e0:zZ q (lines,line) x.1=(lines,line ++ ⟨#[32]⟩ ++ x.1):=(by simp only [zZ];rw [if_pos h0,if_neg hq]);have ez:(line ++ ⟨#[32]⟩).size=line.size+1:=(by rw [ByteArray.size_append];rfl);rw [e0] at hst
    gi_wp2
    refine z5u rfl hmx (by kernel_rfl) ?_;repeat (gi_big_quiet_step (exact CallsIn.quiet_of_same (callsIn_wide.2 (z3c w line _ hbs))))
    refine wpQuietIn_nil ?_;intro _ hw';obtain ⟨nq,hw''⟩:=hw';subst hw'';have hls1:LS0 w s q v lines (W.drewN nq):=hls.drewN nq;have hbs1:BS w line (W.drewN nq):=hbs;have hfr1:Fr w W (W.drewN nq):=Fr.drewN w W nq;have hcq1:(W.drewN nq).cell? ⟨w.heap.size,0,none⟩=some (int i64 q):=hcq;generalize W.drewN nq=W1 at hls1 hbs1 hfr1 hcq1;have hz1':w.heap.size+2<=W1.heap.size:=(by have:=(Boxed.lt hls1.2.2.2.1);omega)
    gi_wp2_with (first
     | (gi_at_call 71;refine (CallsIn.inRound l (callsIn_wide.2 (z3c w line _ hbs1))).mono ?_;rintro e w' ⟨rfl,rfl⟩)
     | (gi_at_call 74;refine (CallsIn.inRound l (callsIn_wide.2 (zdM w line _ hbs1 (by omega) hz1'))).mono ?_;rintro e w8 ⟨rfl,hbs8,hk8,ho8⟩;obtain ⟨hls8,hfr8⟩:=z0r hls1 hbs1 hk8 ho8;have hz8:w.heap.size+2<=w8.heap.size:=Nat.le_trans hz1' hk8.size)
     | (gi_at_call 75;refine (CallsIn.inRound l (callsIn_wide.2 (z5j w (line ++ ⟨#[32]⟩) x.1 _ hbs8 (by omega) hx.2 hz8))).mono ?_;rintro e w9 ⟨⟨u9,rfl⟩,hbs9,hk9,ho9⟩))
    obtain ⟨hls9,hfr9⟩:=z0r hls8 hbs8 hk9 ho9;refine ⟨((hfr1.trans hfr8).trans hfr9).1,((hfr1.trans hfr8).trans hfr9).2,?_⟩;dsimp only;rw [hst];obtain ⟨t1,t2,t3,t4,t5⟩:=hls9;exact ⟨⟨_,t2,t3,trivial⟩,t1,t4,hbs9,t5⟩
  ·have hd:decide ((0:Int) < (line.size:Int))=false:=decide_eq_false (by omega);have hd':¬ (0:Int) < (line.size:Int):=(by omega);have e0:zZ q (lines,line) x.1=(lines,x.1):=(by simp [zZ,h0]);have el:line ++ x.1=x.1:=(by rw [<-zdb (show line.size=0 by omega),z4r]);rw [e0] at hst
   gi_wp2
   refine z5u rfl hmx (by kernel_rfl) ?_;repeat (gi_big_quiet_step (exact CallsIn.quiet_of_same (callsIn_wide.2 (z3c w line _ hbs))))
   refine wpQuietIn_nil ?_;intro _ hw';obtain ⟨nq,hw''⟩:=hw';subst hw'';have hls1:LS0 w s q v lines (W.drewN nq):=hls.drewN nq;have hbs1:BS w line (W.drewN nq):=hbs;have hfr1:Fr w W (W.drewN nq):=Fr.drewN w W nq;have hcq1:(W.drewN nq).cell? ⟨w.heap.size,0,none⟩=some (int i64 q):=hcq;generalize W.drewN nq=W1 at hls1 hbs1 hfr1 hcq1;have hz1':w.heap.size+2<=W1.heap.size:=(by have:=(Boxed.lt hls1.2.2.2.1);omega)
   gi_wp2_with (first
    | (gi_at_call 71;refine (CallsIn.inRound l (callsIn_wide.2 (z3c w line _ hbs1))).mono ?_;rintro e w' ⟨rfl,rfl⟩)
    | (gi_at_call 75;refine (CallsIn.inRound l (callsIn_wide.2 (z5j w line x.1 _ hbs1 (by omega) hx.2 hz1'))).mono ?_;rintro e w9 ⟨⟨u9,rfl⟩,hbs9,hk9,ho9⟩))
   obtain ⟨hls9,hfr9⟩:=z0r hls1 hbs1 hk9 ho9;refine ⟨(hfr1.trans hfr9).1,(hfr1.trans hfr9).2,?_⟩;dsimp only;rw [hst];obtain ⟨t1,t2,t3,t4,t5⟩:=hls9;exact ⟨⟨_,t2,t3,trivial⟩,t1,t4,by rw [el] at hbs9;exact hbs9,t5⟩
 case done =>
  rintro D ys W hD rfl ⟨⟨v,hv,hrow,_⟩,hbq,hbs3,hbs,hB⟩ hKd;obtain ⟨hn1,hn2⟩:=z5B q (zV s);have hls:LS0 w s q v (z0Q q (zV s)).1 W:=⟨hbq,hv,hrow,hbs3,hB⟩;obtain ⟨st,hst⟩:∃ st,z0Q q (zV s)=st:=⟨_,rfl⟩;rw [hst] at hn1 hn2 hls hbs hrow;obtain ⟨lines,line⟩:=st;dsimp only at hn1 hn2 hls hbs hrow;have hz1':w.heap.size+2<=W.heap.size:=(by have:=(Boxed.lt hbs3);omega);by_cases h0:0 < line.size
  ·have hd':(0:Int) < (line.size:Int):=(by omega);have eo:z08 (lines,line)=lines ++ [line]:=(by simp [z08,h0])
   gi_wp2_with (gi_at_call 71;refine (callsIn_wide.2 (z3c w line _ hbs)).mono ?_;rintro e w' ⟨rfl,rfl⟩)
   refine wpIn_region_any hmx ?_;change wpAnyIn _ _ _ _ _ _ _ _ _ (World.drew _);have hls2:LS0 w s q v lines w'.drew:=hls.drew;have hbs2:BS w line w'.drew:=hbs;have hfr2:Fr w w' w'.drew:=Fr.drew w w';have hz2':w.heap.size+2<=w'.drew.heap.size:=hz1';generalize w'.drew=W2 at hls2 hbs2 hfr2 hz2';have hc2:=Boxed.cell hls2.2.1;refine z7j (i:=0) (j:=1) (by kernel_rfl) rfl rfl (fun K hK=>?_) (fun K hK=>?_)
   ·go_simp;refine hK _ _ ?_;clear hK K;refine zS (i:=1) (by kernel_rfl) rfl (fun K hK=>?_);go_simp;refine (callsIn_wide.2 (z4m w line _ hbs2 hz2')).mono ?_;rintro e w3 ⟨rfl,hbs3',hk3,ho3⟩;obtain ⟨hls3,hfr3⟩:=z0r hls2 hbs2 hk3 ho3;have hc3:=(Boxed.cell hls3.2.1);have hd3:=z2E (.cells #[.string line] 9) hc3;have hr3:=hls3.2.2.1;have hs3:=Boxed.lt hls3.2.2.2.1;refine hK _ _ ?_;clear hK K;refine zS (i:=2) (by kernel_rfl) rfl (fun K hK=>?_);go_simp;refine hK _ _ ?_;clear hK K;refine z2d (j:=3) (by kernel_rfl) rfl rfl _ _ 74 rfl (w.heap.size+4) 9 i0 (.string ⟨#[]⟩) 1 16 Tryz.underlying74 hi hz0 hz1 hz2 rfl (by decide) v lines.length _ rfl (hr3.alloc _) ⟨w3.heap.size,0,none⟩ 1 1 [.string line] rfl rfl (cell_one_new _ _ _) (by simp [Value.oneCell']) (by unfold maxLen;omega) (by omega) (by simp;omega) ?_;intro v' w4 hown' hgrow;obtain ⟨g',cap',rfl⟩:=ownsRow_succ hown';obtain ⟨hv4,hls4,hbs4,hfr4⟩:=z2T hls2 hbs2 hk3 ho3 hbs3' hown' hgrow;have hc4:=hv4.cell;have hf4:=hv4.frozen;refine zS (i:=4) (by kernel_rfl) rfl (fun K hK=>?_);go_simp;refine hK _ _ ?_;clear hK K;refine wpAnyIn_done (by kernel_rfl) ?_ _;clear hown' hgrow hv4 hc4 hf4;generalize w4.setCell ⟨w.heap.size+1,0,none⟩ (.slice (some ⟨g',0,none⟩) (lines.length+1) cap')=W5 at hls4 hbs4 hfr4 |-;have hc5:=Boxed.cell hls4.2.1;have hK5:=(hfr2.trans hfr4).1.same D _ hKd rfl;have hr5:=hls4.2.2.1
    gi_wp2
    refine ⟨by simp,.inl ⟨_,_,rfl,run_takeDeferred hK5,?_⟩⟩;refine ⟨_,results_tmp rfl _ _ _,_,rfl,?_,hls4.2.2.2.2.trans (belowK_b (w:=w) (Nat.le_refl _) W5 D _ _ (by simp at hD;omega) hK5 rfl rfl)⟩;rw [hst,eo];exact z3S (ownsRow_putObj hr5 _ hK5 rfl) (by omega)
   ·go_simp;refine (callsIn_wide.2 (z4m w line _ hbs2 hz2')).mono ?_;rintro e w3 ⟨rfl,hbs3',hk3,ho3⟩;obtain ⟨hls3,hfr3⟩:=z0r hls2 hbs2 hk3 ho3;have hc3:=(Boxed.cell hls3.2.1);have hd3:=z2E (.cells #[.string line] 9) hc3;have hr3:=hls3.2.2.1;have hs3:=Boxed.lt hls3.2.2.2.1;refine hK _ _ ?_;clear hK K;refine z7j (i:=0) (j:=2) (by kernel_rfl) rfl rfl (fun K hK=>?_) (fun K hK=>?_)
    ·go_simp;refine hK _ _ ?_;clear hK K;refine zS (i:=2) (by kernel_rfl) rfl (fun K hK=>?_);go_simp;refine hK _ _ ?_;clear hK K;refine z2d (j:=3) (by kernel_rfl) rfl rfl _ _ 74 rfl (w.heap.size+4) 9 i0 (.string ⟨#[]⟩) 1 16 Tryz.underlying74 hi hz0 hz1 hz2 rfl (by decide) v lines.length _ rfl (hr3.alloc _) ⟨w3.heap.size,0,none⟩ 1 1 [.string line] rfl rfl (cell_one_new _ _ _) (by simp [Value.oneCell']) (by unfold maxLen;omega) (by omega) (by simp;omega) ?_;intro v' w4 hown' hgrow;obtain ⟨g',cap',rfl⟩:=ownsRow_succ hown';obtain ⟨hv4,hls4,hbs4,hfr4⟩:=z2T hls2 hbs2 hk3 ho3 hbs3' hown' hgrow;have hc4:=hv4.cell;have hf4:=hv4.frozen;refine zS (i:=4) (by kernel_rfl) rfl (fun K hK=>?_);go_simp;refine hK _ _ ?_;clear hK K;refine wpAnyIn_done (by kernel_rfl) ?_ _;clear hown' hgrow hv4 hc4 hf4;generalize w4.setCell ⟨w.heap.size+1,0,none⟩ (.slice (some ⟨g',0,none⟩) (lines.length+1) cap')=W5 at hls4 hbs4 hfr4 |-;have hc5:=Boxed.cell hls4.2.1;have hK5:=(hfr2.trans hfr4).1.same D _ hKd rfl;have hr5:=hls4.2.2.1
     gi_wp2
     refine ⟨by simp,.inl ⟨_,_,rfl,run_takeDeferred hK5,?_⟩⟩;refine ⟨_,results_tmp rfl _ _ _,_,rfl,?_,hls4.2.2.2.2.trans (belowK_b (w:=w) (Nat.le_refl _) W5 D _ _ (by simp at hD;omega) hK5 rfl rfl)⟩;rw [hst,eo];exact z3S (ownsRow_putObj hr5 _ hK5 rfl) (by omega)
    ·go_simp;refine hK _ _ ?_;clear hK K;refine zS (i:=0) (by kernel_rfl) rfl (fun K hK=>?_);go_simp;refine hK _ _ ?_;clear hK K;refine z2d (j:=3) (by kernel_rfl) rfl rfl _ _ 74 rfl (w.heap.size+4) 9 i0 (.string ⟨#[]⟩) 1 16 Tryz.underlying74 hi hz0 hz1 hz2 rfl (by decide) v lines.length _ rfl (hr3.alloc _) ⟨w3.heap.size,0,none⟩ 1 1 [.string line] rfl rfl (cell_one_new _ _ _) (by simp [Value.oneCell']) (by unfold maxLen;omega) (by omega) (by simp;omega) ?_;intro v' w4 hown' hgrow;obtain ⟨g',cap',rfl⟩:=ownsRow_succ hown';obtain ⟨hv4,hls4,hbs4,hfr4⟩:=z2T hls2 hbs2 hk3 ho3 hbs3' hown' hgrow;have hc4:=hv4.cell;have hf4:=hv4.frozen;refine zS (i:=4) (by kernel_rfl) rfl (fun K hK=>?_);go_simp;refine hK _ _ ?_;clear hK K;refine wpAnyIn_done (by kernel_rfl) ?_ _;clear hown' hgrow hv4 hc4 hf4;generalize w4.setCell ⟨w.heap.size+1,0,none⟩ (.slice (some ⟨g',0,none⟩) (lines.length+1) cap')=W5 at hls4 hbs4 hfr4 |-;have hc5:=Boxed.cell hls4.2.1;have hK5:=(hfr2.trans hfr4).1.same D _ hKd rfl;have hr5:=hls4.2.2.1
     gi_wp2
     refine ⟨by simp,.inl ⟨_,_,rfl,run_takeDeferred hK5,?_⟩⟩;refine ⟨_,results_tmp rfl _ _ _,_,rfl,?_,hls4.2.2.2.2.trans (belowK_b (w:=w) (Nat.le_refl _) W5 D _ _ (by simp at hD;omega) hK5 rfl rfl)⟩;rw [hst,eo];exact z3S (ownsRow_putObj hr5 _ hK5 rfl) (by omega)
  ·have hd':¬ (0:Int) < (line.size:Int):=(by omega);have eo:z08 (lines,line)=lines:=(by simp [z08,h0]);have hc:=hv.cell
   gi_wp2_with (gi_at_call 71;refine (callsIn_wide.2 (z3c w line _ hbs)).mono ?_;rintro e w' ⟨rfl,rfl⟩)
   refine ⟨by simp,.inl ⟨_,_,rfl,run_takeDeferred hKd,?_⟩⟩;refine ⟨_,results_tmp rfl _ _ _,_,rfl,?_,hB.trans (belowK_b (w:=w) (Nat.le_refl _) _ D _ _ (by simp at hD;omega) hKd rfl rfl)⟩;rw [hst,eo];exact z3S (ownsRow_putObj hrow _ hKd rfl) (by omega)
 case stop =>
  rintro D c pre W _ _ h _;exact h.elim
end Go.Proofs.YtggmjiddadjilalGreat
