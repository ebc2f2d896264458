/-
  PROVED HERE: what the program's TxtLines answers: a text's lines, in new memory; nothing that was in memory is turned.
-/
import Derived.Test.YtggmjiddadjilaeGreatC10
import Derived.WideShapes
import Derived.Lib.SmallJoins
namespace Go.Proofs.YtggmjiddadjilaeGreat
open Go.RowKit Go.Shelf Go.BigFrame
theorem wide_fn (f:FuncId):Fence.wide.fn f=True:=eq_true trivial
attribute [local go_sem] Oper.semAt_some wide_fn Oper.askedIn
theorem infoLn:(Tryz.prog.info? 9).map (fun i=>(i.zero,i.size,i.bytes))=some (some (Value.string ⟨#[]⟩),1,16):=by kernel_rfl
theorem empty_ofL {s:ByteArray} (h:s.size=0):(⟨#[]⟩:ByteArray)=s:=Go.WideShapes.bytes_inj (by
 have:s.data.size=0:=h
 simp [Array.eq_empty_of_size_eq_zero this])
theorem empty_appL (x:ByteArray):(ByteArray.mk #[]) ++ x=x:=Go.WideShapes.bytes_inj (by rw [Joins.data_append];rfl)
theorem LS0.drewN {w W:World} {s:ByteArray} {q:Int} {v:Value} {lines:List ByteArray} (h:LS0 w s q v lines W) (n:Nat):LS0 w s q v lines (W.drewN n):=⟨h.1,h.2.1,h.2.2.1,h.2.2.2.1,k_drewN h.2.2.2.2 n⟩
theorem LS0.drew {w W:World} {s:ByteArray} {q:Int} {v:Value} {lines:List ByteArray} (h:LS0 w s q v lines W):LS0 w s q v lines W.drew:=⟨h.1,h.2.1,h.2.2.1,h.2.2.2.1,k_drew h.2.2.2.2⟩
theorem Fr.drew (w W:World):Fr w W W.drew:=⟨KeepsOthers.drew W,rfl⟩
theorem len0_any (w:World) (W:World) (h:BS w ⟨#[]⟩ W):Calls Tryz.prog 92 #[.pointer (some ⟨w.heap.size+2,0,none⟩)] W fun e w'=>e=.returned (.int .i64 0)∧w'=W:=len_any w ⟨#[]⟩ W h
theorem ownsRow_leL {w:World} {base base' size n:Nat} {e:TypeId} {v:Value} {xs:List Value} (h:w.ownsRow base e size v n xs) (hb:base'≤base):w.ownsRow base' e size v n xs :=
 ⟨h.1,h.2.elim Or.inl (fun ⟨g,cap,cur,hv,hg,r⟩=>Or.inr ⟨g,cap,cur,hv,Nat.le_trans hb hg,r⟩)⟩
theorem bs_new (w W:World) (c:W.heap[w.heap.size+2]?=some (.cells #[.pointer none,.slice none 0 0] 123)):BS w ⟨#[]⟩ W :=
 Or.inl ⟨Nat.le_refl _,.slice none 0 0,c,World.ownsRowF_of (World.ownsRow_nil _ _ _ _),by simp [Value.ownBlock]⟩
set_option maxRecDepth 100000 in
set_option maxHeartbeats 2000000 in
theorem implTxtLines (s:ByteArray) (hs:s.size≤maxLen) (q:Int) (w:World) :
  Calls Tryz.prog 58 #[.string s,.int .i64 q] w fun e w'=>∃ v,e=.returned v∧w'.ownsRow w.heap.size 9 1 v (lnOut (lnSt q (wordsW s))).length ((lnOut (lnSt q (wordsW s))).map Value.string)∧Below w.heap.size w w':=by
 obtain ⟨i0,hi,hz0,hz1,hz2⟩:=info_parts infoLn
 have hwl:=wordsW_len s
 have hmx:Tryz.prog.follows .mixedOrders=true:=by kernel_rfl
 refine (callsIn_wide (n:=4)).1 ?_
 refine callsIn_of_wp_marks Tryz.func58 rfl trivial ?_ rfl
 simp only [Tryz.ntmps58,List.size_toArray,List.length_cons,List.length_nil,Nat.reduceAdd,Nat.reduceSub,Array.replicate_succ,Array.replicate_zero,List.push_toArray,List.append_toArray,List.nil_append,List.cons_append]
 gi_wp2_with (gi_at_call 52;refine (callsIn_wide.2 (wordsOf_any s _)).mono ?_;rintro e w' ⟨rfl,rfl⟩)
 have hl0:lnSt q []=([],⟨#[]⟩):=rfl
 have hbx:((((w.alloc (.cells #[.int .i64 q] 3)).alloc (.cells #[.slice none 0 0] 54)).alloc (.cells #[.pointer none,.slice none 0 0] 123)).alloc (.cells #[.string s] 9)).heap[w.heap.size+3]?=some (.cells #[.string s] 9):=by
  have:=World.alloc_heap_new (((w.alloc (.cells #[.int .i64 q] 3)).alloc (.cells #[.slice none 0 0] 54)).alloc (.cells #[.pointer none,.slice none 0 0] 123)) (.cells #[.string s] 9)
  simpa using this
 have b0:Boxed ((((w.alloc (.cells #[.int .i64 q] 3)).alloc (.cells #[.slice none 0 0] 54)).alloc (.cells #[.pointer none,.slice none 0 0] 123)).alloc (.cells #[.string s] 9)) w.heap.size 3 (.int .i64 q):=(((Boxed.new w 3 (.int .i64 q)).alloc _).alloc _).alloc _
 have b1:Boxed ((((w.alloc (.cells #[.int .i64 q] 3)).alloc (.cells #[.slice none 0 0] 54)).alloc (.cells #[.pointer none,.slice none 0 0] 123)).alloc (.cells #[.string s] 9)) (w.heap.size+1) 54 (.slice none 0 0):=by
  have:=((Boxed.new (w.alloc (.cells #[.int .i64 q] 3)) 54 (.slice none 0 0)).alloc (.cells #[.pointer none,.slice none 0 0] 123)).alloc (.cells #[.string s] 9)
  simpa using this
 have b2:((((w.alloc (.cells #[.int .i64 q] 3)).alloc (.cells #[.slice none 0 0] 54)).alloc (.cells #[.pointer none,.slice none 0 0] 123)).alloc (.cells #[.string s] 9)).heap[w.heap.size+2]?=some (.cells #[.pointer none,.slice none 0 0] 123):=by
  rw [Below.heap_alloc _ _ _ (by simp)]
  have:=World.alloc_heap_new ((w.alloc (.cells #[.int .i64 q] 3)).alloc (.cells #[.slice none 0 0] 54)) (.cells #[.pointer none,.slice none 0 0] 123)
  simpa using this
 have hB0:Below w.heap.size w ((((w.alloc (.cells #[.int .i64 q] 3)).alloc (.cells #[.slice none 0 0] 54)).alloc (.cells #[.pointer none,.slice none 0 0] 123)).alloc (.cells #[.string s] 9)):=k_alloc (k_alloc (k_alloc (k_alloc (Below.refl _ _) _) _) _) _
 refine wpIn_rangeFunc_ownF rfl (by omega) (gf:=88) (lb:=#[.pointer (some ⟨w.heap.size+1+1+1,0,none⟩)]) rfl trivial (enters_of Tryz.func88 (by kernel_rfl) rfl)
  (words_stops (w.heap.size+3) s hs _ (by simp) hbx) (fun h k=>BoxK.trans h k) (BoxK_b (by simp)) (Below.refl _ _) (fun _=>rfl)
  (fun pre W=>(∃ v,Boxed W (w.heap.size+1) 54 v∧W.ownsRow (w.heap.size+4) 9 1 v (lnSt q pre).1.length ((lnSt q pre).1.map Value.string)∧True)∧Boxed W w.heap.size 3 (.int .i64 q)∧Boxed W (w.heap.size+3) 9 (.string s)∧BS w (lnSt q pre).2 W∧Below w.heap.size w W)
  (fun _ _ _=>False)
  (OwnFrom.and (Own.from (holdsRow_own (w.heap.size+4) (w.heap.size+1) 54 9 1 (fun pre:List W30=>(lnSt q pre).1.length) (fun pre:List W30=>(lnSt q pre).1.map Value.string) (fun _ _=>True)) _) (OwnFrom.and (Own.from (boxed_own _ _ (fun _=>.int .i64 q)) _) (OwnFrom.and (Own.from (boxed_own _ _ (fun _=>.string s)) _) (OwnFrom.and (Own.from (bs_own w (fun pre=>(lnSt q pre).2)) _) (ownFrom_below (Nat.le_refl _) (by simp;omega))))))
  (fun _ _ _ _ _ hs _ _=>hs)
  ⟨⟨_,b1,World.ownsRow_nil _ _ _ _,trivial⟩,b0,hbx,bs_new w _ b2,hB0⟩
  (fun x=>{ tmps:=#[.string s,.int .i64 q,undef,.pointer (some ⟨w.heap.size,0,none⟩),.slice none 0 0,.pointer (some ⟨w.heap.size+1,0,none⟩),.pointer (some ⟨w.heap.size+1+1,0,none⟩),.string x.1,.string s,.func (.func 88) #[] #[.pointer (some ⟨w.heap.size+1+1+1,0,none⟩)],.string x.1,undef,undef,undef,undef,undef,undef,undef,undef,undef,undef,undef,undef,undef,undef,undef,undef,undef,undef,undef,undef,undef,undef,undef,undef,undef,undef,undef,undef],defers:=[] }) ?assign ?body ?done ?stop
 case assign =>
  intro l x W K hK
  gi_wp2
  exact hK
 case body =>
  rintro l pre x W ⟨⟨v,hv,hrow,_⟩,hbq,hbs3,hbs,hB⟩ hpl
  have hst:=lnSt_snoc q pre x
  obtain ⟨hn1,hn2⟩:=lnSt_bound q pre
  have hx:=x.2
  have hls:LS0 w s q v (lnSt q pre).1 W:=⟨hbq,hv,hrow,hbs3,hB⟩
  generalize lnSt q pre=st at hst hn1 hn2 hls hbs hrow
  obtain ⟨lines,line⟩:=st
  dsimp only at hst hn1 hn2 hls hbs hrow
  have hcq:=hbq.cell
  by_cases h0:0 < line.size
  ·by_cases hq:q < (line.size:Int)+1+(x.1.size:Int)
   ·have hd:decide ((0:Int) < (line.size:Int))=true:=decide_eq_true (by omega)
    have hdq:decide (q < (line.size:Int)+1+(x.1.size:Int))=true:=decide_eq_true hq
    have hdq':q < (line.size:Int)+1+(x.1.size:Int):=hq
    have e0:stepLn q (lines,line) x.1=(lines ++ [line],x.1):=by simp only [stepLn];rw [if_pos h0,if_pos hq]
    rw [e0] at hst
    gi_wp2
    refine quietRound rfl hmx (by kernel_rfl) ?_
    repeat (gi_big_quiet_step (exact CallsIn.quiet_of_same (callsIn_wide.2 (len_any w line _ hbs))))
    refine wpQuietIn_nil ?_
    intro _ hw'
    obtain ⟨nq,hw''⟩:=hw'
    subst hw''
    have hls1:LS0 w s q v lines (W.drewN nq):=hls.drewN nq
    have hbs1:BS w line (W.drewN nq):=hbs
    have hfr1:Fr w W (W.drewN nq):=Fr.drewN w W nq
    have hcq1:(W.drewN nq).cell? ⟨w.heap.size,0,none⟩=some (.int .i64 q):=hcq
    generalize W.drewN nq=W1 at hls1 hbs1 hfr1 hcq1
    have hz1':w.heap.size+2≤W1.heap.size:=by have:=(Boxed.lt hls1.2.2.2.1);omega
    gi_wp2
    refine wpIn_region_any hmx ?_
    change wpAnyIn _ _ _ _ _ _ _ _ _ (World.drew _)
    have hls2:LS0 w s q v lines W1.drew:=hls1.drew
    have hbs2:BS w line W1.drew:=hbs1
    have hfr2:Fr w W W1.drew:=hfr1.trans (Fr.drew w W1)
    have hz2':w.heap.size+2≤W1.drew.heap.size:=hz1'
    generalize W1.drew=W2 at hls2 hbs2 hfr2 hz2'
    have hc2:=Boxed.cell hls2.2.1
    refine ready2 (i:=0) (j:=1) (by kernel_rfl) rfl rfl (fun K hK=>?_) (fun K hK=>?_)
    ·go_simp
     refine hK _ _ ?_
     clear hK K
     refine ready1 (i:=1) (by kernel_rfl) rfl (fun K hK=>?_)
     go_simp
     refine (CallsIn.inRound l (callsIn_wide.2 (string_any w line _ hbs2 hz2'))).mono ?_
     rintro e w3 ⟨rfl,hbs3',hk3,ho3⟩
     obtain ⟨hls3,hfr3⟩:=builder_step hls2 hbs2 hk3 ho3
     have hc3:=(Boxed.cell hls3.2.1)
     have hd3:=cell_alloc_l (.cells #[.string line] 9) hc3
     have hr3:=hls3.2.2.1
     have hs3:=Boxed.lt hls3.2.2.2.1
     refine hK _ _ ?_
     clear hK K
     refine ready1 (i:=2) (by kernel_rfl) rfl (fun K hK=>?_)
     go_simp
     refine hK _ _ ?_
     clear hK K
     refine ready_append (j:=3) (by kernel_rfl) rfl rfl _ _ 54 rfl (w.heap.size+4) 9 i0 (.string ⟨#[]⟩) 1 16 Tryz.underlying54 hi hz0 hz1 hz2 rfl (by decide) v lines.length _ rfl (hr3.alloc _) ⟨w3.heap.size,0,none⟩ 1 1 [.string line] rfl rfl (cell_one_new _ _ _) (by simp [Value.oneCell']) (by unfold maxLen;omega) (by omega) (by simp;omega) ?_
     intro v' w4 hown' hgrow
     obtain ⟨g',cap',rfl⟩:=ownsRow_succ hown'
     obtain ⟨hv4,hls4,hbs4,hfr4⟩:=lines_step hls2 hbs2 hk3 ho3 hbs3' hown' hgrow
     have hc4:=hv4.cell
     have hf4:=hv4.frozen
     refine ready1 (i:=4) (by kernel_rfl) rfl (fun K hK=>?_)
     go_simp
     refine hK _ _ ?_
     clear hK K
     refine wpAnyIn_done (by kernel_rfl) ?_ _
     clear hown' hgrow hv4 hc4 hf4
     generalize w4.setCell ⟨w.heap.size+1,0,none⟩ (.slice (some ⟨g',0,none⟩) (lines.length+1) cap')=W5 at hls4 hbs4 hfr4 ⊢
     have hz5:w.heap.size+2≤W5.heap.size:=by have:=Boxed.lt hls4.2.2.2.1;omega
     gi_wp2_with (first
      | (gi_at_call 94;refine (CallsIn.inRound l (callsIn_wide.2 (reset_any w line _ hbs4))).mono ?_;rintro e w6 ⟨rfl,hbs6,hk6,ho6⟩;obtain ⟨hls6,hfr6⟩:=builder_step hls4 hbs4 hk6 ho6;have hz6:w.heap.size+2≤w6.heap.size:=Nat.le_trans hz5 hk6.size)
      | (gi_at_call 92;refine (CallsIn.inRound l (callsIn_wide.2 (len0_any w _ hbs6))).mono ?_;rintro e w' ⟨rfl,rfl⟩)
      | (gi_at_call 96;refine (CallsIn.inRound l (callsIn_wide.2 (str_any w ⟨#[]⟩ x.1 _ hbs6 (by decide) hx.2 hz6))).mono ?_;rintro e w9 ⟨⟨u9,rfl⟩,hbs9,hk9,ho9⟩))
     obtain ⟨hls9,hfr9⟩:=builder_step hls6 hbs6 hk9 ho9
     have hfr:=((hfr2.trans hfr4).trans hfr6).trans hfr9
     refine ⟨hfr.1,hfr.2,?_⟩
     dsimp only
     rw [hst]
     obtain ⟨t1,t2,t3,t4,t5⟩:=hls9
     exact ⟨⟨_,t2,t3,trivial⟩,t1,t4,by rw [empty_appL] at hbs9;exact hbs9,t5⟩
    ·go_simp
     refine (CallsIn.inRound l (callsIn_wide.2 (string_any w line _ hbs2 hz2'))).mono ?_
     rintro e w3 ⟨rfl,hbs3',hk3,ho3⟩
     obtain ⟨hls3,hfr3⟩:=builder_step hls2 hbs2 hk3 ho3
     have hc3:=(Boxed.cell hls3.2.1)
     have hd3:=cell_alloc_l (.cells #[.string line] 9) hc3
     have hr3:=hls3.2.2.1
     have hs3:=Boxed.lt hls3.2.2.2.1
     refine hK _ _ ?_
     clear hK K
     refine ready2 (i:=0) (j:=2) (by kernel_rfl) rfl rfl (fun K hK=>?_) (fun K hK=>?_)
     ·go_simp
      refine hK _ _ ?_
      clear hK K
      refine ready1 (i:=2) (by kernel_rfl) rfl (fun K hK=>?_)
      go_simp
      refine hK _ _ ?_
      clear hK K
      refine ready_append (j:=3) (by kernel_rfl) rfl rfl _ _ 54 rfl (w.heap.size+4) 9 i0 (.string ⟨#[]⟩) 1 16 Tryz.underlying54 hi hz0 hz1 hz2 rfl (by decide) v lines.length _ rfl (hr3.alloc _) ⟨w3.heap.size,0,none⟩ 1 1 [.string line] rfl rfl (cell_one_new _ _ _) (by simp [Value.oneCell']) (by unfold maxLen;omega) (by omega) (by simp;omega) ?_
      intro v' w4 hown' hgrow
      obtain ⟨g',cap',rfl⟩:=ownsRow_succ hown'
      obtain ⟨hv4,hls4,hbs4,hfr4⟩:=lines_step hls2 hbs2 hk3 ho3 hbs3' hown' hgrow
      have hc4:=hv4.cell
      have hf4:=hv4.frozen
      refine ready1 (i:=4) (by kernel_rfl) rfl (fun K hK=>?_)
      go_simp
      refine hK _ _ ?_
      clear hK K
      refine wpAnyIn_done (by kernel_rfl) ?_ _
      clear hown' hgrow hv4 hc4 hf4
      generalize w4.setCell ⟨w.heap.size+1,0,none⟩ (.slice (some ⟨g',0,none⟩) (lines.length+1) cap')=W5 at hls4 hbs4 hfr4 ⊢
      have hz5:w.heap.size+2≤W5.heap.size:=by have:=Boxed.lt hls4.2.2.2.1;omega
      gi_wp2_with (first
       | (gi_at_call 94;refine (CallsIn.inRound l (callsIn_wide.2 (reset_any w line _ hbs4))).mono ?_;rintro e w6 ⟨rfl,hbs6,hk6,ho6⟩;obtain ⟨hls6,hfr6⟩:=builder_step hls4 hbs4 hk6 ho6;have hz6:w.heap.size+2≤w6.heap.size:=Nat.le_trans hz5 hk6.size)
       | (gi_at_call 92;refine (CallsIn.inRound l (callsIn_wide.2 (len0_any w _ hbs6))).mono ?_;rintro e w' ⟨rfl,rfl⟩)
       | (gi_at_call 96;refine (CallsIn.inRound l (callsIn_wide.2 (str_any w ⟨#[]⟩ x.1 _ hbs6 (by decide) hx.2 hz6))).mono ?_;rintro e w9 ⟨⟨u9,rfl⟩,hbs9,hk9,ho9⟩))
      obtain ⟨hls9,hfr9⟩:=builder_step hls6 hbs6 hk9 ho9
      have hfr:=((hfr2.trans hfr4).trans hfr6).trans hfr9
      refine ⟨hfr.1,hfr.2,?_⟩
      dsimp only
      rw [hst]
      obtain ⟨t1,t2,t3,t4,t5⟩:=hls9
      exact ⟨⟨_,t2,t3,trivial⟩,t1,t4,by rw [empty_appL] at hbs9;exact hbs9,t5⟩
     ·go_simp
      refine hK _ _ ?_
      clear hK K
      refine ready1 (i:=0) (by kernel_rfl) rfl (fun K hK=>?_)
      go_simp
      refine hK _ _ ?_
      clear hK K
      refine ready_append (j:=3) (by kernel_rfl) rfl rfl _ _ 54 rfl (w.heap.size+4) 9 i0 (.string ⟨#[]⟩) 1 16 Tryz.underlying54 hi hz0 hz1 hz2 rfl (by decide) v lines.length _ rfl (hr3.alloc _) ⟨w3.heap.size,0,none⟩ 1 1 [.string line] rfl rfl (cell_one_new _ _ _) (by simp [Value.oneCell']) (by unfold maxLen;omega) (by omega) (by simp;omega) ?_
      intro v' w4 hown' hgrow
      obtain ⟨g',cap',rfl⟩:=ownsRow_succ hown'
      obtain ⟨hv4,hls4,hbs4,hfr4⟩:=lines_step hls2 hbs2 hk3 ho3 hbs3' hown' hgrow
      have hc4:=hv4.cell
      have hf4:=hv4.frozen
      refine ready1 (i:=4) (by kernel_rfl) rfl (fun K hK=>?_)
      go_simp
      refine hK _ _ ?_
      clear hK K
      refine wpAnyIn_done (by kernel_rfl) ?_ _
      clear hown' hgrow hv4 hc4 hf4
      generalize w4.setCell ⟨w.heap.size+1,0,none⟩ (.slice (some ⟨g',0,none⟩) (lines.length+1) cap')=W5 at hls4 hbs4 hfr4 ⊢
      have hz5:w.heap.size+2≤W5.heap.size:=by have:=Boxed.lt hls4.2.2.2.1;omega
      gi_wp2_with (first
       | (gi_at_call 94;refine (CallsIn.inRound l (callsIn_wide.2 (reset_any w line _ hbs4))).mono ?_;rintro e w6 ⟨rfl,hbs6,hk6,ho6⟩;obtain ⟨hls6,hfr6⟩:=builder_step hls4 hbs4 hk6 ho6;have hz6:w.heap.size+2≤w6.heap.size:=Nat.le_trans hz5 hk6.size)
       | (gi_at_call 92;refine (CallsIn.inRound l (callsIn_wide.2 (len0_any w _ hbs6))).mono ?_;rintro e w' ⟨rfl,rfl⟩)
       | (gi_at_call 96;refine (CallsIn.inRound l (callsIn_wide.2 (str_any w ⟨#[]⟩ x.1 _ hbs6 (by decide) hx.2 hz6))).mono ?_;rintro e w9 ⟨⟨u9,rfl⟩,hbs9,hk9,ho9⟩))
      obtain ⟨hls9,hfr9⟩:=builder_step hls6 hbs6 hk9 ho9
      have hfr:=((hfr2.trans hfr4).trans hfr6).trans hfr9
      refine ⟨hfr.1,hfr.2,?_⟩
      dsimp only
      rw [hst]
      obtain ⟨t1,t2,t3,t4,t5⟩:=hls9
      exact ⟨⟨_,t2,t3,trivial⟩,t1,t4,by rw [empty_appL] at hbs9;exact hbs9,t5⟩
   ·have hd:decide ((0:Int) < (line.size:Int))=true:=decide_eq_true (by omega)
    have hd':(0:Int) < (line.size:Int):=by omega
    have hdq:decide (q < (line.size:Int)+1+(x.1.size:Int))=false:=decide_eq_false hq
    have e0:stepLn q (lines,line) x.1=(lines,line ++ ⟨#[32]⟩ ++ x.1):=by simp only [stepLn];rw [if_pos h0,if_neg hq]
    have ez:(line ++ ⟨#[32]⟩).size=line.size+1:=by rw [ByteArray.size_append];rfl
    rw [e0] at hst
    gi_wp2
    refine quietRound rfl hmx (by kernel_rfl) ?_
    repeat (gi_big_quiet_step (exact CallsIn.quiet_of_same (callsIn_wide.2 (len_any w line _ hbs))))
    refine wpQuietIn_nil ?_
    intro _ hw'
    obtain ⟨nq,hw''⟩:=hw'
    subst hw''
    have hls1:LS0 w s q v lines (W.drewN nq):=hls.drewN nq
    have hbs1:BS w line (W.drewN nq):=hbs
    have hfr1:Fr w W (W.drewN nq):=Fr.drewN w W nq
    have hcq1:(W.drewN nq).cell? ⟨w.heap.size,0,none⟩=some (.int .i64 q):=hcq
    generalize W.drewN nq=W1 at hls1 hbs1 hfr1 hcq1
    have hz1':w.heap.size+2≤W1.heap.size:=by have:=(Boxed.lt hls1.2.2.2.1);omega
    gi_wp2_with (first
     | (gi_at_call 92;refine (CallsIn.inRound l (callsIn_wide.2 (len_any w line _ hbs1))).mono ?_;rintro e w' ⟨rfl,rfl⟩)
     | (gi_at_call 95;refine (CallsIn.inRound l (callsIn_wide.2 (byte_any w line _ hbs1 (by omega) hz1'))).mono ?_;rintro e w8 ⟨rfl,hbs8,hk8,ho8⟩;obtain ⟨hls8,hfr8⟩:=builder_step hls1 hbs1 hk8 ho8;have hz8:w.heap.size+2≤w8.heap.size:=Nat.le_trans hz1' hk8.size)
     | (gi_at_call 96;refine (CallsIn.inRound l (callsIn_wide.2 (str_any w (line ++ ⟨#[32]⟩) x.1 _ hbs8 (by omega) hx.2 hz8))).mono ?_;rintro e w9 ⟨⟨u9,rfl⟩,hbs9,hk9,ho9⟩))
    obtain ⟨hls9,hfr9⟩:=builder_step hls8 hbs8 hk9 ho9
    refine ⟨((hfr1.trans hfr8).trans hfr9).1,((hfr1.trans hfr8).trans hfr9).2,?_⟩
    dsimp only
    rw [hst]
    obtain ⟨t1,t2,t3,t4,t5⟩:=hls9
    exact ⟨⟨_,t2,t3,trivial⟩,t1,t4,hbs9,t5⟩
  ·have hd:decide ((0:Int) < (line.size:Int))=false:=decide_eq_false (by omega)
   have hd':¬ (0:Int) < (line.size:Int):=by omega
   have e0:stepLn q (lines,line) x.1=(lines,x.1):=by simp [stepLn,h0]
   have el:line ++ x.1=x.1:=by rw [← empty_ofL (show line.size=0 by omega),empty_appL]
   rw [e0] at hst
   gi_wp2
   refine quietRound rfl hmx (by kernel_rfl) ?_
   repeat (gi_big_quiet_step (exact CallsIn.quiet_of_same (callsIn_wide.2 (len_any w line _ hbs))))
   refine wpQuietIn_nil ?_
   intro _ hw'
   obtain ⟨nq,hw''⟩:=hw'
   subst hw''
   have hls1:LS0 w s q v lines (W.drewN nq):=hls.drewN nq
   have hbs1:BS w line (W.drewN nq):=hbs
   have hfr1:Fr w W (W.drewN nq):=Fr.drewN w W nq
   have hcq1:(W.drewN nq).cell? ⟨w.heap.size,0,none⟩=some (.int .i64 q):=hcq
   generalize W.drewN nq=W1 at hls1 hbs1 hfr1 hcq1
   have hz1':w.heap.size+2≤W1.heap.size:=by have:=(Boxed.lt hls1.2.2.2.1);omega
   gi_wp2_with (first
    | (gi_at_call 92;refine (CallsIn.inRound l (callsIn_wide.2 (len_any w line _ hbs1))).mono ?_;rintro e w' ⟨rfl,rfl⟩)
    | (gi_at_call 96;refine (CallsIn.inRound l (callsIn_wide.2 (str_any w line x.1 _ hbs1 (by omega) hx.2 hz1'))).mono ?_;rintro e w9 ⟨⟨u9,rfl⟩,hbs9,hk9,ho9⟩))
   obtain ⟨hls9,hfr9⟩:=builder_step hls1 hbs1 hk9 ho9
   refine ⟨(hfr1.trans hfr9).1,(hfr1.trans hfr9).2,?_⟩
   dsimp only
   rw [hst]
   obtain ⟨t1,t2,t3,t4,t5⟩:=hls9
   exact ⟨⟨_,t2,t3,trivial⟩,t1,t4,by rw [el] at hbs9;exact hbs9,t5⟩
 case done =>
  rintro D ys W hD rfl ⟨⟨v,hv,hrow,_⟩,hbq,hbs3,hbs,hB⟩ hKd
  obtain ⟨hn1,hn2⟩:=lnSt_bound q (wordsW s)
  have hls:LS0 w s q v (lnSt q (wordsW s)).1 W:=⟨hbq,hv,hrow,hbs3,hB⟩
  obtain ⟨st,hst⟩:∃ st,lnSt q (wordsW s)=st:=⟨_,rfl⟩
  rw [hst] at hn1 hn2 hls hbs hrow
  obtain ⟨lines,line⟩:=st
  dsimp only at hn1 hn2 hls hbs hrow
  have hz1':w.heap.size+2≤W.heap.size:=by have:=(Boxed.lt hbs3);omega
  by_cases h0:0 < line.size
  ·have hd':(0:Int) < (line.size:Int):=by omega
   have eo:lnOut (lines,line)=lines ++ [line]:=by simp [lnOut,h0]
   gi_wp2_with (gi_at_call 92;refine (callsIn_wide.2 (len_any w line _ hbs)).mono ?_;rintro e w' ⟨rfl,rfl⟩)
   refine wpIn_region_any hmx ?_
   change wpAnyIn _ _ _ _ _ _ _ _ _ (World.drew _)
   have hls2:LS0 w s q v lines w'.drew:=hls.drew
   have hbs2:BS w line w'.drew:=hbs
   have hfr2:Fr w w' w'.drew:=Fr.drew w w'
   have hz2':w.heap.size+2≤w'.drew.heap.size:=hz1'
   generalize w'.drew=W2 at hls2 hbs2 hfr2 hz2'
   have hc2:=Boxed.cell hls2.2.1
   refine ready2 (i:=0) (j:=1) (by kernel_rfl) rfl rfl (fun K hK=>?_) (fun K hK=>?_)
   ·go_simp
    refine hK _ _ ?_
    clear hK K
    refine ready1 (i:=1) (by kernel_rfl) rfl (fun K hK=>?_)
    go_simp
    refine (callsIn_wide.2 (string_any w line _ hbs2 hz2')).mono ?_
    rintro e w3 ⟨rfl,hbs3',hk3,ho3⟩
    obtain ⟨hls3,hfr3⟩:=builder_step hls2 hbs2 hk3 ho3
    have hc3:=(Boxed.cell hls3.2.1)
    have hd3:=cell_alloc_l (.cells #[.string line] 9) hc3
    have hr3:=hls3.2.2.1
    have hs3:=Boxed.lt hls3.2.2.2.1
    refine hK _ _ ?_
    clear hK K
    refine ready1 (i:=2) (by kernel_rfl) rfl (fun K hK=>?_)
    go_simp
    refine hK _ _ ?_
    clear hK K
    refine ready_append (j:=3) (by kernel_rfl) rfl rfl _ _ 54 rfl (w.heap.size+4) 9 i0 (.string ⟨#[]⟩) 1 16 Tryz.underlying54 hi hz0 hz1 hz2 rfl (by decide) v lines.length _ rfl (hr3.alloc _) ⟨w3.heap.size,0,none⟩ 1 1 [.string line] rfl rfl (cell_one_new _ _ _) (by simp [Value.oneCell']) (by unfold maxLen;omega) (by omega) (by simp;omega) ?_
    intro v' w4 hown' hgrow
    obtain ⟨g',cap',rfl⟩:=ownsRow_succ hown'
    obtain ⟨hv4,hls4,hbs4,hfr4⟩:=lines_step hls2 hbs2 hk3 ho3 hbs3' hown' hgrow
    have hc4:=hv4.cell
    have hf4:=hv4.frozen
    refine ready1 (i:=4) (by kernel_rfl) rfl (fun K hK=>?_)
    go_simp
    refine hK _ _ ?_
    clear hK K
    refine wpAnyIn_done (by kernel_rfl) ?_ _
    clear hown' hgrow hv4 hc4 hf4
    generalize w4.setCell ⟨w.heap.size+1,0,none⟩ (.slice (some ⟨g',0,none⟩) (lines.length+1) cap')=W5 at hls4 hbs4 hfr4 ⊢
    have hc5:=Boxed.cell hls4.2.1
    have hK5:=(hfr2.trans hfr4).1.same D _ hKd rfl
    have hr5:=hls4.2.2.1
    gi_wp2
    refine ⟨by simp,.inl ⟨_,_,rfl,run_takeDeferred hK5,?_⟩⟩
    refine ⟨_,results_tmp rfl _ _ _,_,rfl,?_,hls4.2.2.2.2.trans (belowK_b (w:=w) (Nat.le_refl _) W5 D _ _ (by simp at hD;omega) hK5 rfl rfl)⟩
    rw [hst,eo]
    exact ownsRow_leL (ownsRow_putObj hr5 _ hK5 rfl) (by omega)
   ·go_simp
    refine (callsIn_wide.2 (string_any w line _ hbs2 hz2')).mono ?_
    rintro e w3 ⟨rfl,hbs3',hk3,ho3⟩
    obtain ⟨hls3,hfr3⟩:=builder_step hls2 hbs2 hk3 ho3
    have hc3:=(Boxed.cell hls3.2.1)
    have hd3:=cell_alloc_l (.cells #[.string line] 9) hc3
    have hr3:=hls3.2.2.1
    have hs3:=Boxed.lt hls3.2.2.2.1
    refine hK _ _ ?_
    clear hK K
    refine ready2 (i:=0) (j:=2) (by kernel_rfl) rfl rfl (fun K hK=>?_) (fun K hK=>?_)
    ·go_simp
     refine hK _ _ ?_
     clear hK K
     refine ready1 (i:=2) (by kernel_rfl) rfl (fun K hK=>?_)
     go_simp
     refine hK _ _ ?_
     clear hK K
     refine ready_append (j:=3) (by kernel_rfl) rfl rfl _ _ 54 rfl (w.heap.size+4) 9 i0 (.string ⟨#[]⟩) 1 16 Tryz.underlying54 hi hz0 hz1 hz2 rfl (by decide) v lines.length _ rfl (hr3.alloc _) ⟨w3.heap.size,0,none⟩ 1 1 [.string line] rfl rfl (cell_one_new _ _ _) (by simp [Value.oneCell']) (by unfold maxLen;omega) (by omega) (by simp;omega) ?_
     intro v' w4 hown' hgrow
     obtain ⟨g',cap',rfl⟩:=ownsRow_succ hown'
     obtain ⟨hv4,hls4,hbs4,hfr4⟩:=lines_step hls2 hbs2 hk3 ho3 hbs3' hown' hgrow
     have hc4:=hv4.cell
     have hf4:=hv4.frozen
     refine ready1 (i:=4) (by kernel_rfl) rfl (fun K hK=>?_)
     go_simp
     refine hK _ _ ?_
     clear hK K
     refine wpAnyIn_done (by kernel_rfl) ?_ _
     clear hown' hgrow hv4 hc4 hf4
     generalize w4.setCell ⟨w.heap.size+1,0,none⟩ (.slice (some ⟨g',0,none⟩) (lines.length+1) cap')=W5 at hls4 hbs4 hfr4 ⊢
     have hc5:=Boxed.cell hls4.2.1
     have hK5:=(hfr2.trans hfr4).1.same D _ hKd rfl
     have hr5:=hls4.2.2.1
     gi_wp2
     refine ⟨by simp,.inl ⟨_,_,rfl,run_takeDeferred hK5,?_⟩⟩
     refine ⟨_,results_tmp rfl _ _ _,_,rfl,?_,hls4.2.2.2.2.trans (belowK_b (w:=w) (Nat.le_refl _) W5 D _ _ (by simp at hD;omega) hK5 rfl rfl)⟩
     rw [hst,eo]
     exact ownsRow_leL (ownsRow_putObj hr5 _ hK5 rfl) (by omega)
    ·go_simp
     refine hK _ _ ?_
     clear hK K
     refine ready1 (i:=0) (by kernel_rfl) rfl (fun K hK=>?_)
     go_simp
     refine hK _ _ ?_
     clear hK K
     refine ready_append (j:=3) (by kernel_rfl) rfl rfl _ _ 54 rfl (w.heap.size+4) 9 i0 (.string ⟨#[]⟩) 1 16 Tryz.underlying54 hi hz0 hz1 hz2 rfl (by decide) v lines.length _ rfl (hr3.alloc _) ⟨w3.heap.size,0,none⟩ 1 1 [.string line] rfl rfl (cell_one_new _ _ _) (by simp [Value.oneCell']) (by unfold maxLen;omega) (by omega) (by simp;omega) ?_
     intro v' w4 hown' hgrow
     obtain ⟨g',cap',rfl⟩:=ownsRow_succ hown'
     obtain ⟨hv4,hls4,hbs4,hfr4⟩:=lines_step hls2 hbs2 hk3 ho3 hbs3' hown' hgrow
     have hc4:=hv4.cell
     have hf4:=hv4.frozen
     refine ready1 (i:=4) (by kernel_rfl) rfl (fun K hK=>?_)
     go_simp
     refine hK _ _ ?_
     clear hK K
     refine wpAnyIn_done (by kernel_rfl) ?_ _
     clear hown' hgrow hv4 hc4 hf4
     generalize w4.setCell ⟨w.heap.size+1,0,none⟩ (.slice (some ⟨g',0,none⟩) (lines.length+1) cap')=W5 at hls4 hbs4 hfr4 ⊢
     have hc5:=Boxed.cell hls4.2.1
     have hK5:=(hfr2.trans hfr4).1.same D _ hKd rfl
     have hr5:=hls4.2.2.1
     gi_wp2
     refine ⟨by simp,.inl ⟨_,_,rfl,run_takeDeferred hK5,?_⟩⟩
     refine ⟨_,results_tmp rfl _ _ _,_,rfl,?_,hls4.2.2.2.2.trans (belowK_b (w:=w) (Nat.le_refl _) W5 D _ _ (by simp at hD;omega) hK5 rfl rfl)⟩
     rw [hst,eo]
     exact ownsRow_leL (ownsRow_putObj hr5 _ hK5 rfl) (by omega)
  ·have hd':¬ (0:Int) < (line.size:Int):=by omega
   have eo:lnOut (lines,line)=lines:=by simp [lnOut,h0]
   have hc:=hv.cell
   gi_wp2_with (gi_at_call 92;refine (callsIn_wide.2 (len_any w line _ hbs)).mono ?_;rintro e w' ⟨rfl,rfl⟩)
   refine ⟨by simp,.inl ⟨_,_,rfl,run_takeDeferred hKd,?_⟩⟩
   refine ⟨_,results_tmp rfl _ _ _,_,rfl,?_,hB.trans (belowK_b (w:=w) (Nat.le_refl _) _ D _ _ (by simp at hD;omega) hKd rfl rfl)⟩
   rw [hst,eo]
   exact ownsRow_leL (ownsRow_putObj hrow _ hKd rfl) (by omega)
 case stop =>
  rintro D c pre W _ _ h _
  exact h.elim
end Go.Proofs.YtggmjiddadjilaeGreat
