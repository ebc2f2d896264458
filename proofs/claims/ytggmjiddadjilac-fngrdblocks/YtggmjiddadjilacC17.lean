/-
  PROVED HERE: what the program's GrdBlocks answers at a grid that lies in memory, and that its answer owns its memory; nothing that was in memory is turned. Also: how a drawn table's cells are put at their places, row by row, each at the first column at which it is free: each finds it ahead of the 85th, since no more than twelve cells have a row in common with it and each shuts seven columns at most.
-/
import Derived.Test.YtggmjiddadjilacC16
import Derived.Test.YtggmjiddadjilacC6
import Derived.Deep.DeepCutAuto
import Derived.Deep.RegionWith
namespace Go.Proofs.Ytggmjiddadjilac
open Go.RowKit

/-- whether a cell begins above a row and goes over it -/
def overI (row:Int) (x:GC):Bool:=decide (x.row < row) && amongB row x.row x.rows
def overS (row:Int) (x:GC):Bool:=decide (x.row < row) && decide (row < x.row+x.rows)
theorem over_eq {R C:Int} {x:GC} (h:fitsB R C x=true) (row:Int):overI row x=overS row x:=by
 obtain ⟨e1,e2,e3,e4,h1,h2,h3,h4⟩:=fits_of h
 rw [Bool.eq_iff_iff]
 simp [overI,overS,amongB]
 omega
def crossI (gs:List GC) (row:Int):Bool:=gs.any (overI row)
def crossS (gs:List GC) (row:Int):Bool:=gs.any (overS row)
theorem cross_eq {R C:Int} {gs:List GC} (h:∀ a ∈ gs,fitsB R C a=true) (row:Int):crossI gs row=crossS gs row:=by
 unfold crossI crossS
 induction gs with
 | nil=>rfl
 | cons a t ih=>rw [List.any_cons,List.any_cons,over_eq (h a (by simp)),ih (fun b hb=>h b (by simp [hb]))]
/-- the first rows of blocks among the first so many rows -/
def blocksTo (gs:List GC) (k:Nat):List Int:=((List.range k).filter (fun r:Nat=>!crossS gs (r:Int))).map (fun r=>((r:Nat):Int))
theorem blocksTo_zero (gs:List GC):blocksTo gs 0=[]:=rfl
theorem blocksTo_in {gs:List GC} {k:Nat} (h:crossS gs k=false):blocksTo gs (k+1)=blocksTo gs k ++ [(k:Int)]:=by simp [blocksTo,List.range_succ,h]
theorem blocksTo_out {gs:List GC} {k:Nat} (h:crossS gs k=true):blocksTo gs (k+1)=blocksTo gs k:=by simp [blocksTo,List.range_succ,h]
theorem blocksTo_len (gs:List GC) (k:Nat):(blocksTo gs k).length≤k:=by
 have:=List.length_filter_le (fun r:Nat=>!crossS gs (r:Int)) (List.range k)
 simpa [blocksTo] using this
def blocksL (g:G):List Int:=if okB g then blocksTo g.cells g.rows.toNat else []
theorem blocksL_no {g:G} (h:okB g=false):blocksL g=[]:=by rw [blocksL,if_neg (by rw [h];simp)]
theorem blocksL_ok {g:G} (h:okB g=true):blocksL g=blocksTo g.cells g.rows.toNat:=by rw [blocksL,if_pos h]
theorem cross_hit {gs:List GC} {row:Int} {k:Nat} (hk:k < gs.length) (h:overI row (gs.getD k dG)=true):crossI gs row=true:=by
 refine List.any_eq_true.2 ⟨gs[k],List.getElem_mem hk,?_⟩
 have e:gs.getD k dG=gs[k]:=by simp [List.getD,hk]
 rw [← e];exact h
theorem cross_none {gs:List GC} {row:Int} (h:∀ j,j < gs.length→overI row (gs.getD j dG)=false):crossI gs row=false:=by
 cases hc:crossI gs row with
 | false=>rfl
 | true =>
  obtain ⟨x,hx,ho⟩:=List.any_eq_true.1 hc
  obtain ⟨i,hi,rfl⟩:=List.mem_iff_getElem.1 hx
  have:=h i hi
  have e:gs.getD i dG=gs[i]:=by simp [List.getD,hi]
  rw [e,ho] at this
  cases this

set_option maxRecDepth 100000 in
set_option maxHeartbeats 1000000 in
theorem isCrossed_any (a b:Int) (ac:Option Addr) (cc:Nat) (gs:List GC) (row:Int) (hr:I64 row) (w:World) {z:Nat} (h:GsAt w z (.slice ac gs.length cc) gs) :
  Calls Try.prog 57 #[.agg #[.int .i64 a,.int .i64 b,.slice ac gs.length cc],.int .i64 row] w fun e w'=>e=.returned (.bool (crossI gs row))∧Below w.heap.size w w':=by
 obtain ⟨_,_,_,hlen⟩:=At.form h
 unfold maxLen at hlen
 have H:=Hid.intro h
 clear h
 go_enter Try.func57,Try.ntmps57
 go_wp2_with fail
 go_loopw [10] (fun i W=>∃ k:Nat,k≤gs.length∧i=.int .i64 k∧Hid (∀ j,j < k→overI row (gs.getD j dG)=false)∧Hid (Below w.heap.size w W)) (fun i _=>gs.length - (intOf i).toNat)
 case atStart=>exact ⟨0,Nat.zero_le _,rfl,fun j hj=>absurd hj (Nat.not_lt_zero _),k_alloc (Below.refl _ _) _⟩
 case round =>
  obtain ⟨k,hk,rfl,HA,HB⟩:=hrel
  by_cases hlt:k < gs.length
  ·obtain ⟨q,off,cap',e',hc1,hc2,hbl,hx,hs⟩:=At.get (H.out.kept HB.out) hlt
   simp only [Value.slice.injEq,true_and] at e'
   obtain ⟨rfl,rfl⟩:=e'
   have HH:Hid (overI row (gs.getD k dG)=true→crossI gs row=true):=fun hp=>cross_hit hlt hp
   have HN:Hid (overI row (gs.getD k dG)=false→∀ j,j < k+1→overI row (gs.getD j dG)=false):=fun hp j hj=>by
    rcases Nat.lt_or_eq_of_le (Nat.lt_succ_iff.1 hj) with h1 | rfl
    ·exact HA.out j h1
    ·exact hp
   generalize gs.getD k dG=x at hx hs HH HN
   obtain ⟨x0,x1,x2,x3,x4⟩:=hx
   obtain ⟨b0,b1,b2,b3,_⟩:=hs
   have H1:=Hid.intro (reaches_any row x.row x.rows hr b0 b2)
   unfold maxLen at hc2
   clear b0 b1 b2 b3
   by_cases h1:x.row < row
   ·cases h2:amongB row x.row x.rows with
    | false =>
     have HF:=Hid.intro (HN.out (by simp only [overI,h2,Bool.and_false]))
     rw [h2] at H1
     clear HH HN HA
     go_wp2_with fail
     refine (H1.out _).mono ?_
     rintro e w1 ⟨rfl,rfl⟩
     go_wp2
     go_roundw
     case rel=>exact ⟨k+1,by omega,by go_num,HF,k_alloc HB.out _⟩
     case measure=>simp [intOf];omega
    | true =>
     have HF:=Hid.intro (HH.out (by simp only [overI,h1,h2,decide_true,Bool.and_self]))
     rw [h2] at H1
     clear HH HN HA
     go_wp2_with fail
     refine (H1.out _).mono ?_
     rintro e w1 ⟨rfl,rfl⟩
     go_wp2
     go_ret
     exact ⟨retB HF.out.symm,k_alloc HB.out _⟩
   ·have HF:=Hid.intro (HN.out (by simp only [overI,h1,decide_false,Bool.false_and]))
    clear HH HN HA
    go_wp2
    go_roundw
    case rel=>exact ⟨k+1,by omega,by go_num,HF,k_alloc HB.out _⟩
    case measure=>simp [intOf];omega
  ·obtain rfl:k=gs.length:=by omega
   have HF:=Hid.intro (cross_none HA.out)
   clear HA
   go_wp2
   go_ret
   exact ⟨retB HF.out.symm,HB.out⟩

theorem own_neI {w:World} {base n0 k:Nat} {e:TypeId} {v:Value} {xs:List Value} (h:w.ownsRow base e 1 v k xs) (hn:n0 < base):some n0 ≠ v.ownBlock:=by
 rcases h.2 with ⟨rfl,_⟩ | ⟨g,cap,cur,rfl,hb,_⟩
 ·simp [Value.ownBlock]
 ·simp [Value.ownBlock];omega
theorem own_ge {w:World} {base j k:Nat} {e:TypeId} {v:Value} {xs:List Value} (h:w.ownsRow base e 1 v k xs) (hj:v.ownBlock=some j):base≤j:=by
 rcases h.2 with ⟨rfl,_⟩ | ⟨g,cap,cur,rfl,hb,_⟩
 ·simp [Value.ownBlock] at hj
 ·simp [Value.ownBlock] at hj;omega
theorem infoIB:(Try.prog.info? 3).map (fun i=>(i.zero,i.size,i.bytes))=some (some (Value.int .i64 0),1,8):=by kernel_rfl
theorem owns_below {w w':World} {base n k:Nat} {v:Value} {xs:List Value} (h:w.ownsRow base 3 1 v k xs) (hb:Below w.heap.size w w') (_:n≤base):w'.ownsRow base 3 1 v k xs:=by
 refine ⟨h.1,?_⟩
 rcases h.2 with h0 | ⟨g,cap,cur,hv,hbs,hg,r⟩
 ·exact .inl h0
 ·exact .inr ⟨g,cap,cur,hv,hbs,(hb.block g (Array.getElem?_eq_some_iff.1 hg).1).trans hg,r⟩

set_option maxRecDepth 100000 in
set_option maxHeartbeats 2000000 in
theorem implblocksOf (Rn:Nat) (hR2:Rn≤1000) (C:Int) (ac:Option Addr) (cc:Nat) (gs:List GC) (hc:∀ row,crossI gs row=crossS gs row) (w:World) {z:Nat} (h:GsAt w z (.slice ac gs.length cc) gs) :
  Calls Try.prog 41 #[.agg #[.int .i64 (Rn:Int),.int .i64 C,.slice ac gs.length cc]] w fun e w'=>∃ v,e=.returned v∧RowI w' w.heap.size w'.heap.size v (blocksTo gs Rn)∧Below w.heap.size w w':=by
 obtain ⟨_,_,_,hlen⟩:=At.form h
 unfold maxLen at hlen
 obtain ⟨i0,hi,hz0,hz1,hz2⟩:=info_parts infoIB
 obtain ⟨w1,hw1⟩:∃ w1,w.alloc (.cells #[.int .i64 (Rn:Int),.int .i64 C,.slice ac gs.length cc] 25)=w1:=⟨_,rfl⟩
 have K1:Hid (Below w.heap.size w w1):=by rw [Hid,← hw1];exact k_alloc (Below.refl _ _) _
 have X1:Hid (w1.heap[w.heap.size]?=some (.cells #[.int .i64 (Rn:Int),.int .i64 C,.slice ac gs.length cc] 25)):=by rw [Hid,← hw1];exact newestB _ _
 have hs1:w.heap.size < w1.heap.size:=by rw [← hw1];simp
 have H:=Hid.intro h
 have HC:=Hid.intro hc
 clear h hc
 go_enter Try.func41,Try.ntmps41
 go_upto_region 2 with fail
 clear hw1
 have g0:w1.cell? ⟨w.heap.size,0,none⟩=some (.int .i64 (Rn:Int)):=cellB X1.out
 go_wp2_with fail
 go_loopw [7,3] (fun i v W=>∃ (k:Nat) (vb:Value),k≤Rn∧i=.int .i64 k∧v=vb∧Hid (W.ownsRow w1.heap.size 3 1 vb (blocksTo gs k).length ((blocksTo gs k).map (Value.int .i64)))∧Hid (Below w.heap.size w W)∧Hid (W.heap[w.heap.size]?=some (.cells #[.int .i64 (Rn:Int),.int .i64 C,.slice ac gs.length cc] 25))∧w1.heap.size≤W.heap.size) (fun i _ _=>Rn - (intOf i).toNat)
 case atStart=>exact ⟨0,_,Nat.zero_le _,rfl,rfl,⟨by simp,.inl ⟨rfl,rfl⟩⟩,K1,X1,Nat.le_refl _⟩
 case round =>
  obtain ⟨k,vb,hk,rfl,rfl,HO,HB,HX,hsr⟩:=hrel
  have g0':wr.cell? ⟨w.heap.size,0,none⟩=some (.int .i64 (Rn:Int)):=cellB HX.out
  have g1:wr.cell? ⟨w.heap.size,1,none⟩=some (.int .i64 C):=cellB HX.out
  have g2:wr.cell? ⟨w.heap.size,2,none⟩=some (.slice ac gs.length cc):=cellB HX.out
  by_cases hlt:k < Rn
  ·have KI:=Hid.intro (isCrossed_any (Rn:Int) C ac cc gs (k:Int) ⟨by omega,by omega⟩ wr (H.out.kept HB.out))
   rw [HC.out] at KI
   have hbl:=blocksTo_len gs k
   cases h1:crossS gs (k:Int) with
   | true =>
    have HS:=Hid.intro (blocksTo_out h1)
    rw [h1] at KI
    clear h1
    go_wp2_with fail
    refine KI.out.mono ?_
    rintro e w2 ⟨rfl,hb2⟩
    have HO2:=Hid.intro (owns_below HO.out hb2 (Nat.le_refl _))
    have HB2:=Hid.intro (k_trans HB.out hb2)
    have HX2:=Hid.intro ((hb2.block w.heap.size (by omega)).trans HX.out)
    have hs2:=Nat.le_trans hsr hb2.size
    clear hb2
    go_wp2
    go_roundw
    case rel=>exact ⟨k+1,_,by omega,by go_num,rfl,by rw [HS.out];exact HO2,HB2,HX2,hs2⟩
    case measure=>simp [intOf];omega
   | false =>
    have HS:=Hid.intro (blocksTo_in h1)
    rw [h1] at KI
    clear h1
    go_wp2_with fail
    refine KI.out.mono ?_
    rintro e w2 ⟨rfl,hb2⟩
    have hO2:=owns_below HO.out hb2 (Nat.le_refl _)
    have HB2:=Hid.intro (k_trans HB.out hb2)
    have HX2:=Hid.intro ((hb2.block w.heap.size (by omega)).trans HX.out)
    have hs2:=Nat.le_trans hsr hb2.size
    clear hb2 HO
    go_wp2_with (at_builtin;refine wpList_append_own _ rfl _ _ 36 rfl w1.heap.size 3 i0 (.int .i64 0) 1 8 Try.underlying36 hi hz0 hz1 hz2 rfl (by decide) _ _ _ rfl (hO2.alloc _) ⟨w2.heap.size,0,none⟩ 1 1 [.int .i64 (k:Int)] rfl rfl ?c1 ?c2 ?c3 ?c4 ?c5 ?_)
    case c1 =>
     intro i u hi
     match i,hi with
     | 0,hi=>simp at hi;subst hi;simp [Addr.add]
    case c2=>intro u hu;simp at hu;subst hu;rfl
    case c3=>unfold maxLen;omega
    case c4=>omega
    case c5=>simp;omega
    intro v' w5 hown' hgrow' _
    have hne:=own_neI hO2 hs1
    have HB5:Hid (Below w.heap.size w w5):=(k_alloc HB2.out _).grown hgrow' (by simp;omega) (fun j e=>by have:=own_ge hO2 e;omega)
    have HX5:Hid (w5.heap[w.heap.size]?=_):=Hid.intro ((hgrow'.block w.heap.size (by simp;omega) hne).trans ((Below.heap_alloc _ _ _ (by omega)).trans HX2.out))
    have hs5:w1.heap.size≤w5.heap.size:=by have:=hgrow'.size;simp at this;omega
    have HO5:Hid (w5.ownsRow w1.heap.size 3 1 v' (blocksTo gs (k+1)).length ((blocksTo gs (k+1)).map (Value.int .i64))):=Hid.intro (by rw [HS.out];simpa using hown')
    obtain ⟨g',cap',rfl⟩:=Joins.ownsRow_form hown' (by omega)
    clear hown' hgrow' hO2 hne
    go_wp2
    go_roundw
    case rel=>exact ⟨k+1,_,by omega,by go_num,rfl,HO5,HB5,HX5,hs5⟩
    case measure=>simp [intOf];omega
  ·obtain rfl:k=Rn:=by omega
   go_wp2
   go_ret
   refine ⟨_,rfl,?_,HB.out⟩
   exact (RowI.of_owns HO.out).base (by omega) (Nat.le_refl _)

set_option maxRecDepth 100000 in
set_option maxHeartbeats 2000000 in
theorem implGrdBlocks (R C:Int) (ac:Option Addr) (cc:Nat) (gs:List GC) (w:World) {z:Nat} (h:GsAt w z (.slice ac gs.length cc) gs) :
  Calls Try.prog 19 #[.agg #[.int .i64 R,.int .i64 C,.slice ac gs.length cc]] w fun e w'=>∃ v,e=.returned v∧RowI w' w.heap.size w'.heap.size v (blocksL ⟨R,C,gs⟩)∧Below w.heap.size w w':=by
 have K0:=Hid.intro (k_alloc (Below.refl w.heap.size w) (.cells #[.int .i64 R,.int .i64 C,.slice ac gs.length cc] 25))
 have H:=Hid.intro h
 clear h
 have KO:=Hid.intro (implGrdOk R C ac cc gs _ (H.out.kept K0.out))
 cases ho:okB ⟨R,C,gs⟩ with
 | false =>
  have HF:=Hid.intro (blocksL_no ho)
  rw [ho] at KO
  clear ho
  go_enter Try.func19,Try.ntmps19
  go_wp2_with fail
  refine KO.out.mono ?_
  rintro e w1 ⟨rfl,hb1⟩
  have K1:=Hid.intro (k_trans K0.out hb1)
  clear hb1
  go_wp2
  go_ret
  exact ⟨_,rfl,.inl ⟨rfl,HF.out⟩,K1.out⟩
 | true =>
  have HF:=Hid.intro (blocksL_ok ho)
  rw [ho] at KO
  have ho2:=ho
  simp only [okB,Bool.and_eq_true] at ho2
  obtain ⟨hR1,hR2,hC1,hC2,hn⟩:=bounds_of ho2.1
  have HFit:=Hid.intro (okTo_fits (Nat.le_refl _) ho2.2)
  rw [List.take_length] at HFit
  have HC:=Hid.intro (fun row=>cross_eq HFit.out row)
  obtain ⟨Rn,rfl⟩:∃ Rn:Nat,R=Rn:=⟨R.toNat,by omega⟩
  have hRn:Rn≤1000:=by omega
  clear ho ho2 hR1 hR2 hC1 hC2 hn
  go_enter Try.func19,Try.ntmps19
  go_wp2_with fail
  refine KO.out.mono ?_
  rintro e w1 ⟨rfl,hb1⟩
  have K1:=Hid.intro (k_trans K0.out hb1)
  have X1:=(hb1.block w.heap.size (by simp)).trans (newestB _ _)
  have g0:w1.cell? ⟨w.heap.size,0,none⟩=some (.int .i64 (Rn:Int)):=cellB X1
  have g1:w1.cell? ⟨w.heap.size,1,none⟩=some (.int .i64 C):=cellB X1
  have g2:w1.cell? ⟨w.heap.size,2,none⟩=some (.slice ac gs.length cc):=cellB X1
  have KB:=Hid.intro (implblocksOf Rn hRn C ac cc gs HC.out w1 (H.out.kept K1.out))
  clear hb1 X1 KO
  go_wp2_with fail
  refine KB.out.mono ?_
  rintro e w2 ⟨v,rfl,hv,hb2⟩
  have K2:=Hid.intro (k_trans K1.out hb2)
  have HV:=Hid.intro hv
  clear hb2 hv KB
  rcases HV.out with ⟨rfl,_⟩ | ⟨g,cap,cur,rfl,_⟩
  ·go_wp2
   go_ret
   exact ⟨_,rfl,by rw [HF.out];exact HV.out.base K1.out.size (Nat.le_refl _),K2.out⟩
  ·go_wp2
   go_ret
   exact ⟨_,rfl,by rw [HF.out];exact HV.out.base K1.out.size (Nat.le_refl _),K2.out⟩
end Go.Proofs.Ytggmjiddadjilac
namespace Go.Proofs.Ytggmjiddadjilac

/-- an interval of seven shuts no more than seven columns -/
theorem cnt7 (l:Int) (N:Nat):(((List.range N).countP (fun c:Nat=>decide (l≤(c:Int)∧(c:Int) < l+7)):Nat):Int)≤max 0 (min 7 (N - l)):=by
 induction N with
 | zero=>simp;omega
 | succ N ih =>
  rw [List.range_succ,List.countP_append,List.countP_cons,List.countP_nil]
  by_cases h:l≤(N:Int)∧(N:Int) < l+7
  ·rw [if_pos (decide_eq_true h)];omega
  ·rw [if_neg (by simpa using h)];omega
theorem countP_or {α:Type} (p q:α→Bool) (l:List α):l.countP (fun x=>p x || q x)≤l.countP p+l.countP q:=by
 induction l with
 | nil=>simp
 | cons a t ih =>
  rw [List.countP_cons,List.countP_cons,List.countP_cons]
  cases p a <;> cases q a <;> simp <;> omega
theorem shut_cnt (N:Nat):∀ ls:List Int,(List.range N).countP (fun c:Nat=>ls.any fun l=>decide (l≤(c:Int)∧(c:Int) < l+7))≤7 * ls.length
 | []=>by simp
 | l :: t=>by
  have h1:=shut_cnt N t
  have h2:=cnt7 l N
  have h3:=countP_or (fun c:Nat=>decide (l≤(c:Int)∧(c:Int) < l+7)) (fun c:Nat=>t.any fun l=>decide (l≤(c:Int)∧(c:Int) < l+7)) (List.range N)
  simp only [List.any_cons,List.length_cons]
  omega
theorem shut_some (ls:List Int):∃ c:Nat,c≤7 * ls.length∧∀ l ∈ ls,¬ (l≤(c:Int)∧(c:Int) < l+7):=by
 apply Classical.byContradiction
 intro hn
 have hall:∀ c ∈ List.range (7 * ls.length+1),(ls.any fun l=>decide (l≤(c:Int)∧(c:Int) < l+7))=true:=by
  intro c hc
  rw [List.mem_range] at hc
  apply Classical.byContradiction
  intro h
  refine hn ⟨c,by omega,fun l hl h2=>h ?_⟩
  exact List.any_eq_true.2 ⟨l,hl,decide_eq_true h2⟩
 have h1:=List.countP_eq_length.2 hall
 have h2:=shut_cnt (7 * ls.length+1) ls
 rw [List.length_range] at h1
 omega
/-- a cell at another column -/
def atCol (x:GC) (c:Int):GC:=⟨x.row,c,x.rows,x.cols,x.ins⟩
/-- whether two cells have a row in common -/
def rowMeets (a x:GC):Bool:=decide (a.row < x.row+x.rows) && decide (x.row < a.row+a.rows)
theorem free_exists (gs:List GC) (x:GC) (hx:1≤x.cols∧x.cols≤4) (hg:∀ a ∈ gs,1≤a.cols∧a.cols≤4):∃ c:Nat,c≤7 * (gs.filter fun a=>rowMeets a x).length∧freeG gs (atCol x c)=true:=by
 obtain ⟨c,h1,h2⟩:=shut_some ((gs.filter fun a=>rowMeets a x).map fun a=>a.col - x.cols+1)
 rw [List.length_map] at h1
 refine ⟨c,h1,List.all_eq_true.2 fun a ha=>?_⟩
 cases hm:meetsB a (atCol x c) with
 | false=>rfl
 | true =>
  exfalso
  unfold meetsB atCol at hm
  simp only [Bool.and_eq_true,decide_eq_true_eq] at hm
  have hc:=hg a ha
  refine h2 (a.col - x.cols+1) (List.mem_map.2 ⟨a,List.mem_filter.2 ⟨ha,?_⟩,rfl⟩) (by omega)
  simp only [rowMeets,Bool.and_eq_true,decide_eq_true_eq]
  omega
/-- the first column, of so many, at which a cell is free -/
def ffreeN (N:Nat) (gs:List GC) (x:GC):Nat:=(List.range N).findIdx (fun c:Nat=>freeG gs (atCol x c))
theorem ffreeN_le {N:Nat} {gs:List GC} {x:GC} {c:Nat} (hc:c < N) (h:freeG gs (atCol x c)=true):ffreeN N gs x≤c∧freeG gs (atCol x (ffreeN N gs x))=true∧∀ k,k < ffreeN N gs x→freeG gs (atCol x (k:Nat))=false:=by
 have hl:ffreeN N gs x < (List.range N).length:=List.findIdx_lt_length_of_exists ⟨c,List.mem_range.2 hc,h⟩
 have hno:∀ k,k < ffreeN N gs x→freeG gs (atCol x (k:Nat))=false:=by
  intro k hk
  have:=List.not_of_lt_findIdx (p:=fun c:Nat=>freeG gs (atCol x c)) (xs:=List.range N) hk
  simpa using this
 refine ⟨?_,?_,hno⟩
 ·apply Classical.byContradiction
  intro hn
  have:=hno c (by omega)
  rw [h] at this
  cases this
 ·have e:(List.range N)[ffreeN N gs x]'hl=ffreeN N gs x:=List.getElem_range hl
  have h1:freeG gs (atCol x (((List.range N)[ffreeN N gs x]'hl:Nat):Int))=true:=List.findIdx_getElem (p:=fun c:Nat=>freeG gs (atCol x c)) (xs:=List.range N) (w:=hl)
  rw [e] at h1
  exact h1
/-- the first column at which a cell is free -/
def ffree (gs:List GC) (x:GC):Nat:=ffreeN 1000 gs x
theorem ffree_le {gs:List GC} {x:GC} {c:Nat} (hc:c < 1000) (h:freeG gs (atCol x c)=true):ffree gs x≤c∧freeG gs (atCol x (ffree gs x))=true∧∀ k,k < ffree gs x→freeG gs (atCol x (k:Nat))=false:=ffreeN_le hc h
/-- the row behind the part of a row -/
def endOf (t:T) (r:Nat):Int:=if (r:Int) < t.head then t.head else if (t.rows.length:Int) - t.foot≤r then t.rows.length else t.rows.length - t.foot
/-- a cell in its row, its column not yet known -/
def bare (r i:Nat) (e:Int) (x:C):GC:=⟨r,0,min x.r (e - r),x.c,i⟩
/-- a cell put at its place -/
def place (gs:List GC) (r i:Nat) (e:Int) (x:C):GC:=atCol (bare r i e x) (ffree gs (bare r i e x))
/-- the first cells of a row put at their places -/
def rowTo (e:Int) (r:Nat) (cs:List C) (gs:List GC):Nat→List GC
 | 0=>gs
 | i+1=>rowTo e r cs gs i ++ [place (rowTo e r cs gs i) r i e (cs.getD i dC)]
/-- the cells of the first rows put at their places -/
def gridTo (t:T):Nat→List GC
 | 0=>[]
 | r+1=>rowTo (endOf t r) r (t.rows.getD r dR).cells (gridTo t r) (t.rows.getD r dR).cells.length
/-- how many columns there are -/
def colsOf (m:Int) (gs:List GC):Int:=gs.foldl (fun m a=>max m (a.col+a.cols)) m
theorem colsOf_snoc (m:Int) (gs:List GC) (x:GC):colsOf m (gs ++ [x])=max (colsOf m gs) (x.col+x.cols):=by simp [colsOf]
/-- what a drawn table's cells are, where it is ok: few, over no more than three rows -/
structure Low (t:T):Prop where
 rows:t.rows.length≤8
 span:∀ r ∈ t.rows,∀ x ∈ r.cells,(1≤x.c∧x.c≤4)∧1≤x.r∧x.r≤3
 few:∃ k,∀ i,(t.rows.getD i dR).cells.length≤if i=k then 5 else 4
 head:0≤t.head∧t.head≤t.rows.length
 foot:0≤t.foot∧t.head+t.foot≤t.rows.length
/-- a cell that stands in a grid of a drawn table -/
def Stands (n:Nat) (a:GC):Prop:=(0≤a.row∧1≤a.rows∧a.rows≤3∧a.row+a.rows≤n)∧(0≤a.col∧a.col≤84)∧(1≤a.cols∧a.cols≤4)∧0≤a.ins∧a.ins≤4
theorem endOf_bounds {t:T} (h:Low t) {r:Nat} (hr:r < t.rows.length):(r:Int) < endOf t r∧endOf t r≤t.rows.length:=by
 have h1:=h.head
 have h2:=h.foot
 unfold endOf
 split
 ·omega
 ·split <;> omega
/-- how many of the first rows' cells have a row -/
def cntRow (gs:List GC) (q:Int):Nat:=gs.countP fun a=>decide (a.row=q)
theorem cntRow_snoc (gs:List GC) (x:GC) (q:Int):cntRow (gs ++ [x]) q=cntRow gs q+if x.row=q then 1 else 0:=by
 simp [cntRow,List.countP_append,List.countP_cons]
/-- cells that have a row in common with one in row r begin in row r or one of the two above -/
theorem meet_cnt (r:Nat) (x:GC) (hx:x.row=r):∀ gs:List GC,(∀ a ∈ gs,a.row≤r∧a.rows≤3)→(gs.filter fun a=>rowMeets a x).length≤cntRow gs r+(cntRow gs ((r:Int) - 1)+cntRow gs ((r:Int) - 2))
 | [],_=>by simp
 | a :: t,h=>by
  have ih:=meet_cnt r x hx t (fun b hb=>h b (by simp [hb]))
  have ha:=h a (by simp)
  unfold cntRow at ih ⊢
  rw [List.countP_cons,List.countP_cons,List.countP_cons,List.filter_cons]
  split
  ·rename_i hm
   simp only [rowMeets,Bool.and_eq_true,decide_eq_true_eq] at hm
   rw [List.length_cons]
   rcases (by omega:a.row=r∨a.row=(r:Int) - 1∨a.row=(r:Int) - 2) with e | e | e
   ·simp [e];omega
   ·simp [e];omega
   ·simp [e];omega
  ·omega
/-- what is known behind some rows and some cells of the next one -/
structure Part (t:T) (gs:List GC) (r i:Nat):Prop where
 stands:∀ a ∈ gs,Stands t.rows.length a∧a.row≤r
 cnt:∀ q:Nat,cntRow gs q=if q < r then (t.rows.getD q dR).cells.length else if q=r then i else 0
 neg:∀ q:Int,q < 0→cntRow gs q=0
theorem Part.few {t:T} {gs:List GC} {r i:Nat} (h:Part t gs r i) (hl:Low t) (hi:i < (t.rows.getD r dR).cells.length) (x:GC) (hx:x.row=r):(gs.filter fun a=>rowMeets a x).length≤12:=by
 have h1:=meet_cnt r x hx gs (fun a ha=>⟨(h.stands a ha).2,(h.stands a ha).1.1.2.2.1⟩)
 obtain ⟨k,hk⟩:=hl.few
 have k0:=hk r
 have c0:=h.cnt r
 rw [if_neg (by omega),if_pos rfl] at c0
 have c1:cntRow gs ((r:Int) - 1)≤if r - 1=k∧1≤r then 5 else 4:=by
  by_cases hr:1≤r
  ·have e:=h.cnt (r - 1)
   rw [if_pos (by omega),show ((r - 1:Nat):Int)=(r:Int) - 1 by omega] at e
   have:=hk (r - 1)
   split at this <;> split <;> omega
  ·rw [h.neg _ (by omega)];omega
 have c2:cntRow gs ((r:Int) - 2)≤if r - 2=k∧2≤r then 5 else 4:=by
  by_cases hr:2≤r
  ·have e:=h.cnt (r - 2)
   rw [if_pos (by omega),show ((r - 2:Nat):Int)=(r:Int) - 2 by omega] at e
   have:=hk (r - 2)
   split at this <;> split <;> omega
  ·rw [h.neg _ (by omega)];omega
 split at k0 <;> split at c1 <;> split at c2 <;> omega
theorem getD_mem' {α:Type} {l:List α} {i:Nat} {d:α} (h:i < l.length):l.getD i d ∈ l:=by
 have e:l.getD i d=l[i]:=by simp [List.getD,h]
 rw [e];exact List.getElem_mem _
/-- the next cell: it finds its column ahead of the 85th -/
theorem Part.next {t:T} {gs:List GC} {r i:Nat} (h:Part t gs r i) (hl:Low t) (hr:r < t.rows.length) (hi:i < (t.rows.getD r dR).cells.length) :
  (let x:=bare r i (endOf t r) ((t.rows.getD r dR).cells.getD i dC)
   ffree gs x≤84∧freeG gs (atCol x (ffree gs x))=true∧(∀ k,k < ffree gs x→freeG gs (atCol x (k:Nat))=false)∧∀ k:Nat,k≤84→Stands t.rows.length (atCol x k)) ∧
  Part t (gs ++ [place gs r i (endOf t r) ((t.rows.getD r dR).cells.getD i dC)]) r (i+1):=by
 have hm:=getD_mem' (d:=dR) hr
 have hx:=hl.span _ hm _ (getD_mem' (d:=dC) hi)
 have he:=endOf_bounds hl hr
 have hi5:i≤4:=by
  obtain ⟨k,hk⟩:=hl.few
  have:=hk r
  split at this <;> omega
 dsimp only
 generalize hX:(t.rows.getD r dR).cells.getD i dC=x at hx
 have hf:=h.few hl hi (bare r i (endOf t r) x) rfl
 obtain ⟨c,hc,hfree⟩:=free_exists gs (bare r i (endOf t r) x) hx.1 (fun a ha=>(h.stands a ha).1.2.2.1)
 obtain ⟨f1,f2,f3⟩:=ffree_le (by omega) hfree
 have hst:∀ k:Nat,k≤84→Stands t.rows.length (atCol (bare r i (endOf t r) x) k):=by
  intro k hk
  simp only [Stands,atCol,bare]
  omega
 refine ⟨⟨by omega,f2,f3,hst⟩,?_,?_,?_⟩
 ·intro a ha
  rcases List.mem_append.1 ha with ha | ha
  ·exact h.stands a ha
  ·simp at ha
   subst ha
   exact ⟨hst _ (by omega),Int.le_refl _⟩
 ·intro q
  have hrow:(place gs r i (endOf t r) x).row=(r:Int):=rfl
  rw [cntRow_snoc,h.cnt q,hrow]
  by_cases h1:q < r
  ·rw [if_pos h1,if_pos h1,if_neg (by omega:¬ (r:Int)=q),Nat.add_zero]
  ·rw [if_neg h1,if_neg h1]
   by_cases h2:q=r
   ·subst h2;simp
   ·rw [if_neg h2,if_neg h2,if_neg (by omega)]
 ·intro q hq
  have hrow:(place gs r i (endOf t r) x).row=(r:Int):=rfl
  rw [cntRow_snoc,h.neg q hq,hrow,if_neg (by omega)]
theorem Part.zero (t:T):Part t [] 0 0:=⟨fun a ha=>(by cases ha),fun q=>(by simp [cntRow]),fun q _=>(by simp [cntRow])⟩
theorem Part.rowEnd {t:T} {gs:List GC} {r:Nat} (h:Part t gs r (t.rows.getD r dR).cells.length):Part t gs (r+1) 0:=by
 refine ⟨fun a ha=>⟨(h.stands a ha).1,by have:=(h.stands a ha).2;omega⟩,fun q=>?_,h.neg⟩
 rw [h.cnt q]
 by_cases h1:q < r
 ·rw [if_pos h1,if_pos (by omega)]
 ·rw [if_neg h1]
  by_cases h2:q=r
  ·subst h2;simp
  ·rw [if_neg h2,if_neg (by omega)]
   split <;> rfl
theorem part_row {t:T} (hl:Low t) {r:Nat} (hr:r < t.rows.length) (h:Part t (gridTo t r) r 0):∀ i,i≤(t.rows.getD r dR).cells.length→Part t (rowTo (endOf t r) r (t.rows.getD r dR).cells (gridTo t r) i) r i
 | 0,_=>h
 | i+1,hi=>(Part.next (part_row hl hr h i (by omega)) hl hr (by omega)).2
theorem part_grid {t:T} (hl:Low t):∀ r,r≤t.rows.length→Part t (gridTo t r) r 0
 | 0,_=>Part.zero t
 | r+1,hr=>(part_row hl (by omega) (part_grid hl r (by omega)) _ (Nat.le_refl _)).rowEnd
theorem rowTo_len (e:Int) (r:Nat) (cs:List C) (gs:List GC) (i:Nat):(rowTo e r cs gs i).length=gs.length+i:=by
 induction i with
 | zero=>rfl
 | succ i ih=>simp only [rowTo,List.length_append,ih,List.length_cons,List.length_nil];omega
theorem grid_len {t:T} (hl:Low t) (r:Nat):(gridTo t r).length≤5 * r:=by
 induction r with
 | zero=>simp [gridTo]
 | succ r ih =>
  obtain ⟨k,hk⟩:=hl.few
  have:=hk r
  simp only [gridTo,rowTo_len]
  split at this <;> omega
/-- the grid of a drawn table -/
def gridOf (t:T):List GC:=gridTo t t.rows.length
end Go.Proofs.Ytggmjiddadjilac
