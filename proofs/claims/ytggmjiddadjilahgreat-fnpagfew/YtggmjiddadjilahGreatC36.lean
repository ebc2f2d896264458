/-
  PROVED HERE: what the model's l2Part and l9Ends answer at a drawn table that is ok: for each block of the body its first row and the one behind its last; nothing that was in memory is turned. Also: 3 more texts of the same proof.
-/
import Derived.Test.YtggmjiddadjilahGreatC35
set_option maxRecDepth 1000000
set_option maxHeartbeats 40000000
namespace Go.Proofs.YtggmjiddadjilahGreat
open Go.RowKit
theorem zfd (vc:Value) (ar:Option Addr) (cr:Nat) (t:T) (hok:zB t=true) (q:Nat) (hq:q < t.rows.length) (w:World) :
  Calls Tryz.prog 97 #[.agg #[vc,.int .i64 t.head,.int .i64 t.foot,.slice ar t.rows.length cr,.int .i64 t.gap],.int .i64 (q:Int)] w fun e w'=>e=.returned (.int .i64 (z07 t (q:Int)))∧Below w.heap.size w w':=by
 have hbb:=z0S hok;have HP:Hid (z07 t (q:Int)=if (q:Int) < t.head then 0 else if t.rows.length - t.foot≤(q:Int) then 2 else 1):=Hd (by rw [z07,if_pos ⟨hok,by unfold inB;exact decide_eq_true (by omega)⟩]);have K0:=Hd (ze (Below.refl w.heap.size w) (.cells #[vc,.int .i64 t.head,.int .i64 t.foot,.slice ar t.rows.length cr,.int .i64 t.gap] 26));have X0:=zj w (.cells #[vc,.int .i64 t.head,.int .i64 t.foot,.slice ar t.rows.length cr,.int .i64 t.gap] 26);obtain ⟨b0,b1,b2,b3,b4⟩:=zT X0;have hw:IntKind.i64.wrap ((t.rows.length:Int) - t.foot)=(t.rows.length:Int) - t.foot:=(by rw [IntKind.wrap_i64];omega);clear X0;by_cases h1:(q:Int) < t.head
 ·have HF:Hid (z07 t (q:Int)=0):=Hd (by rw [HP.out,if_pos h1]);go_enter Tryz.func97,Tryz.ntmps97;go_wp2;go_ret;exact ⟨z6k HF.out.symm,K0.out⟩
 by_cases h2:(t.rows.length:Int) - t.foot≤(q:Int)
 ·have HF:Hid (z07 t (q:Int)=2):=Hd (by rw [HP.out,if_neg h1,if_pos h2]);go_enter Tryz.func97,Tryz.ntmps97;go_wp2;go_ret;exact ⟨z6k HF.out.symm,K0.out⟩
 ·have HF:Hid (z07 t (q:Int)=1):=Hd (by rw [HP.out,if_neg h1,if_neg h2]);go_enter Tryz.func97,Tryz.ntmps97;go_wp2;go_ret;exact ⟨z6k HF.out.symm,K0.out⟩
def z1E (t:T) (L:List Nat):Nat→List (Nat × Nat)
 | 0=>[]
 | k+1=>z1E t L k ++ if z07 t ((L.getD k 0:Nat):Int)=1 then [(L.getD k 0,L.getD (k+1) 0)] else []
def z06 (t:T):List (Nat × Nat):=z1E t (z05 (gOf t).cells t.rows.length) (zF (gOf t).cells t.rows.length).length
theorem zet {t:T} {L:List Nat} {k:Nat} (h:z07 t ((L.getD k 0:Nat):Int)=1):z1E t L (k+1)=z1E t L k ++ [(L.getD k 0,L.getD (k+1) 0)]:=by rw [z1E,if_pos h]
theorem zdj {t:T} {L:List Nat} {k:Nat} (h:¬ z07 t ((L.getD k 0:Nat):Int)=1):z1E t L (k+1)=z1E t L k:=by rw [z1E,if_neg h,List.append_nil]
theorem z9k (t:T) (L:List Nat):∀ k,(z1E t L k).length≤k
 | 0=>Nat.le_refl _
 | k+1=>by
  have:=z9k t L k;rw [z1E,List.length_append]
  split <;> simp <;> omega
theorem zdk (t:T) (hs:List Int) (L:List Nat):∀ k,(z1E t L k).flatMap (fun p=>z1a t hs p.1 p.2)=z0Y t hs L k
 | 0=>rfl
 | k+1=>by
  rw [z0Y,← zdk t hs L k];by_cases h:z07 t ((L.getD k 0:Nat):Int)=1
  ·rw [zet h,List.flatMap_append];simp
  ·rw [zdj h,zao h,List.append_nil]
theorem zdl {t:T} {gs:List GC} {R:Nat}:∀ k,k < (z05 gs R).length→∀ p ∈ z1E t (z05 gs R) k,p.1 < p.2∧p.2≤R∧z07 t (p.1:Int)=1
 | 0,_,p,hp=>by cases hp
 | k+1,hk,p,hp=>by
  rw [z1E] at hp
  rcases List.mem_append.1 hp with h | h
  ·exact zdl k (by omega) p h
  ·split at h
   ·rename_i hpt
    rw [List.mem_singleton] at h;subst h;obtain ⟨s1,s2⟩:=z3d hk;exact ⟨s1,s2,hpt⟩
   ·cases h
def z71 (w:World) (v:Value) (ps:List (Nat × Nat)):Prop:=At w 0 v ps.length 1 (fun i b o=>∃ u,w.cell? ⟨b,o,none⟩=some u∧zC w u [((ps.getD i (0,0)).1:Int),((ps.getD i (0,0)).2:Int)])
theorem z71.kept {w w':World} {v:Value} {ps:List (Nat × Nat)} (h:z71 w v ps) (k:Below w.heap.size w w'):z71 w' v ps :=
 At.mono h k.size (Nat.le_refl _) (fun _ _ _ _ hb _ ⟨u,h1,h2⟩=>⟨u,(k.cell (p:=⟨_,_,none⟩) hb).trans h1,h2.kept k⟩)
theorem z3i {w w':World} {base:Nat} {e:TypeId} {sz:Nat} {v:Value} {m:Nat} {xs:List Value} (h:w.ownsRow base e sz v m xs) (hb:Below w.heap.size w w'):w'.ownsRow base e sz v m xs :=
 ⟨h.1,h.2.elim Or.inl (fun ⟨g,cap,cur,hv,hg,hc,r⟩=>Or.inr ⟨g,cap,cur,hv,hg,(hb.block g (bL hc)).trans hc,r⟩)⟩
theorem z8m {w:World} {base base':Nat} {e:TypeId} {sz:Nat} {v:Value} {m:Nat} {xs:List Value} (h:w.ownsRow base e sz v m xs) (hb:base'≤base):w.ownsRow base' e sz v m xs :=
 ⟨h.1,h.2.elim Or.inl (fun ⟨g,cap,cur,hv,hg,r⟩=>Or.inr ⟨g,cap,cur,hv,Nat.le_trans hb hg,r⟩)⟩
theorem z5U {w w':World} {base base':Nat} {e e':TypeId} {sz sz':Nat} {v U:Value} {m n:Nat} {xs ys:List Value} (h:w.ownsRow base e sz v m xs) (hU:w.ownsRow base' e' sz' U n ys) (he:e' ≠ e) (k:w.grownBy w' U.ownBlock):w'.ownsRow base e sz v m xs :=
 ⟨h.1,h.2.elim Or.inl (fun ⟨g,cap,cur,hv,hg,hc,r⟩=>Or.inr ⟨g,cap,cur,hv,hg,zX hc k (z09 (zn hU hc he)),r⟩)⟩
def z2l (w:World) (B:Nat) (us:List Value) (ps:List (Nat × Nat)):Prop:=us.length=ps.length∧∀ i,i < ps.length→w.ownsRow B 3 1 (us.getD i (.slice none 0 0)) 2 [.int .i64 ((ps.getD i (0,0)).1:Int),.int .i64 ((ps.getD i (0,0)).2:Int)]
theorem z2l.kept {w w':World} {B:Nat} {us:List Value} {ps:List (Nat × Nat)} (h:z2l w B us ps) (k:Below w.heap.size w w'):z2l w' B us ps:=⟨h.1,fun i hi=>z3i (h.2 i hi) k⟩
theorem z2l.grown {w w':World} {B base:Nat} {U:Value} {us:List Value} {ps:List (Nat × Nat)} {m:Nat} {xs:List Value} (h:z2l w B us ps) (hU:w.ownsRow base 27 1 U m xs) (k:w.grownBy w' U.ownBlock):z2l w' B us ps:=⟨h.1,fun i hi=>z5U (h.2 i hi) hU (by decide) k⟩
theorem z2l.snoc {w:World} {B:Nat} {us:List Value} {ps:List (Nat × Nat)} {u:Value} {p:Nat × Nat} (h:z2l w B us ps) (hu:w.ownsRow B 3 1 u 2 [.int .i64 (p.1:Int),.int .i64 (p.2:Int)]):z2l w B (us ++ [u]) (ps ++ [p]):=by
 refine ⟨by rw [List.length_append,List.length_append,h.1];rfl,fun i hi=>?_⟩;rw [List.length_append,List.length_cons,List.length_nil] at hi
 rcases Nat.lt_or_eq_of_le (Nat.lt_succ_iff.1 hi) with h1 | h1
 ·rw [List.getD_eq_getElem?_getD,List.getD_eq_getElem?_getD,List.getElem?_append_left (by rw [h.1];exact h1),List.getElem?_append_left h1,← List.getD_eq_getElem?_getD,← List.getD_eq_getElem?_getD];exact h.2 i h1
 ·subst h1;have e1:(us ++ [u]).getD ps.length (.slice none 0 0)=u:=(by rw [← h.1];simp [List.getD]);have e2:(ps ++ [p]).getD ps.length (0,0)=p:=(by simp [List.getD]);rw [e1,e2];exact hu
theorem zgZ {w:World} {B:Nat} {u:Value} {a b:Int} (h:w.ownsRow B 3 1 u 2 [.int .i64 a,.int .i64 b]):zC w u [a,b]:=(zo.of_owns (l:=[a,b]) h).at
theorem z2l.pairs {w:World} {B base:Nat} {v:Value} {us:List Value} {ps:List (Nat × Nat)} (h:z2l w B us ps) (hO:w.ownsRow base 27 1 v us.length us):z71 w v ps:=by
 unfold z71;have hul:=h.1
 rcases hO.2 with ⟨hv,h0⟩ | ⟨g,cap,cur,hv,hb,hg,h1,h2,h3,h4⟩
 ·exact ⟨none,0,by rw [← hul,h0];exact hv,by omega,Nat.zero_le _,fun i hi=>by omega⟩
 ·refine ⟨some ⟨g,0,none⟩,cap,by rw [← hul];exact hv,by omega,h2,fun i hi=>⟨g,0,rfl,(bL hg),Nat.zero_le _,us.getD i (.slice none 0 0),?_,zgZ (h.2 i hi)⟩⟩;have:cur.toList[i]?=us[i]?:=(by rw [← h4,List.getElem?_take_of_lt (by omega)]);rw [Nat.zero_add,Nat.mul_one,zf hg,← Array.getElem?_toList,this];simp [List.getD,show i < us.length by omega]
structure PX (w:World) (ac ar ag:Option Addr) (cc cr cg:Nat) (t:T) (vb:Value) (bl:List Int) (W:World):Prop where
 below:Below w.heap.size w W
 box:W.heap[w.heap.size]?=some (.cells #[.slice ac t.cols.length cc,.int .i64 t.head,.int .i64 t.foot,.slice ar t.rows.length cr,.int .i64 t.gap] 26)
 grd:W.heap[w.heap.size+1]?=some (.cells #[.int .i64 (t.rows.length:Int),.int .i64 (gOf t).cols,.slice ag (gOf t).cells.length cg] 38)
 bnd:W.ownsRow w.heap.size 3 1 vb bl.length (bl.map (Value.int .i64))
theorem PX.kept {w:World} {ac ar ag:Option Addr} {cc cr cg:Nat} {t:T} {vb:Value} {bl:List Int} {W W':World} (h:PX w ac ar ag cc cr cg t vb bl W) (k:Below W.heap.size W W'):PX w ac ar ag cc cr cg t vb bl W' :=
 ⟨zh h.below k,(k.block _ (bL h.box)).trans h.box,(k.block _ (bL h.grd)).trans h.grd,z3i h.bnd k⟩
theorem PX.grown {w:World} {ac ar ag:Option Addr} {cc cr cg:Nat} {t:T} {vb:Value} {bl:List Int} {W W':World} {base m:Nat} {U:Value} {xs:List Value} (h:PX w ac ar ag cc cr cg t vb bl W) (hU:W.ownsRow base 27 1 U m xs) (hb:w.heap.size≤base) (k:W.grownBy W' U.ownBlock):PX w ac ar ag cc cr cg t vb bl W' :=
 ⟨h.below.grown k h.below.size (fun q hq=>Nat.le_trans hb (hU.lt q hq).1),zX h.box k (z09 (zn hU h.box (by decide))),zX h.grd k (z09 (zn hU h.grd (by decide))),z5U h.bnd hU (by decide) k⟩
theorem PX.ints {w:World} {ac ar ag:Option Addr} {cc cr cg:Nat} {t:T} {vb:Value} {bl:List Int} {W:World} (h:PX w ac ar ag cc cr cg t vb bl W):zC W vb bl:=(zo.of_owns h.bnd).at
theorem zdm (w:World) (a b:Nat) (B:Nat) (hB:B≤w.heap.size):(w.alloc (.cells #[.int .i64 (a:Int),.int .i64 (b:Int)] 3)).ownsRow B 3 1 (.slice (some ⟨w.heap.size,0,none⟩) 2 2) 2 [.int .i64 (a:Int),.int .i64 (b:Int)] :=
 ⟨rfl,.inr ⟨w.heap.size,2,#[.int .i64 (a:Int),.int .i64 (b:Int)],rfl,hB,zj _ _,Nat.le_refl _,by unfold maxLen;omega,rfl,rfl⟩⟩
theorem zjP:(Tryz.prog.info? 27).map (fun i=>(i.zero,i.size,i.bytes))=some (some (Value.slice none 0 0),1,24):=by kernel_rfl
theorem zfe (ac ar ag:Option Addr) (cc cr cg:Nat) (t:T) (hD:z0f t) (htk:zB t=true) (w:World) {zg:Nat} (hg:z1G w zg (.slice ag (gOf t).cells.length cg) (gOf t).cells) :
  Calls Tryz.prog 53 #[.agg #[.slice ac t.cols.length cc,.int .i64 t.head,.int .i64 t.foot,.slice ar t.rows.length cr,.int .i64 t.gap],.agg #[.int .i64 (gOf t).rows,.int .i64 (gOf t).cols,.slice ag (gOf t).cells.length cg]] w fun e w'=>∃ v us,e=.returned v∧w'.ownsRow w.heap.size 27 1 v us.length us∧z2l w' w.heap.size us (z06 t)∧Below w.heap.size w w':=by
 have hmx:Tryz.prog.follows .mixedOrders=true:=(by kernel_rfl);obtain ⟨i0,hi0,hz0,hz1,hz2⟩:=info_parts zjP;have hR8:=z0S htk;have hgr:(gOf t).rows=(t.rows.length:Int):=(by rw [z2q htk])
 have hcl:t.cols.length≤8:=by
  simp only [zB,z2c,Bool.and_eq_true,decide_eq_true_eq] at htk;omega
 have HBL:Hid (z5X ⟨(t.rows.length:Int),(gOf t).cols,(gOf t).cells⟩=zF (gOf t).cells t.rows.length):=Hd (by
  rw [z9v (by rw [z2q htk];exact zg1 (z3E htk hD) hR8.1.1 hcl)]
  simp)
 rw [hgr];have K0:=ze (ze (ze (Below.refl w.heap.size w) (.cells #[.slice ac t.cols.length cc,.int .i64 t.head,.int .i64 t.foot,.slice ar t.rows.length cr,.int .i64 t.gap] 26)) (.cells #[.int .i64 (t.rows.length:Int),.int .i64 (gOf t).cols,.slice ag (gOf t).cells.length cg] 38)) (.cells #[] 27);have hs0:(((w.alloc (.cells #[.slice ac t.cols.length cc,.int .i64 t.head,.int .i64 t.foot,.slice ar t.rows.length cr,.int .i64 t.gap] 26)).alloc (.cells #[.int .i64 (t.rows.length:Int),.int .i64 (gOf t).cols,.slice ag (gOf t).cells.length cg] 38)).alloc (.cells #[] 27)).heap.size=w.heap.size+3:=(by simp);have X0:(((w.alloc (.cells #[.slice ac t.cols.length cc,.int .i64 t.head,.int .i64 t.foot,.slice ar t.rows.length cr,.int .i64 t.gap] 26)).alloc (.cells #[.int .i64 (t.rows.length:Int),.int .i64 (gOf t).cols,.slice ag (gOf t).cells.length cg] 38)).alloc (.cells #[] 27)).heap[w.heap.size]?=some (.cells #[.slice ac t.cols.length cc,.int .i64 t.head,.int .i64 t.foot,.slice ar t.rows.length cr,.int .i64 t.gap] 26):=(Below.heap_alloc _ _ _ (by simp;omega)).trans ((Below.heap_alloc _ _ _ (by simp)).trans (zj _ _));have G0:(((w.alloc (.cells #[.slice ac t.cols.length cc,.int .i64 t.head,.int .i64 t.foot,.slice ar t.rows.length cr,.int .i64 t.gap] 26)).alloc (.cells #[.int .i64 (t.rows.length:Int),.int .i64 (gOf t).cols,.slice ag (gOf t).cells.length cg] 38)).alloc (.cells #[] 27)).heap[w.heap.size+1]?=some (.cells #[.int .i64 (t.rows.length:Int),.int .i64 (gOf t).cols,.slice ag (gOf t).cells.length cg] 38):=(Below.heap_alloc _ _ _ (by simp)).trans (by have:=zj (w.alloc (.cells #[.slice ac t.cols.length cc,.int .i64 t.head,.int .i64 t.foot,.slice ar t.rows.length cr,.int .i64 t.gap] 26)) (.cells #[.int .i64 (t.rows.length:Int),.int .i64 (gOf t).cols,.slice ag (gOf t).cells.length cg] 38);rwa [World.size_alloc] at this);have O0:(((w.alloc (.cells #[.slice ac t.cols.length cc,.int .i64 t.head,.int .i64 t.foot,.slice ar t.rows.length cr,.int .i64 t.gap] 26)).alloc (.cells #[.int .i64 (t.rows.length:Int),.int .i64 (gOf t).cols,.slice ag (gOf t).cells.length cg] 38)).alloc (.cells #[] 27)).heap[w.heap.size+2]?=some (.cells #[] 27):=(by have:=zj ((w.alloc (.cells #[.slice ac t.cols.length cc,.int .i64 t.head,.int .i64 t.foot,.slice ar t.rows.length cr,.int .i64 t.gap] 26)).alloc (.cells #[.int .i64 (t.rows.length:Int),.int .i64 (gOf t).cols,.slice ag (gOf t).cells.length cg] 38)) (.cells #[] 27);rwa [World.size_alloc,World.size_alloc] at this);have HG:=Hd (hg.kept K0);have HK0:=Hd K0;have HX0:=Hd X0;have HG0:=Hd G0;have HO0:=Hd O0;have HTK:=Hd htk;clear hg K0 X0 G0 O0 hgr hcl htk;go_enter Tryz.func53,Tryz.ntmps53;go_upto_region 2 with fail
 generalize (((w.alloc (.cells #[.slice ac t.cols.length cc,.int .i64 t.head,.int .i64 t.foot,.slice ar t.rows.length cr,.int .i64 t.gap] 26)).alloc (.cells #[.int .i64 (t.rows.length:Int),.int .i64 (gOf t).cols,.slice ag (gOf t).cells.length cg] 38)).alloc (.cells #[] 27))=W0 at HK0 HX0 HG0 HO0 HG hs0 ⊢;obtain ⟨b0,b1,b2,b3,b4⟩:=zT HX0.out;obtain ⟨y0,y1,y2⟩:=z2s HG0.out;go_wp2_with fail
 refine (zbV (t.rows.length:Int) (gOf t).cols ag cg (gOf t).cells W0 HG.out).mono ?_;rintro e w1 ⟨vb,rfl,hI,hb1⟩;rw [HBL.out] at hI;obtain ⟨avb,cvb,rfl⟩:=hI.form;have HX1:Hid (PX w ac ar ag cc cr cg t (.slice avb (zF (gOf t).cells t.rows.length).length cvb) (zF (gOf t).cells t.rows.length) w1):=Hd ⟨zh HK0.out hb1,(hb1.block _ (by omega)).trans HX0.out,(hb1.block _ (by omega)).trans HG0.out,(hI.base (by omega:w.heap.size≤W0.heap.size) (Nat.le_refl _)).owns⟩;have HO1:Hid (w1.ownsRow (w.heap.size+2) 27 1 (.slice (some ⟨w.heap.size+2,0,none⟩) 0 0) 0 []):=Hd ⟨rfl,.inr ⟨w.heap.size+2,0,#[],rfl,Nat.le_refl _,(hb1.block _ (by omega)).trans HO0.out,Nat.le_refl _,Nat.zero_le _,rfl,rfl⟩⟩;have hbl:=z35 (gOf t).cells t.rows.length;have HLl:=Hd (z4s (gOf t).cells t.rows.length);have HLg:=Hd (fun (k:Nat)=>zcg (gs:=(gOf t).cells) (R:=t.rows.length) (k:=k));have HLs:=Hd (fun (k:Nat)=>z3d (gs:=(gOf t).cells) (R:=t.rows.length) (k:=k));have HLe:=Hd (z6o (gOf t).cells t.rows.length);have HET:Hid (z06 t=z1E t (z05 (gOf t).cells t.rows.length) (zF (gOf t).cells t.rows.length).length):=Hd rfl;have HEL:=Hd (fun k=>z9k t (z05 (gOf t).cells t.rows.length) k);generalize z05 (gOf t).cells t.rows.length=L at HLl HLg HLs HLe HET HEL;generalize zF (gOf t).cells t.rows.length=bs at hI HX1 hbl HLl HLg HLe HET;clear hI hb1 HG HK0 HX0 HG0 HO0 hs0 HBL b0 b1 b2 b3 b4 y0 y1 y2;go_wp2_with fail
 go_loopw [5,7] (fun o i W=>∃ (k:Nat) (us:List Value),k≤bs.length∧i=.int .i64 (k:Int)∧Hid (W.ownsRow (w.heap.size+2) 27 1 o us.length us)∧Hid (z2l W w.heap.size us (z1E t L k))∧Hid (PX w ac ar ag cc cr cg t (.slice avb bs.length cvb) bs W)) (fun _ i _=>bs.length - (intOf i).toNat)
 case atStart=>exact ⟨0,[],Nat.zero_le _,rfl,HO1,⟨rfl,fun i hi=>absurd hi (Nat.not_lt_zero _)⟩,HX1⟩
 case round =>
  clear HX1 HO1;obtain ⟨k,us,hk,rfl,HO,HR,HX⟩:=hrel;have hul:us.length≤k:=(by have:=HR.out.1;have:=HEL.out k;omega);obtain ⟨ao,co,rfl,_⟩:=z0j HO.out;by_cases hlt:k < bs.length
  case neg =>
   obtain rfl:k=bs.length:=by omega
   go_wp2;go_ret;exact ⟨_,us,rfl,z8m HO.out (by omega),by rw [HET.out];exact HR.out,HX.out.below⟩
  obtain ⟨s1,s2⟩:=HLs.out k (by rw [HLl.out];omega);have HLk:=Hd (HLg.out k (by rw [HLl.out];omega));have HLk1:=Hd (HLg.out (k+1) (by rw [HLl.out];omega));have HPn:=Hd (fun (h:¬ z07 t ((L.getD k 0:Nat):Int)=1)=>zdj h);have hin:=@zet t L k;obtain ⟨a,ha⟩:∃ a,L.getD k 0=a:=⟨_,rfl⟩;obtain ⟨b,hb⟩:∃ b,L.getD (k+1) 0=b:=⟨_,rfl⟩;have HLa:=Hd ha;have HLb:=Hd hb;rw [ha] at s1 HPn HLk;rw [hb] at s1 s2 HLk1;rw [ha,hb] at hin;have hlk:(bs ++ [(t.rows.length:Int)]).getD k 0=bs.getD k 0:=(by rw [List.getD_eq_getElem?_getD,List.getElem?_append_left hlt,← List.getD_eq_getElem?_getD]);rw [hlk] at HLk;have HIn:=Hd hin;have KP:=Hd (fun (p:BW wr)=>z4i (zfd (.slice ac t.cols.length cc) ar cr t HTK.out a (by omega) p.u));have hne:=z0z wr;have hlw:=(bL HX.out.box);obtain ⟨b0,b1,b2,b3,b4⟩:=zT HX.out.box;obtain ⟨y0,y1,y2⟩:=z2s HX.out.grd;have m0:=zi (a:=⟨w.heap.size,0,none⟩) hlw b0;have m1:=zi (a:=⟨w.heap.size,1,none⟩) hlw b1;have m2:=zi (a:=⟨w.heap.size,2,none⟩) hlw b2;have m3:=zi (a:=⟨w.heap.size,3,none⟩) hlw b3;have m4:=zi (a:=⟨w.heap.size,4,none⟩) hlw b4;obtain ⟨gx,ox,cx,ex,f1,f2,f3,x1⟩:=HX.out.ints.get (i:=k) hlt;simp only [Value.slice.injEq,true_and] at ex;obtain ⟨rfl,rfl⟩:=ex;rw [HLk.out] at x1;have n1:=zi (a:=⟨gx,ox+k,none⟩) f3 x1;unfold maxLen at f2;clear ha hb hlk hin s1 f3;by_cases hk1:k+1 < bs.length
  ·obtain ⟨gq,oq,cq,eq,q1,q2,q3,x2⟩:=HX.out.ints.get (i:=k+1) hk1;simp only [Value.slice.injEq,Option.some.injEq,Addr.mk.injEq,and_true,true_and] at eq;obtain ⟨⟨rfl,rfl⟩,rfl⟩:=eq;have hlk1:(bs ++ [(t.rows.length:Int)]).getD (k+1) 0=bs.getD (k+1) 0:=(by rw [List.getD_eq_getElem?_getD,List.getElem?_append_left hk1,← List.getD_eq_getElem?_getD]);rw [← hlk1,HLk1.out] at x2;clear q1 q2 q3 hlk1;by_cases hp:z07 t (a:Int)=1
   case neg =>
    have HPt:=Hd (HPn.out hp);have hp2:(z07 t (a:Int) == 1)=false:=beq_eq_false_iff_ne.2 hp;generalize z07 t (a:Int)=pv at KP hp2;clear hp HPn;go_upto_region 9 with fail
    refine zq hmx (by kernel_rfl) ?_;repeat (go_big_quiet_step (first | (go_at_call 97;refine KP.out _)))
    refine wpQuiet_nil ?_;intro W4 hw';obtain ⟨⟨Wx,hW4⟩,hw''⟩:=hw';subst hw'';have HX4:=Hd (HX.out.kept hW4);have HO4:=Hd (z3i HO.out hW4)
    have HR4:Hid (z2l W4 w.heap.size us (z1E t L (k+1))):=Hd (by
     rw [HPt.out];exact HR.out.kept hW4)
    clear x1 x2 m0 m1 m2 m3 m4 n1 hne KP HX HO HR hW4 y0 y1 y2 b0 b1 b2 b3 b4;go_wp2;go_roundw
    case rel=>exact ⟨k+1,_,by omega,by go_num,HO4,HR4,HX4⟩
    case measure=>simp [intOf];omega
   have HPt:=Hd (HIn.out hp);rw [hp] at KP;clear hp HPn;go_upto_region 9 with fail
   refine zq hmx (by kernel_rfl) ?_;repeat (go_big_quiet_step (first | (go_at_call 97;refine KP.out _)))
   refine wpQuiet_nil ?_;intro W4 hw';obtain ⟨⟨Wx,hW4⟩,hw''⟩:=hw';subst hw'';have HX4:=Hd (HX.out.kept hW4);have HO4:=Hd (z3i HO.out hW4);have HR4:=Hd (HR.out.kept hW4);have hz4:=HX4.out.below.size;obtain ⟨gx,ox,cx,ex,f1,f2,f3,x4⟩:=HX4.out.ints.get (i:=k) hlt;simp only [Value.slice.injEq,Option.some.injEq,Addr.mk.injEq,and_true,true_and] at ex;obtain ⟨⟨rfl,rfl⟩,rfl⟩:=ex;rw [HLk.out] at x4;clear f1 f2 f3 x1 x2 m0 m1 m2 m3 m4 n1 hne KP HX HO HR hW4 y0 y1 y2 b0 b1 b2 b3 b4;have KA:=ze (ze (Below.refl W4.heap.size W4) (.cells #[.int .i64 (a:Int),.int .i64 (b:Int)] 3)) (.cells #[.slice (some ⟨W4.heap.size,0,none⟩) 2 2] 27);have hOA:=(HO4.out.alloc (.cells #[.int .i64 (a:Int),.int .i64 (b:Int)] 3)).alloc (.cells #[.slice (some ⟨W4.heap.size,0,none⟩) 2 2] 27);have HPn:=Hd (zdm W4 a b w.heap.size hz4);go_wp2_with (at_builtin;refine wpList_append_own _ rfl _ _ 86 rfl (w.heap.size+2) 27 i0 _ 1 24 Tryz.underlying86 hi0 hz0 hz1 hz2 rfl (by decide) _ _ _ rfl hOA ⟨W4.heap.size+1,0,none⟩ 1 1 [.slice (some ⟨W4.heap.size,0,none⟩) 2 2] rfl rfl ?c1 ?c2 ?c3 ?c4 ?c5 ?_)
   case c1=>exact z0E (by have:=zj (W4.alloc (.cells #[.int .i64 (a:Int),.int .i64 (b:Int)] 3)) (.cells #[.slice (some ⟨W4.heap.size,0,none⟩) 2 2] 27);rwa [World.size_alloc] at this)
   case c2=>simp [Value.oneCell']
   case c3=>unfold maxLen;omega
   case c4=>omega
   case c5=>have:=HX4.out.grd;have:=(bL this);simp;omega
   intro v' w5 hown' hgrow' _;have HX5:=Hd ((HX4.out.kept KA).grown hOA (by omega) hgrow')
   have HR5:Hid (z2l w5 w.heap.size (us ++ [.slice (some ⟨W4.heap.size,0,none⟩) 2 2]) (z1E t L (k+1))):=Hd (by
    rw [HPt.out];exact ((HR4.out.kept KA).grown hOA hgrow').snoc (z5U (z3i HPn.out (ze (Below.refl _ _) _)) hOA (by decide) hgrow'))
   have HO5:Hid (w5.ownsRow (w.heap.size+2) 27 1 v' (us ++ [Value.slice (some ⟨W4.heap.size,0,none⟩) 2 2]).length (us ++ [Value.slice (some ⟨W4.heap.size,0,none⟩) 2 2])):=Hd (by rw [List.length_append];exact hown');obtain ⟨g',cap',rfl⟩:=Joins.ownsRow_form hown' (by omega);clear hown' hgrow' hOA KA HX4 HO4 HR4 x4;go_wp2;go_roundw
   case rel=>exact ⟨k+1,_,by omega,by go_num,HO5,HR5,HX5⟩
   case measure=>simp [intOf];omega
  ·have hbR:(b:Int)=(t.rows.length:Int):=by
    have e:bs.length=k+1:=(by omega);have:=HLe.out;rw [e,HLb.out] at this;omega
   have hbR2:b=t.rows.length:=(by omega);subst hbR2;clear hbR;by_cases hp:z07 t (a:Int)=1
   case neg =>
    have HPt:=Hd (HPn.out hp);have hp2:(z07 t (a:Int) == 1)=false:=beq_eq_false_iff_ne.2 hp;generalize z07 t (a:Int)=pv at KP hp2;clear hp HPn;go_upto_region 9 with fail
    refine zq hmx (by kernel_rfl) ?_;repeat (go_big_quiet_step (first | (go_at_call 97;refine KP.out _)))
    refine wpQuiet_nil ?_;intro W4 hw';obtain ⟨⟨Wx,hW4⟩,hw''⟩:=hw';subst hw'';have HX4:=Hd (HX.out.kept hW4);have HO4:=Hd (z3i HO.out hW4)
    have HR4:Hid (z2l W4 w.heap.size us (z1E t L (k+1))):=Hd (by
     rw [HPt.out];exact HR.out.kept hW4)
    clear x1 m0 m1 m2 m3 m4 n1 hne KP HX HO HR hW4 y0 y1 y2 b0 b1 b2 b3 b4;go_wp2;go_roundw
    case rel=>exact ⟨k+1,_,by omega,by go_num,HO4,HR4,HX4⟩
    case measure=>simp [intOf];omega
   have HPt:=Hd (HIn.out hp);rw [hp] at KP;clear hp HPn;go_upto_region 9 with fail
   refine zq hmx (by kernel_rfl) ?_;repeat (go_big_quiet_step (first | (go_at_call 97;refine KP.out _)))
   refine wpQuiet_nil ?_;intro W4 hw';obtain ⟨⟨Wx,hW4⟩,hw''⟩:=hw';subst hw'';have HX4:=Hd (HX.out.kept hW4);have HO4:=Hd (z3i HO.out hW4);have HR4:=Hd (HR.out.kept hW4);have hz4:=HX4.out.below.size;obtain ⟨gx,ox,cx,ex,f1,f2,f3,x4⟩:=HX4.out.ints.get (i:=k) hlt;simp only [Value.slice.injEq,Option.some.injEq,Addr.mk.injEq,and_true,true_and] at ex;obtain ⟨⟨rfl,rfl⟩,rfl⟩:=ex;rw [HLk.out] at x4;clear f1 f2 f3 x1 m0 m1 m2 m3 m4 n1 hne KP HX HO HR hW4 y0 y1 y2 b0 b1 b2 b3 b4;have KA:=ze (ze (Below.refl W4.heap.size W4) (.cells #[.int .i64 (a:Int),.int .i64 (t.rows.length:Int)] 3)) (.cells #[.slice (some ⟨W4.heap.size,0,none⟩) 2 2] 27);have hOA:=(HO4.out.alloc (.cells #[.int .i64 (a:Int),.int .i64 (t.rows.length:Int)] 3)).alloc (.cells #[.slice (some ⟨W4.heap.size,0,none⟩) 2 2] 27);have HPn:=Hd (zdm W4 a t.rows.length w.heap.size hz4);go_wp2_with (at_builtin;refine wpList_append_own _ rfl _ _ 86 rfl (w.heap.size+2) 27 i0 _ 1 24 Tryz.underlying86 hi0 hz0 hz1 hz2 rfl (by decide) _ _ _ rfl hOA ⟨W4.heap.size+1,0,none⟩ 1 1 [.slice (some ⟨W4.heap.size,0,none⟩) 2 2] rfl rfl ?c1 ?c2 ?c3 ?c4 ?c5 ?_)
   case c1=>exact z0E (by have:=zj (W4.alloc (.cells #[.int .i64 (a:Int),.int .i64 (t.rows.length:Int)] 3)) (.cells #[.slice (some ⟨W4.heap.size,0,none⟩) 2 2] 27);rwa [World.size_alloc] at this)
   case c2=>simp [Value.oneCell']
   case c3=>unfold maxLen;omega
   case c4=>omega
   case c5=>have:=HX4.out.grd;have:=(bL this);simp;omega
   intro v' w5 hown' hgrow' _;have HX5:=Hd ((HX4.out.kept KA).grown hOA (by omega) hgrow')
   have HR5:Hid (z2l w5 w.heap.size (us ++ [.slice (some ⟨W4.heap.size,0,none⟩) 2 2]) (z1E t L (k+1))):=Hd (by
    rw [HPt.out];exact ((HR4.out.kept KA).grown hOA hgrow').snoc (z5U (z3i HPn.out (ze (Below.refl _ _) _)) hOA (by decide) hgrow'))
   have HO5:Hid (w5.ownsRow (w.heap.size+2) 27 1 v' (us ++ [Value.slice (some ⟨W4.heap.size,0,none⟩) 2 2]).length (us ++ [Value.slice (some ⟨W4.heap.size,0,none⟩) 2 2])):=Hd (by rw [List.length_append];exact hown');obtain ⟨g',cap',rfl⟩:=Joins.ownsRow_form hown' (by omega);clear hown' hgrow' hOA KA HX4 HO4 HR4 x4;go_wp2;go_roundw
   case rel=>exact ⟨k+1,_,by omega,by go_num,HO5,HR5,HX5⟩
   case measure=>simp [intOf];omega
theorem z8n (rm:List Int):∀ (n:Nat) (ps:List (List PgS)),ps.length=n→∃ A B,ps=A ++ B∧(ps.foldl (zQ rm) ([],[])).2=B.foldl z04 []∧(ps.foldl (zQ rm) ([],[])).1.length≤A.length
 | 0,ps,h=>by
  have:ps=[]:=List.eq_nil_of_length_eq_zero h;subst this;exact ⟨[],[],rfl,rfl,Nat.le_refl _⟩
 | n+1,ps,h=>by
  rcases List.eq_nil_or_concat ps with rfl | ⟨a,p,rfl⟩
  ·cases h
  ·rw [List.concat_eq_append] at h ⊢;obtain ⟨A,B,e1,e2,e3⟩:=z8n rm n a (by simpa using h);rw [List.foldl_append,List.foldl_cons,List.foldl_nil];generalize a.foldl (zQ rm) ([],[])=st at e2 e3 ⊢;obtain ⟨pgs,page⟩:=st;simp only at e2 e3
   cases ht:z13 page p (zG rm pgs.length) with
   | true =>
    rw [z7J ht];exact ⟨A,B ++ [p],by rw [e1,List.append_assoc],by simp [e2],e3⟩
   | false =>
    refine ⟨A ++ B,[p],by rw [e1],?_,?_⟩
    ·unfold zQ;rw [if_neg (by simp only;rw [ht];simp)];rfl
    ·have hB:B ≠ []:=by
      rintro rfl;rw [List.foldl_nil] at e2;rw [e2] at ht
      cases ht
     have:=List.length_pos_iff.2 hB;unfold zQ;rw [if_neg (by simp only;rw [ht];simp)];simp only [List.length_append,List.length_cons,List.length_nil];omega
theorem zjg (rm:List Int) {ps:List (List PgS)} (hne:∀ p ∈ ps,p ≠ []) (h:ps ≠ []):(ps.foldl (zQ rm) ([],[])).2 ≠ []:=by
 rcases List.eq_nil_or_concat ps with rfl | ⟨a,p,rfl⟩
 ·exact absurd rfl h
 ·rw [List.concat_eq_append] at hne ⊢;rw [List.foldl_append,List.foldl_cons,List.foldl_nil];have hp:=hne p (by simp);unfold zQ
  split
  ·exact z96 hp
  ·exact z96 hp
theorem zff {page:List PgS} {s:PgS} {r:Nat} (h:z3j page r) (hs:s.r < r):z3j (z2g page s) r:=by
 rcases List.eq_nil_or_concat page with rfl | ⟨a,l,rfl⟩
 ·intro x hx;simp only [z2g,List.getLast?_nil,List.mem_singleton] at hx;rw [hx];exact hs
 ·rw [List.concat_eq_append] at h ⊢;rw [z6n];intro x hx
  split at hx
  ·rcases List.mem_append.1 hx with h1 | h1
   ·exact h x (List.mem_append.2 (.inl h1))
   ·rw [List.mem_singleton.1 h1];exact h l (by simp)
  ·rcases List.mem_append.1 hx with h1 | h1
   ·exact h x h1
   ·rw [List.mem_singleton.1 h1];exact hs
theorem z7y {r:Nat}:∀ {piece page:List PgS},z3j page r→(∀ s ∈ piece,s.r < r)→z3j (z04 page piece) r
 | [],_,h,_=>h
 | s :: l,page,h,hp=>z7y (piece:=l) (page:=z2g page s) (zff h (hp s (by simp))) (fun x hx=>hp x (List.mem_cons_of_mem _ hx))
theorem zfg {rm:List Int} {st:List (List PgS) × List PgS} {piece:List PgS} {r:Nat} (h:z3j st.2 r) (hp:∀ s ∈ piece,s.r < r):z3j (zQ rm st piece).2 r:=by
 unfold zQ
 split
 ·exact z7y h hp
 ·exact z7y (page:=[]) (fun x hx=>by cases hx) hp
theorem zaf {rm:List Int} {r:Nat}:∀ {ps:List (List PgS)} {st:List (List PgS) × List PgS},z3j st.2 r→(∀ p ∈ ps,∀ s ∈ p,s.r < r)→z3j (ps.foldl (zQ rm) st).2 r
 | [],_,h,_=>h
 | p :: ps,st,h,hp=>zaf (ps:=ps) (st:=zQ rm st p) (zfg h (hp p (by simp))) (fun q hq=>hp q (List.mem_cons_of_mem _ hq))
theorem zag (hs:List Int):∀ (n a:Nat),∀ s ∈ zK hs a n,s.r < ((a+n:Nat):Int)
 | 0,_,s,h=>by cases h
 | n+1,a,s,h=>by
  rw [zK] at h
  rcases List.mem_cons.1 h with rfl | h
  ·simp only;omega
  ·have:=zag hs n (a+1) s h;omega
theorem zjh {t:T} {hs:List Int} {a b:Nat} (hab:a < b):∀ p ∈ z1a t hs a b,∀ s ∈ p,s.r < (b:Int):=by
 intro p hp s hs';unfold z1a at hp
 split at hp
 ·split at hp
  ·rw [z0e,List.mem_map] at hp;obtain ⟨i,_,rfl⟩:=hp;rw [List.mem_singleton.1 hs'];simp only;omega
  ·rw [List.mem_singleton] at hp;subst hp;have:=zag hs (b - a) a s hs';omega
 ·cases hp
theorem zbF {t:T} {gs:List GC} {R:Nat}:∀ k,k < (z05 gs R).length→(z1E t (z05 gs R) k).Pairwise (fun p q=>p.2≤q.1)∧∀ p ∈ z1E t (z05 gs R) k,p.2≤(z05 gs R).getD k 0
 | 0,_=>⟨List.Pairwise.nil,fun p hp=>by cases hp⟩
 | k+1,hk=>by
  obtain ⟨h1,h2⟩:=zbF (t:=t) (gs:=gs) (R:=R) k (by omega);obtain ⟨s1,s2⟩:=z3d hk;rw [z1E]
  split
  ·refine ⟨List.pairwise_append.2 ⟨h1,by simp,fun p hp q hq=>?_⟩,fun p hp=>?_⟩
   ·rw [List.mem_singleton.1 hq];exact h2 p hp
   ·rcases List.mem_append.1 hp with h | h
    ·have:=h2 p h;omega
    ·rw [List.mem_singleton.1 h];exact Nat.le_refl _
  ·rw [List.append_nil];exact ⟨h1,fun p hp=>by have:=h2 p hp;omega⟩
theorem z8Z (t:T):(z06 t).Pairwise (fun p q=>p.2≤q.1)∧∀ p ∈ z06 t,p.1 < p.2∧p.2≤t.rows.length∧z07 t (p.1:Int)=1:=by
 have hk:(zF (gOf t).cells t.rows.length).length < (z05 (gOf t).cells t.rows.length).length:=(by rw [z4s];omega);exact ⟨(zbF _ hk).1,zdl _ hk⟩
theorem zbG (t:T) (hs:List Int):(z06 t).flatMap (fun p=>z1a t hs p.1 p.2)=z0D t hs:=zdk t hs _ _
def stE (t:T) (hs rm:List Int) (i:Nat):List (List PgS) × List PgS:=(((z06 t).take i).flatMap (fun p=>z1a t hs p.1 p.2)).foldl (zQ rm) ([],[])
theorem zie {t:T} {hs rm:List Int} {i:Nat} (h:i < (z06 t).length):stE t hs rm (i+1)=(z1a t hs ((z06 t).getD i (0,0)).1 ((z06 t).getD i (0,0)).2).foldl (zQ rm) (stE t hs rm i):=by
 have e:(z06 t).getD i (0,0)=(z06 t)[i]:=(by simp [List.getD,h]);rw [stE,List.take_succ_eq_append_getElem h,List.flatMap_append,List.foldl_append,e];simp [stE]
theorem zif (t:T) (hs rm:List Int):stE t hs rm 0=([],[]):=rfl
theorem zji (t:T) (hs rm:List Int):stE t hs rm (z06 t).length=(z0D t hs).foldl (zQ rm) ([],[]):=by rw [stE,List.take_length,zbG]
theorem zh0 {t:T} {hs rm:List Int} {i:Nat} (h:i < (z06 t).length):z3j (stE t hs rm i).2 ((z06 t).getD i (0,0)).1:=by
 obtain ⟨h1,h2⟩:=z8Z t;have e:(z06 t).getD i (0,0)=(z06 t)[i]:=(by simp [List.getD,h]);rw [e];refine zaf (fun x hx=>by cases hx) (fun p hp s hs'=>?_);obtain ⟨q,hq,hpq⟩:=List.mem_flatMap.1 hp;obtain ⟨j,hj,rfl⟩:=List.mem_iff_getElem.1 hq;rw [List.length_take] at hj;rw [List.getElem_take] at hpq;have h3:=zjh (h2 _ (List.getElem_mem (by omega:j < (z06 t).length))).1 p hpq s hs';have h4:=List.pairwise_iff_getElem.1 h1 j i (by omega) h (by omega);omega
structure zkr (t:T) (hs rm:List Int) (i a b:Nat):Prop where
 ab:a < b∧b≤t.rows.length
 ahead:z3j (stE t hs rm i).2 a
 low:z3m (stE t hs rm i).2
 len:(stE t hs rm i).2.length≤50000
 pgs:(stE t hs rm i).1.length≤9000
 cut:(b - a=1∧(t.rows.getD a dR).whole=false)∧0 < hs.getD a 0→stE t hs rm (i+1)=(z0e a 0 (hs.getD a 0).toNat).foldl (zQ rm) (stE t hs rm i)∧hiS (stE t hs rm i).2+(hs.getD a 0).toNat≤1000000
 whole:¬ ((b - a=1∧(t.rows.getD a dR).whole=false)∧0 < hs.getD a 0)→stE t hs rm (i+1)=z49 rm (stE t hs rm i).1 (stE t hs rm i).2 (zK hs a (b - a))∧z3m (zK hs a (b - a))
theorem zh1 {t:T} (hD:z0f t) (hok:zB t=true) {hs rm:List Int} (hb:∀ x ∈ hs,0≤x∧x≤1000) {i:Nat} (h:i < (z06 t).length):zkr t hs rm i ((z06 t).getD i (0,0)).1 ((z06 t).getD i (0,0)).2:=by
 have e:(z06 t).getD i (0,0)=(z06 t)[i]:=(by simp [List.getD,h]);have hm:(z06 t).getD i (0,0) ∈ z06 t:=(by rw [e];exact List.getElem_mem h);obtain ⟨f1,f2,f3⟩:=(z8Z t).2 _ hm;have hah:=zh0 (hs:=hs) (rm:=rm) h;have hsu:=zie (hs:=hs) (rm:=rm) h;obtain ⟨A,B,e1,e2,e3⟩:=z8n rm _ (((z06 t).take i).flatMap (fun p=>z1a t hs p.1 p.2)) rfl
 have hsp:z0D t hs=((z06 t).take i).flatMap (fun p=>z1a t hs p.1 p.2) ++ z1a t hs ((z06 t).getD i (0,0)).1 ((z06 t).getD i (0,0)).2 ++ ((z06 t).drop (i+1)).flatMap (fun p=>z1a t hs p.1 p.2):=by
  rw [← zbG t hs,e];have h9:z06 t=(z06 t).take i ++ ((z06 t)[i] :: (z06 t).drop (i+1)):=(by rw [← List.drop_eq_getElem_cons h,List.take_append_drop])
  conv=>lhs;rw [h9]
  rw [List.flatMap_append,List.flatMap_cons,List.append_assoc]
 have hlow:=z5I hD hok hb (show z0D t hs=A ++ B ++ (z1a t hs ((z06 t).getD i (0,0)).1 ((z06 t).getD i (0,0)).2 ++ ((z06 t).drop (i+1)).flatMap (fun p=>z1a t hs p.1 p.2)) by rw [hsp,e1];simp [List.append_assoc]);have hlow2:=z5I hD hok hb (show z0D t hs=A ++ (B ++ z1a t hs ((z06 t).getD i (0,0)).1 ((z06 t).getD i (0,0)).2) ++ ((z06 t).drop (i+1)).flatMap (fun p=>z1a t hs p.1 p.2) by rw [hsp,e1];simp [List.append_assoc]);have hl9:=z7v hok hb;have hAl:A.length≤(z0D t hs).length:=(by rw [hsp,e1];simp only [List.length_append];omega);have hS2:(stE t hs rm i).2=B.foldl z04 []:=e2;have hS1:(stE t hs rm i).1.length≤A.length:=e3;generalize ((z06 t).getD i (0,0)).1=a at f1 f3 hah hsu hlow hlow2 ⊢;generalize ((z06 t).getD i (0,0)).2=b at f1 f2 hsu hlow hlow2 ⊢;refine ⟨⟨f1,f2⟩,hah,by rw [hS2];exact hlow.1,by rw [hS2];exact hlow.2.1,by omega,fun hc=>?_,fun hc=>?_⟩
 ·rw [zap f3 hc] at hsu hlow2;refine ⟨hsu,?_⟩;have h3:=hlow2.2.2;rw [List.flatten_append,z1Z,z94,← hlow.2.2] at h3;rw [hS2];omega
 ·rw [z7Q f3 hc] at hsu;have hlw:=z7c hb (n:=b - a) (a:=a) (by have:=z0S hok;omega);refine ⟨?_,hlw⟩;rw [hsu,List.foldl_cons,List.foldl_nil];unfold zQ z49;rw [(z72 hs (b - a) a _ hah).1,(z72 hs (b - a) a [] (fun x hx=>by cases hx)).1];rfl
def zah:Value→Nat
 | .slice _ n _=>n
 | _=>0
structure C9f (w W:World) (B P:Nat) (rm:List Int) (r:Int) (n f:Nat) (A0:Int) (L0 G0:Nat) (TGT:List (List PgS) × List PgS) (pv:Value) (us:List Value) (pgs:List (List PgS)) (gv:Value) (page:List PgS):Prop where
 hf:f≤n
 p:P9 W B P pv us pgs gv page
 e:(z0e r (f:Int) (n - f)).foldl (zQ rm) (pgs,page)=TGT
 st:f < n→z5W page r∨(page ≠ []∧zG rm pgs.length - hiS page≤0)
 h0:0≤hiS page
 h1:hiS page+((n:Int) - f)≤A0
 gl:page.length≤G0+f
 pl:pgs.length+min 1 page.length≤L0+f
 b:Below B w W
 tf:TF w W
 bs:B≤W.heap.size
theorem C9f.kept {w W W':World} {B P:Nat} {rm:List Int} {r:Int} {n f:Nat} {A0:Int} {L0 G0:Nat} {TGT:List (List PgS) × List PgS} {pv:Value} {us:List Value} {pgs:List (List PgS)} {gv:Value} {page:List PgS} (h:C9f w W B P rm r n f A0 L0 G0 TGT pv us pgs gv page) (k:Below W.heap.size W W'):C9f w W' B P rm r n f A0 L0 G0 TGT pv us pgs gv page :=
 { h with p:=h.p.kept k,b:=h.b.trans (k.mono h.bs),tf:=h.tf.trans (TF.of_below k),bs:=Nat.le_trans h.bs k.size }
theorem C9f.push {w W w2:World} {B P:Nat} {rm:List Int} {r:Int} {n f:Nat} {A0:Int} {L0 G0:Nat} {TGT:List (List PgS) × List PgS} {pv v':Value} {us:List Value} {pgs:List (List PgS)} {gv:Value} {page:List PgS} {o:Obj} (h:C9f w W B P rm r n f A0 L0 G0 TGT pv us pgs gv page) (hg:(W.alloc o).grownBy w2 pv.ownBlock) (ho:w2.ownsRow B 41 1 v' (us.length+1) (us ++ [gv])) (hlt:f < n) (hp:page ≠ []) (hr:zG rm pgs.length - hiS page≤0) :
  C9f w (w2.alloc (.cells #[] 45)) B w2.heap.size rm r n f A0 L0 G0 TGT v' (us ++ [gv]) (pgs ++ [page]) (.slice (some ⟨w2.heap.size,0,none⟩) 0 0) []:=by
 have hpl:=List.length_pos_iff.2 hp;have hs:=hg.size;rw [World.size_alloc] at hs;have h9:=h.h0;have h8:=h.h1;have h7:=h.pl;have h6:=h.bs;refine ⟨h.hf,h.p.push hg ho h.bs,?_,fun _=>.inl (fun l hl=>by simp at hl),by simp [hiS],?_,Nat.zero_le _,?_,h.p.pushed h.b hg h.bs,((h.tf.alloc o).grownP (h.p.own.alloc o) hg).alloc _,by simp;omega⟩
 ·rw [← h.e];exact (zhd (by omega) hp hr).symm
 ·rw [ziy];omega
 ·simp only [List.length_append,List.length_cons,List.length_nil];omega
theorem C9f.add {w W w4:World} {B P:Nat} {rm:List Int} {r:Int} {n f:Nat} {A0:Int} {L0 G0:Nat} {TGT:List (List PgS) × List PgS} {pv v':Value} {us:List Value} {pgs:List (List PgS)} {gv:Value} {page:List PgS} {o:Obj} (h:C9f w W B P rm r n f A0 L0 G0 TGT pv us pgs gv page) {k:Nat} {tt:Int}
  (hg:(W.alloc o).grownBy w4 gv.ownBlock) (ho:zJ w4 P v' (page ++ [⟨r,(f:Int),tt⟩])) (hk1:0 < k) (hk2:k≤n - f) (hto:tt=(f:Int)+k) (hkm:(k:Int)≤max 1 (zG rm pgs.length - hiS page)) (hkl:k < n - f→zG rm pgs.length - hiS page≤k) (hpush:page=[]∨0 < zG rm pgs.length - hiS page) (hlt:f < n) :
  C9f w w4 B P rm r n (f+k) A0 L0 G0 TGT pv us pgs v' (page ++ [⟨r,(f:Int),tt⟩]):=by
 have hs:=hg.size;rw [World.size_alloc] at hs;have h9:=h.h0;have h8:=h.h1;have h7:=h.pl;have h6:=h.bs;have h5:=h.gl;have KA:=ze (Below.refl W.heap.size W) o;have hbA:Below B w (W.alloc o):=h.b.trans (KA.mono h.bs);have hbs:B≤(W.alloc o).heap.size:=(by simp;omega)
 have hhi:hiS (page ++ [⟨r,(f:Int),tt⟩])=hiS page+k:=by
  rw [z1Z,z33,hto];simp only;omega
 have hnl:z5W page r:=by
  rcases h.st hlt with h1 | ⟨h1,h2⟩
  ·exact h1
  ·rcases hpush with h3 | h3
   ·exact absurd h3 h1
   ·omega
 refine ⟨by omega,(h.p.kept KA).add hg ho,?_,fun h3=>.inr ⟨by simp,?_⟩,by omega,by rw [hhi];omega,?_,?_,(h.p.kept KA).grew hbA hg hbs,(h.tf.alloc o).grownS (h.p.kept KA).page hg,by omega⟩
 ·rw [← h.e,zjo hk1 hk2 hnl hpush hkm,hto];have e1:((f+k:Nat):Int)=(f:Int)+k:=(by omega);have e2:n - (f+k)=n - f - k:=(by omega);rw [e1,e2]
 ·rw [hhi];have:=hkl (by omega);omega
 ·rw [List.length_append,List.length_cons,List.length_nil];omega
 ·rw [List.length_append,List.length_cons,List.length_nil];omega
theorem zh2 (rm:List Int) (hl:0 < rm.length) (hl2:rm.length≤1000) (hrm:∀ k,-1000000≤zG rm k∧zG rm k≤1000) (vr:Value) (B P:Nat) (pv gv:Value) (us:List Value) (pgs:List (List PgS)) (page:List PgS) (r:Int) (n:Nat) (hn:n≤1000) (hnl:z5W page r) (h0:0≤hiS page) (h1:hiS page+n≤1000000) (hpl:pgs.length≤50000) (hgl:page.length≤50000)
  (w:World) (hB:B≤w.heap.size) (hr:∀ W,Below B w W→zC W vr rm) (hP:P9 w B P pv us pgs gv page) :
  Calls Tryz.prog 54 #[pv,gv,.int .i64 r,.int .i64 (n:Int),vr] w fun e w'=>∃ P' pv' us' gv',e=.returned (.tuple #[pv',gv'])∧P9 w' B P' pv' us' ((z0e r 0 n).foldl (zQ rm) (pgs,page)).1 gv' ((z0e r 0 n).foldl (zQ rm) (pgs,page)).2∧Below B w w'∧TF w w':=by
 obtain ⟨i0,hi0,hz0,hz1,hz2⟩:=info_parts z7V;obtain ⟨j0,hj0,hy0,hy1,hy2⟩:=info_parts z5Z;generalize hTG:(z0e r 0 n).foldl (zQ rm) (pgs,page)=TGT;have H0:Hid (C9f w w B P rm r n 0 (hiS page+n) (pgs.length+1) page.length TGT pv us pgs gv page):=Hd ⟨Nat.zero_le _,hP,hTG,fun _=>.inl hnl,h0,by omega,by omega,by omega,Below.refl _ _,TF.refl _,hB⟩;obtain ⟨ap,cp,rfl,_⟩:=z0j hP.own;obtain ⟨ag,cg,rfl⟩:=hP.page.form;have HR:=Hd hr;have HM:=Hd hrm;have HT:=Hd hTG;obtain ⟨A0,hA0⟩:∃ A0,hiS page+n=A0:=⟨_,rfl⟩;obtain ⟨L0,hL0⟩:∃ L0,pgs.length+1=L0:=⟨_,rfl⟩;obtain ⟨G0,hG0⟩:∃ G0,page.length=G0:=⟨_,rfl⟩;rw [hA0,hL0] at H0;have hA1:A0≤1000000:=(by omega);have hL1:L0≤50001:=(by omega);have hG1:G0≤50000:=(by omega);have HG:=Hd hG0;clear hP hr hrm hTG hnl h0 h1 hpl hgl hA0 hL0 hG0;go_enter Tryz.func54,Tryz.ntmps54;go_wp2_with fail
 go_loopw [0,1,12] (fun pv gv i W=>∃ (f:Nat) (us:List Value) (pgs:List (List PgS)) (page:List PgS) (P:Nat),i=.int .i64 (f:Int)∧Hid (C9f w W B P rm r n f A0 L0 G0 TGT pv us pgs gv page)) (fun _ gv i _=>2 * (n - (intOf i).toNat)+min 1 (zah gv))
 case atStart=>exact ⟨0,us,pgs,page,P,rfl,by rw [← HG.out];exact H0⟩
 case round =>
  clear H0 HT HG;obtain ⟨f,us,pgs,page,P,rfl,HC⟩:=hrel;obtain ⟨ap,cp,rfl,_⟩:=z0j HC.out.p.own;obtain ⟨ag,cg,rfl⟩:=HC.out.p.page.form;have hf:=HC.out.hf;by_cases hlt:f < n
  case neg =>
   obtain rfl:f=n:=by omega
   have HE:Hid (TGT=(pgs,page)):=Hd (by rw [← HC.out.e,Nat.sub_self];rfl);go_wp2;exact bodyPost_ret (v:=.tuple #[.slice ap us.length cp,.slice ag page.length cg]) (by simp [results,Tryz.results54,go_sem]) rfl ⟨P,_,us,_,rfl,by rw [HE.out];exact HC.out.p,HC.out.b,HC.out.tf⟩
  have hul:=HC.out.p.len;have KR:=Hd (fun W (h:zC W vr rm) (hx:pgs.length≤100000)=>zae rm hl hl2 pgs.length hx vr W h);have b1:=HC.out.h0;have b2:=HC.out.h1;have b3:=HC.out.gl;have b4:=HC.out.pl;have b5:=HC.out.bs;have hlow:z3m page:=⟨b1,by omega⟩;have KA:=Hd (fun W z (h:z2I W z (.slice ag page.length cg) page)=>(z4t hlow ▸ z7w _ page W h:Calls Tryz.prog 99 #[.slice ag page.length cg] W fun e w'=>e=.returned (.int .i64 (hiS page))∧Below W.heap.size W w'));have hrb:=HM.out pgs.length;have hpl:pgs.length≤60000:=(by omega);have hub:us.length≤60000:=(by omega);have hgl:page.length≤60000:=(by omega);rw [hul] at HC ⊢;clear hlow hul b3 b4;have HR1:=HR.out wr HC.out.b;go_wp2_with fail
  refine (KR.out _ HR1 (by omega)).mono ?_;rintro e w1 ⟨rfl,k1⟩;replace HC:=Hd (HC.out.kept k1);clear k1 HR1 KR b5;go_wp2_with fail
  refine (KA.out _ _ HC.out.p.page.at).mono ?_;rintro e w2 ⟨rfl,k2⟩;have HQ:=Hd (HC.out.kept k2);have hB2:=HQ.out.bs;have hP2:=HQ.out.p.hi;have hBP:=HQ.out.p.le;clear k2 KA HC;have HQd:=Hd (fun (v':Value) (w4:World) (o:Obj) hg ho hp hr=>C9f.push HQ.out (v':=v') (w2:=w4) (o:=o) hg ho hlt hp hr);have HQa:=Hd (fun (v':Value) (w4:World) (o:Obj) (k:Nat) (tt:Int) hg ho h1 h2 h3 h4 h5 h6=>C9f.add HQ.out (v':=v') (w4:=w4) (o:=o) (k:=k) (tt:=tt) hg ho h1 h2 h3 h4 h5 h6 hlt);have HOp:=Hd (HQ.out.p.own);have HOg:=Hd (HQ.out.p.page);clear HQ;generalize zG rm pgs.length=R at HQd HQa hrb ⊢;generalize hiS page=A at HQd HQa b1 b2 ⊢;have hwr:IntKind.i64.wrap (R - A)=R - A:=(by rw [IntKind.wrap_i64];omega);have hfr:((f:Int) < (n:Int))=True:=(by simp;omega);by_cases hfree:R - A≤0
  ·by_cases he:page=[]
   ·subst he;have hpush:([]:List PgS)=[]∨0 < R - A:=.inl rfl;clear HQd HOp;go_wp2_with fail
    refine (z2W 1 (R - A) w2).mono ?_;rintro e w9 ⟨rfl,hw9⟩;obtain rfl:w2=w9:=hw9.symm;by_cases hto:(n:Int) < (f:Int)+max 1 (R - A)
    ·exact absurd hto (by omega)
    ·obtain ⟨k,hk⟩:∃ k:Nat,(k:Int)=max 1 (R - A):=⟨(max 1 (R - A)).toNat,by omega⟩;have hwk:IntKind.i64.wrap ((f:Int)+(k:Int))=(f:Int)+(k:Int):=(by rw [IntKind.wrap_i64];omega);rw [← hk] at hto ⊢;have hO:=HOg.out;unfold zJ at hO;have HA:=Hd (fun (v':Value) (w4:World) (o:Obj) (hg:(w2.alloc o).grownBy w4 (Value.slice ag 0 cg).ownBlock) (ho:zJ w4 P v' ([] ++ [⟨r,(f:Int),((f:Int)+(k:Int))⟩]))=>HQa.out v' w4 o k ((f:Int)+(k:Int)) hg ho (by omega) (by omega) (by omega) (by omega) (by omega) hpush);have hkn:1≤k:=(by omega);clear HQa hk;go_wp2_with (at_builtin;refine wpList_append_own _ rfl _ _ 41 rfl P 45 i0 _ 3 24 Tryz.underlying41 hi0 hz0 hz1 hz2 rfl (by decide) _ _ _ rfl (hO.alloc _) ⟨w2.heap.size,0,none⟩ 1 1 (z1A ⟨r,(f:Int),((f:Int)+(k:Int))⟩) rfl rfl ?c1 ?c2 ?c3 ?c4 ?c5 ?_)
     case c1=>exact z0E (zj w2 _)
     case c2=>simp [z1A,Value.oneCell']
     case c3=>unfold maxLen;simp only [List.length_nil];omega
     case c4=>simp only [List.length_nil];omega
     case c5=>simp;omega
     intro v' w4 hown' hgrow' _;have HN:=Hd (HA.out v' w4 _ hgrow' (zJ.next hown'));obtain ⟨g',cap',rfl⟩:=Joins.ownsRow_form hown' (by omega);clear hown' hgrow' hO HA HOg;go_wp2;go_roundw
     case rel=>exact ⟨f+k,us,pgs,_,P,by go_num,HN⟩
     case measure=>simp [intOf,zah];omega
   ·have hpos:(0:Int) < (page.length:Int):=(by have:=List.length_pos_iff.2 he;omega);have hO:=HOp.out;go_wp2_with (at_builtin;refine wpList_append_own _ rfl _ _ 30 rfl B 41 j0 _ 1 24 Tryz.underlying30 hj0 hy0 hy1 hy2 rfl (by decide) _ _ _ rfl (hO.alloc _) ⟨w2.heap.size,0,none⟩ 1 1 [.slice ag page.length cg] rfl rfl ?c1 ?c2 ?c3 ?c4 ?c5 ?_)
    case c1=>exact z0E (zj w2 (.cells #[.slice ag page.length cg] 41))
    case c2=>simp [Value.oneCell']
    case c3=>unfold maxLen;omega
    case c4=>omega
    case c5=>simp;omega
    intro v' w4 hown' hgrow' _;have HN:=Hd (HQd.out v' w4 _ hgrow' hown' he hfree);have hpn:=List.length_pos_iff.2 he;obtain ⟨g',cap',rfl⟩:=Joins.ownsRow_form hown' (by omega);clear hown' hgrow' hO HQd HQa HOp HOg;go_wp2;go_roundw
    case rel=>exact ⟨f,_,_,_,_,rfl,HN⟩
    case measure=>simp [intOf,zah];omega
  ·have hpush:page=[]∨0 < R - A:=.inr (by omega);clear HQd HOp;go_wp2_with fail
   refine (z2W 1 (R - A) w2).mono ?_;rintro e w9 ⟨rfl,hw9⟩;obtain rfl:w2=w9:=hw9.symm;by_cases hto:(n:Int) < (f:Int)+max 1 (R - A)
   ·obtain ⟨k,hk⟩:∃ k:Nat,k=n - f:=⟨_,rfl⟩;have hO:=HOg.out;unfold zJ at hO;have HA:=Hd (fun (v':Value) (w4:World) (o:Obj) (hg:(w2.alloc o).grownBy w4 (Value.slice ag page.length cg).ownBlock) (ho:zJ w4 P v' (page ++ [⟨r,(f:Int),(n:Int)⟩]))=>HQa.out v' w4 o k (n:Int) hg ho (by omega) (by omega) (by omega) (by omega) (by omega) hpush);have HKn:Hid ((n:Int)=((f+k:Nat):Int)):=Hd (by omega);have hkn:1≤k∧f+k=n:=(by omega);clear HQa hk;go_wp2_with (at_builtin;refine wpList_append_own _ rfl _ _ 41 rfl P 45 i0 _ 3 24 Tryz.underlying41 hi0 hz0 hz1 hz2 rfl (by decide) _ _ _ rfl (hO.alloc _) ⟨w2.heap.size,0,none⟩ 1 1 (z1A ⟨r,(f:Int),(n:Int)⟩) rfl rfl ?c1 ?c2 ?c3 ?c4 ?c5 ?_)
    case c1=>exact z0E (zj w2 _)
    case c2=>simp [z1A,Value.oneCell']
    case c3=>unfold maxLen;omega
    case c4=>omega
    case c5=>simp;omega
    intro v' w4 hown' hgrow' _;have HN:=Hd (HA.out v' w4 _ hgrow' (zJ.next hown'));obtain ⟨g',cap',rfl⟩:=Joins.ownsRow_form hown' (by omega);clear hown' hgrow' hO HA HOg;go_wp2;go_roundw
    case rel=>exact ⟨f+k,us,pgs,_,P,by rw [HKn.out],HN⟩
    case measure=>simp [intOf,zah];omega
   ·obtain ⟨k,hk⟩:∃ k:Nat,(k:Int)=max 1 (R - A):=⟨(max 1 (R - A)).toNat,by omega⟩;have hwk:IntKind.i64.wrap ((f:Int)+(k:Int))=(f:Int)+(k:Int):=(by rw [IntKind.wrap_i64];omega);rw [← hk] at hto ⊢;have hO:=HOg.out;unfold zJ at hO;have HA:=Hd (fun (v':Value) (w4:World) (o:Obj) (hg:(w2.alloc o).grownBy w4 (Value.slice ag page.length cg).ownBlock) (ho:zJ w4 P v' (page ++ [⟨r,(f:Int),((f:Int)+(k:Int))⟩]))=>HQa.out v' w4 o k ((f:Int)+(k:Int)) hg ho (by omega) (by omega) (by omega) (by omega) (by omega) hpush);have hkn:1≤k:=(by omega);clear HQa hk;go_wp2_with (at_builtin;refine wpList_append_own _ rfl _ _ 41 rfl P 45 i0 _ 3 24 Tryz.underlying41 hi0 hz0 hz1 hz2 rfl (by decide) _ _ _ rfl (hO.alloc _) ⟨w2.heap.size,0,none⟩ 1 1 (z1A ⟨r,(f:Int),((f:Int)+(k:Int))⟩) rfl rfl ?c1 ?c2 ?c3 ?c4 ?c5 ?_)
    case c1=>exact z0E (zj w2 _)
    case c2=>simp [z1A,Value.oneCell']
    case c3=>unfold maxLen;omega
    case c4=>omega
    case c5=>simp;omega
    intro v' w4 hown' hgrow' _;have HN:=Hd (HA.out v' w4 _ hgrow' (zJ.next hown'));obtain ⟨g',cap',rfl⟩:=Joins.ownsRow_form hown' (by omega);clear hown' hgrow' hO HA HOg;go_wp2;go_roundw
    case rel=>exact ⟨f+k,us,pgs,_,P,by go_num,HN⟩
    case measure=>simp [intOf,zah];omega
theorem zdn (s:ByteArray) (hs:s.size≤maxLen) (q:Int) (hq:-9223372036854775808≤q∧q≤9223372036854775807) (w:World) :
  Calls Tryz.prog 85 #[.string s,.int .i64 q] w fun e w'=>∃ v,e=.returned v∧z1x w' w.heap.size v (zR (z17 q (zP s)))∧Below w.heap.size w w':=by
 obtain ⟨i0,hi,hz0,hz1,hz2⟩:=info_parts zjC;have hwl:=z5P s;have HW:=Hd (z86 s hs);generalize zP s=l at HW hwl ⊢;go_enter Tryz.func85,Tryz.ntmps85;go_wp2_with fail
 refine (HW.out _).mono ?_;rintro e w1 ⟨v1,rfl,hv1,hb1⟩;have V1:=Hd hv1;have K1:=Hd hb1;obtain ⟨a1,c1,rfl⟩:=z9Q hv1;have hsz1:=hb1.size;clear hv1 hb1;go_wp2_with fail
 go_loopw [6,7] (fun o i W=>∃ k:Nat,k≤l.length∧i=.int .i64 k∧Hid (z1x W w1.heap.size o (zR (z17 q (l.take k))))∧Hid (Below w1.heap.size w1 W)) (fun _ i _=>l.length - (intOf i).toNat)
 case atStart=>exact ⟨0,Nat.zero_le _,rfl,z1x.of_owns (World.ownsRow_made w1 #[] 0 (Nat.le_refl _) (Nat.zero_le _) rfl),ze (Below.refl _ _) _⟩
 case round =>
  obtain ⟨k,hk,rfl,HR,HB⟩:=hrel;by_cases hlt:k < l.length
  ·obtain ⟨g,cap',e',h1,h2,hx⟩:=zel (z4l V1.out HB.out) hlt;simp only [Value.slice.injEq,true_and] at e';obtain ⟨rfl,rfl⟩:=e';have h3:=l[k].2;have HT:=Hd (zgv (q:=q) hlt);obtain ⟨hb1,hb2⟩:=zbr q (l.take k);have hok:=Hd (zcS q (l.take k));have htl:(l.take k).length≤30:=(by rw [List.length_take];omega);have HN:=Hd (fun h=>zj3 (q:=q) hok.out h l[k]);have HK:=Hd (fun h=>zgu (q:=q) hok.out h l[k]);have HF:=Hd (fun h=>zhX (q:=q) hok.out h l[k]);rw [← HT.out] at HN HK HF;generalize l[k]=x at hx h3 HN HK HF;generalize hout:zR (z17 q (l.take k))=out at HR HN HK HF hb1 hb2;clear hout HT hok;obtain ⟨ao,co,rfl⟩:=HR.out.form;unfold maxLen at h2;have hbs:=HB.out.size;by_cases hn0:out.length=0
   ·have hd:decide ((0:Int) < (out.length:Int))=false:=decide_eq_false (by omega);have HE:=Hd (HN.out hn0);obtain rfl:out=[]:=List.eq_nil_of_length_eq_zero hn0;clear hn0 hd HK HF HN;have hd:decide ((0:Int) < (0:Int))=false:=rfl;go_wp2_with fail
    go_quiet (fail)
    have hO:(wr.drewN nq).ownsRow w1.heap.size 9 1 (.slice ao 0 co) 0 []:=zcT HR.out;go_wp2_with (at_builtin;refine wpList_append_own _ rfl _ _ 93 rfl w1.heap.size 9 i0 (.string ⟨#[]⟩) 1 16 Tryz.underlying93 hi hz0 hz1 hz2 rfl (by decide) _ _ _ rfl (hO.alloc _) ⟨wr.heap.size,0,none⟩ 1 1 [.string x.1] rfl rfl ?c1 ?c2 ?c3 ?c4 ?c5 ?_)
    case c1=>exact cell_one_new (wr.drewN nq) (.string x.1) 9
    case c2=>intro u hu;simp at hu;subst hu;rfl
    case c3=>unfold maxLen;omega
    case c4=>omega
    case c5=>simp;omega
    intro v' w2 hown' hgrow' _;have HB2:=Hd ((ze (z3U HB.out nq) (.cells #[.string x.1] 9)).grown hgrow' (by simp;omega) (fun b hb=>(hO.lt b hb).1))
    have HR2:Hid (z1x w2 w1.heap.size v' (zR (z17 q (l.take (k+1))))):=by
     show z1x _ _ _ _;rw [HE.out];exact z1x.of_owns hown'
    obtain ⟨g',cap',rfl⟩:=Joins.ownsRow_form hown' (by omega);clear hown' hgrow' hO HR HB;go_wp2;go_roundw
    case rel=>exact ⟨k+1,by omega,by go_num,HR2,HB2⟩
    case measure=>simp [intOf];omega
   ·obtain ⟨m,hm⟩:=Nat.exists_eq_succ_of_ne_zero hn0;obtain ⟨go,co',e',hgo,hgs,hc1,hc2,hy,hfy⟩:=HR.out.get (i:=out.length - 1) (by omega);simp only [Value.slice.injEq,true_and] at e';obtain ⟨rfl,rfl⟩:=e';have hyl:out.getD (out.length - 1) eS=z4V out:=rfl;rw [hyl] at hy;have hm1:out.length - 1=m:=(by omega);have hm2:out.length=m+1:=hm;have HR0:=Hd (zcT HR.out);have HRs:=Hd (fun y=>HR.out.set (i:=out.length - 1) (by omega) y);have HKo:=Hd (HK.out hn0);have HFo:=Hd (HF.out hn0);generalize z4V out=y at hy hb2 HKo HFo;rw [hm1] at hy hfy HRs HFo;rw [hm2] at hc1 HR0 HRs;rw [hm2];unfold maxLen at hc2;have hd:decide ((0:Int) < ((m:Int)+1))=true:=decide_eq_true (by omega);by_cases hqq:q < (y.size:Int)+1+x.1.size
    ·have hdq:decide ((y.size:Int)+1+(x.1.size:Int)≤q)=false:=decide_eq_false (by omega);have HE:=Hd (HKo.out hqq);go_wp2_with fail
     go_quiet (fail)
     have hO:(wr.drewN nq).ownsRow w1.heap.size 9 1 (.slice (some ⟨go,0,none⟩) (m+1) co) (m+1) (out.map Value.string):=HR0.out;go_wp2_with (at_builtin;refine wpList_append_own _ rfl _ _ 93 rfl w1.heap.size 9 i0 (.string ⟨#[]⟩) 1 16 Tryz.underlying93 hi hz0 hz1 hz2 rfl (by decide) _ _ _ rfl (hO.alloc _) ⟨wr.heap.size,0,none⟩ 1 1 [.string x.1] rfl rfl ?c1 ?c2 ?c3 ?c4 ?c5 ?_)
     case c1=>exact cell_one_new (wr.drewN nq) (.string x.1) 9
     case c2=>intro u hu;simp at hu;subst hu;rfl
     case c3=>unfold maxLen;omega
     case c4=>omega
     case c5=>simp;omega
     intro v' w2 hown' hgrow' _;have HB2:=Hd ((ze (z3U HB.out nq) (.cells #[.string x.1] 9)).grown hgrow' (by simp;omega) (fun b hb=>(hO.lt b hb).1))
     have HR2:Hid (z1x w2 w1.heap.size v' (zR (z17 q (l.take (k+1))))):=by
      show z1x _ _ _ _;rw [HE.out];exact z1x.of_owns (by rw [List.length_append,List.map_append,hm2];exact hown')
     obtain ⟨g',cap',rfl⟩:=Joins.ownsRow_form hown' (by omega);clear hown' hgrow' hO HR HB;go_wp2;go_roundw
     case rel=>exact ⟨k+1,by omega,by go_num,HR2,HB2⟩
     case measure=>simp [intOf];omega
    ·have hdq:decide ((y.size:Int)+1+(x.1.size:Int)≤q)=true:=decide_eq_true (by omega);have HE:=Hd (HFo.out hqq);have hz3:¬ 9223372036854775807 < y.size+1:=(by omega);have hz4:¬ 9223372036854775807 < y.size+1+x.1.size:=(by omega);go_wp2_with fail
     go_quiet (fail)
     go_wp2_with fail
     have hy':(wr.drewN nq).cell? ⟨go,m,none⟩=some (.string y):=hy;have hx':(wr.drewN nq).cell? ⟨g,k,none⟩=some (.string x.1):=hx;have hf':(wr.drewN nq).frozen? ⟨go,m,none⟩=false:=hfy;have HB1:=Hd (z3U HB.out nq);have HR1:Hid (∀ y,z1x ((wr.drewN nq).setCell ⟨go,m,none⟩ (.string y)) w1.heap.size (.slice (some ⟨go,0,none⟩) (m+1) co) (out.set m y)):=HRs;clear hy hx hfy HR HRs HR0 HN HK HF HKo HFo HB;generalize wr.drewN nq=W1 at hy' hx' hf' HB1 HR1 ⊢
     go_region
     all_goals
      go_wp2;go_roundw
      case rel=>exact ⟨k+1,by omega,by go_num,by rw [HE.out];exact HR1.out _,Below.drew ((HB1.out).setCell (p:=⟨go,m,none⟩) hgo _)⟩
      case measure=>simp [intOf];omega
  ·obtain rfl:k=l.length:=by omega
   rw [List.take_length] at HR;obtain ⟨ao,co,rfl⟩:=HR.out.form;go_wp2;go_ret;exact ⟨_,rfl,HR.out.base hsz1,zh K1.out HB.out⟩
end Go.Proofs.YtggmjiddadjilahGreat
