/-
  PROVED HERE: what the model's l2Part and l9Ends answer at a drawn table that is ok: for each block of the body its first row and the one behind its last; nothing that was in memory is turned. Also: 3 more texts of the same proof.
-/
import Derived.Test.YtggmjiddadjilamGreatC35
set_option maxRecDepth 1000000
set_option maxHeartbeats 40000000
namespace Go.Proofs.YtggmjiddadjilamGreat
open Go.RowKit
theorem zfa (vc:Value) (ar:Option Addr) (cr:Nat) (t:T) (hok:zC t=true) (q:Nat) (hq:q < t.rows.length) (w:World) :
  Calls Tryz.prog 92 #[.agg #[vc,.int .i64 t.head,.int .i64 t.foot,.slice ar t.rows.length cr,.int .i64 t.gap],.int .i64 (q:Int)] w fun e w'=>e=.returned (.int .i64 (z06 t (q:Int)))∧Below w.heap.size w w':=by
 have hbb:=z0Q hok;have HP:Hid (z06 t (q:Int)=if (q:Int) < t.head then 0 else if t.rows.length - t.foot≤(q:Int) then 2 else 1):=Hd (by rw [z06,if_pos ⟨hok,by unfold inB;exact decide_eq_true (by omega)⟩]);have K0:=Hd (ze (Below.refl w.heap.size w) (.cells #[vc,.int .i64 t.head,.int .i64 t.foot,.slice ar t.rows.length cr,.int .i64 t.gap] 26));have X0:=zj w (.cells #[vc,.int .i64 t.head,.int .i64 t.foot,.slice ar t.rows.length cr,.int .i64 t.gap] 26);obtain ⟨b0,b1,b2,b3,b4⟩:=zU X0;have hw:IntKind.i64.wrap ((t.rows.length:Int) - t.foot)=(t.rows.length:Int) - t.foot:=(by rw [IntKind.wrap_i64];omega);clear X0;by_cases h1:(q:Int) < t.head
 ·have HF:Hid (z06 t (q:Int)=0):=Hd (by rw [HP.out,if_pos h1]);go_enter Tryz.func92,Tryz.ntmps92;go_wp2;go_ret;exact ⟨z6i HF.out.symm,K0.out⟩
 by_cases h2:(t.rows.length:Int) - t.foot≤(q:Int)
 ·have HF:Hid (z06 t (q:Int)=2):=Hd (by rw [HP.out,if_neg h1,if_pos h2]);go_enter Tryz.func92,Tryz.ntmps92;go_wp2;go_ret;exact ⟨z6i HF.out.symm,K0.out⟩
 ·have HF:Hid (z06 t (q:Int)=1):=Hd (by rw [HP.out,if_neg h1,if_neg h2]);go_enter Tryz.func92,Tryz.ntmps92;go_wp2;go_ret;exact ⟨z6i HF.out.symm,K0.out⟩
def z1G (t:T) (L:List Nat):Nat→List (Nat × Nat)
 | 0=>[]
 | k+1=>z1G t L k ++ if z06 t ((L.getD k 0:Nat):Int)=1 then [(L.getD k 0,L.getD (k+1) 0)] else []
def z05 (t:T):List (Nat × Nat):=z1G t (z0a (gOf t).cells t.rows.length) (zG (gOf t).cells t.rows.length).length
theorem zer {t:T} {L:List Nat} {k:Nat} (h:z06 t ((L.getD k 0:Nat):Int)=1):z1G t L (k+1)=z1G t L k ++ [(L.getD k 0,L.getD (k+1) 0)]:=by rw [z1G,if_pos h]
theorem zde {t:T} {L:List Nat} {k:Nat} (h:¬ z06 t ((L.getD k 0:Nat):Int)=1):z1G t L (k+1)=z1G t L k:=by rw [z1G,if_neg h,List.append_nil]
theorem z9k (t:T) (L:List Nat):∀ k,(z1G t L k).length≤k
 | 0=>Nat.le_refl _
 | k+1=>by
  have:=z9k t L k;rw [z1G,List.length_append]
  split <;> simp <;> omega
theorem zdf (t:T) (hs:List Int) (L:List Nat):∀ k,(z1G t L k).flatMap (fun p=>z1p t hs p.1 p.2)=z18 t hs L k
 | 0=>rfl
 | k+1=>by
  rw [z18,← zdf t hs L k];by_cases h:z06 t ((L.getD k 0:Nat):Int)=1
  ·rw [zer h,List.flatMap_append];simp
  ·rw [zde h,zap h,List.append_nil]
theorem zdg {t:T} {gs:List GC} {R:Nat}:∀ k,k < (z0a gs R).length→∀ p ∈ z1G t (z0a gs R) k,p.1 < p.2∧p.2≤R∧z06 t (p.1:Int)=1
 | 0,_,p,hp=>by cases hp
 | k+1,hk,p,hp=>by
  rw [z1G] at hp
  rcases List.mem_append.1 hp with h | h
  ·exact zdg k (by omega) p h
  ·split at h
   ·rename_i hpt
    rw [List.mem_singleton] at h;subst h;obtain ⟨s1,s2⟩:=z3F hk;exact ⟨s1,s2,hpt⟩
   ·cases h
def z6Y (w:World) (v:Value) (ps:List (Nat × Nat)):Prop:=At w 0 v ps.length 1 (fun i b o=>∃ u,w.cell? ⟨b,o,none⟩=some u∧zu w u [((ps.getD i (0,0)).1:Int),((ps.getD i (0,0)).2:Int)])
theorem z6Y.kept {w w':World} {v:Value} {ps:List (Nat × Nat)} (h:z6Y w v ps) (k:Below w.heap.size w w'):z6Y w' v ps :=
 At.mono h k.size (Nat.le_refl _) (fun _ _ _ _ hb _ ⟨u,h1,h2⟩=>⟨u,(k.cell (p:=⟨_,_,none⟩) hb).trans h1,h2.kept k⟩)
theorem z3k {w w':World} {base:Nat} {e:TypeId} {sz:Nat} {v:Value} {m:Nat} {xs:List Value} (h:w.ownsRow base e sz v m xs) (hb:Below w.heap.size w w'):w'.ownsRow base e sz v m xs :=
 ⟨h.1,h.2.elim Or.inl (fun ⟨g,cap,cur,hv,hg,hc,r⟩=>Or.inr ⟨g,cap,cur,hv,hg,(hb.block g (bL hc)).trans hc,r⟩)⟩
theorem z8m {w:World} {base base':Nat} {e:TypeId} {sz:Nat} {v:Value} {m:Nat} {xs:List Value} (h:w.ownsRow base e sz v m xs) (hb:base'≤base):w.ownsRow base' e sz v m xs :=
 ⟨h.1,h.2.elim Or.inl (fun ⟨g,cap,cur,hv,hg,r⟩=>Or.inr ⟨g,cap,cur,hv,Nat.le_trans hb hg,r⟩)⟩
theorem z5U {w w':World} {base base':Nat} {e e':TypeId} {sz sz':Nat} {v U:Value} {m n:Nat} {xs ys:List Value} (h:w.ownsRow base e sz v m xs) (hU:w.ownsRow base' e' sz' U n ys) (he:e' ≠ e) (k:w.grownBy w' U.ownBlock):w'.ownsRow base e sz v m xs :=
 ⟨h.1,h.2.elim Or.inl (fun ⟨g,cap,cur,hv,hg,hc,r⟩=>Or.inr ⟨g,cap,cur,hv,hg,zY hc k (z08 (zo hU hc he)),r⟩)⟩
def z2l (w:World) (B:Nat) (us:List Value) (ps:List (Nat × Nat)):Prop:=us.length=ps.length∧∀ i,i < ps.length→w.ownsRow B 3 1 (us.getD i (.slice none 0 0)) 2 [.int .i64 ((ps.getD i (0,0)).1:Int),.int .i64 ((ps.getD i (0,0)).2:Int)]
theorem z2l.kept {w w':World} {B:Nat} {us:List Value} {ps:List (Nat × Nat)} (h:z2l w B us ps) (k:Below w.heap.size w w'):z2l w' B us ps:=⟨h.1,fun i hi=>z3k (h.2 i hi) k⟩
theorem z2l.grown {w w':World} {B base:Nat} {U:Value} {us:List Value} {ps:List (Nat × Nat)} {m:Nat} {xs:List Value} (h:z2l w B us ps) (hU:w.ownsRow base 36 1 U m xs) (k:w.grownBy w' U.ownBlock):z2l w' B us ps:=⟨h.1,fun i hi=>z5U (h.2 i hi) hU (by decide) k⟩
theorem z2l.snoc {w:World} {B:Nat} {us:List Value} {ps:List (Nat × Nat)} {u:Value} {p:Nat × Nat} (h:z2l w B us ps) (hu:w.ownsRow B 3 1 u 2 [.int .i64 (p.1:Int),.int .i64 (p.2:Int)]):z2l w B (us ++ [u]) (ps ++ [p]):=by
 refine ⟨by rw [List.length_append,List.length_append,h.1];rfl,fun i hi=>?_⟩;rw [List.length_append,List.length_cons,List.length_nil] at hi
 rcases Nat.lt_or_eq_of_le (Nat.lt_succ_iff.1 hi) with h1 | h1
 ·rw [List.getD_eq_getElem?_getD,List.getD_eq_getElem?_getD,List.getElem?_append_left (by rw [h.1];exact h1),List.getElem?_append_left h1,← List.getD_eq_getElem?_getD,← List.getD_eq_getElem?_getD];exact h.2 i h1
 ·subst h1;have e1:(us ++ [u]).getD ps.length (.slice none 0 0)=u:=(by rw [← h.1];simp [List.getD]);have e2:(ps ++ [p]).getD ps.length (0,0)=p:=(by simp [List.getD]);rw [e1,e2];exact hu
theorem zgV {w:World} {B:Nat} {u:Value} {a b:Int} (h:w.ownsRow B 3 1 u 2 [.int .i64 a,.int .i64 b]):zu w u [a,b]:=(zq.of_owns (l:=[a,b]) h).at
theorem z2l.pairs {w:World} {B base:Nat} {v:Value} {us:List Value} {ps:List (Nat × Nat)} (h:z2l w B us ps) (hO:w.ownsRow base 36 1 v us.length us):z6Y w v ps:=by
 unfold z6Y;have hul:=h.1
 rcases hO.2 with ⟨hv,h0⟩ | ⟨g,cap,cur,hv,hb,hg,h1,h2,h3,h4⟩
 ·exact ⟨none,0,by rw [← hul,h0];exact hv,by omega,Nat.zero_le _,fun i hi=>by omega⟩
 ·refine ⟨some ⟨g,0,none⟩,cap,by rw [← hul];exact hv,by omega,h2,fun i hi=>⟨g,0,rfl,(bL hg),Nat.zero_le _,us.getD i (.slice none 0 0),?_,zgV (h.2 i hi)⟩⟩;have:cur.toList[i]?=us[i]?:=(by rw [← h4,List.getElem?_take_of_lt (by omega)]);rw [Nat.zero_add,Nat.mul_one,zf hg,← Array.getElem?_toList,this];simp [List.getD,show i < us.length by omega]
structure PX (w:World) (ac ar ag:Option Addr) (cc cr cg:Nat) (t:T) (vb:Value) (bl:List Int) (W:World):Prop where
 below:Below w.heap.size w W
 box:W.heap[w.heap.size]?=some (.cells #[.slice ac t.cols.length cc,.int .i64 t.head,.int .i64 t.foot,.slice ar t.rows.length cr,.int .i64 t.gap] 26)
 grd:W.heap[w.heap.size+1]?=some (.cells #[.int .i64 (t.rows.length:Int),.int .i64 (gOf t).cols,.slice ag (gOf t).cells.length cg] 63)
 bnd:W.ownsRow w.heap.size 3 1 vb bl.length (bl.map (Value.int .i64))
theorem PX.kept {w:World} {ac ar ag:Option Addr} {cc cr cg:Nat} {t:T} {vb:Value} {bl:List Int} {W W':World} (h:PX w ac ar ag cc cr cg t vb bl W) (k:Below W.heap.size W W'):PX w ac ar ag cc cr cg t vb bl W' :=
 ⟨zh h.below k,(k.block _ (bL h.box)).trans h.box,(k.block _ (bL h.grd)).trans h.grd,z3k h.bnd k⟩
theorem PX.grown {w:World} {ac ar ag:Option Addr} {cc cr cg:Nat} {t:T} {vb:Value} {bl:List Int} {W W':World} {base m:Nat} {U:Value} {xs:List Value} (h:PX w ac ar ag cc cr cg t vb bl W) (hU:W.ownsRow base 36 1 U m xs) (hb:w.heap.size≤base) (k:W.grownBy W' U.ownBlock):PX w ac ar ag cc cr cg t vb bl W' :=
 ⟨h.below.grown k h.below.size (fun q hq=>Nat.le_trans hb (hU.lt q hq).1),zY h.box k (z08 (zo hU h.box (by decide))),zY h.grd k (z08 (zo hU h.grd (by decide))),z5U h.bnd hU (by decide) k⟩
theorem PX.ints {w:World} {ac ar ag:Option Addr} {cc cr cg:Nat} {t:T} {vb:Value} {bl:List Int} {W:World} (h:PX w ac ar ag cc cr cg t vb bl W):zu W vb bl:=(zq.of_owns h.bnd).at
theorem zdh (w:World) (a b:Nat) (B:Nat) (hB:B≤w.heap.size):(w.alloc (.cells #[.int .i64 (a:Int),.int .i64 (b:Int)] 3)).ownsRow B 3 1 (.slice (some ⟨w.heap.size,0,none⟩) 2 2) 2 [.int .i64 (a:Int),.int .i64 (b:Int)] :=
 ⟨rfl,.inr ⟨w.heap.size,2,#[.int .i64 (a:Int),.int .i64 (b:Int)],rfl,hB,zj _ _,Nat.le_refl _,by unfold maxLen;omega,rfl,rfl⟩⟩
theorem zjL:(Tryz.prog.info? 36).map (fun i=>(i.zero,i.size,i.bytes))=some (some (Value.slice none 0 0),1,24):=by kernel_rfl
theorem zfb (ac ar ag:Option Addr) (cc cr cg:Nat) (t:T) (hD:z0g t) (htk:zC t=true) (w:World) {zg:Nat} (hg:z1I w zg (.slice ag (gOf t).cells.length cg) (gOf t).cells) :
  Calls Tryz.prog 42 #[.agg #[.slice ac t.cols.length cc,.int .i64 t.head,.int .i64 t.foot,.slice ar t.rows.length cr,.int .i64 t.gap],.agg #[.int .i64 (gOf t).rows,.int .i64 (gOf t).cols,.slice ag (gOf t).cells.length cg]] w fun e w'=>∃ v us,e=.returned v∧w'.ownsRow w.heap.size 36 1 v us.length us∧z2l w' w.heap.size us (z05 t)∧Below w.heap.size w w':=by
 have hmx:Tryz.prog.follows .mixedOrders=true:=(by kernel_rfl);obtain ⟨i0,hi0,hz0,hz1,hz2⟩:=info_parts zjL;have hR8:=z0Q htk;have hgr:(gOf t).rows=(t.rows.length:Int):=(by rw [z2q htk])
 have hcl:t.cols.length≤8:=by
  simp only [zC,z2c,Bool.and_eq_true,decide_eq_true_eq] at htk;omega
 have HBL:Hid (z5X ⟨(t.rows.length:Int),(gOf t).cols,(gOf t).cells⟩=zG (gOf t).cells t.rows.length):=Hd (by
  rw [z9w (by rw [z2q htk];exact zfZ (z3E htk hD) hR8.1.1 hcl)]
  simp)
 rw [hgr];have K0:=ze (ze (ze (Below.refl w.heap.size w) (.cells #[.slice ac t.cols.length cc,.int .i64 t.head,.int .i64 t.foot,.slice ar t.rows.length cr,.int .i64 t.gap] 26)) (.cells #[.int .i64 (t.rows.length:Int),.int .i64 (gOf t).cols,.slice ag (gOf t).cells.length cg] 63)) (.cells #[] 36);have hs0:(((w.alloc (.cells #[.slice ac t.cols.length cc,.int .i64 t.head,.int .i64 t.foot,.slice ar t.rows.length cr,.int .i64 t.gap] 26)).alloc (.cells #[.int .i64 (t.rows.length:Int),.int .i64 (gOf t).cols,.slice ag (gOf t).cells.length cg] 63)).alloc (.cells #[] 36)).heap.size=w.heap.size+3:=(by simp);have X0:(((w.alloc (.cells #[.slice ac t.cols.length cc,.int .i64 t.head,.int .i64 t.foot,.slice ar t.rows.length cr,.int .i64 t.gap] 26)).alloc (.cells #[.int .i64 (t.rows.length:Int),.int .i64 (gOf t).cols,.slice ag (gOf t).cells.length cg] 63)).alloc (.cells #[] 36)).heap[w.heap.size]?=some (.cells #[.slice ac t.cols.length cc,.int .i64 t.head,.int .i64 t.foot,.slice ar t.rows.length cr,.int .i64 t.gap] 26):=(Below.heap_alloc _ _ _ (by simp;omega)).trans ((Below.heap_alloc _ _ _ (by simp)).trans (zj _ _));have G0:(((w.alloc (.cells #[.slice ac t.cols.length cc,.int .i64 t.head,.int .i64 t.foot,.slice ar t.rows.length cr,.int .i64 t.gap] 26)).alloc (.cells #[.int .i64 (t.rows.length:Int),.int .i64 (gOf t).cols,.slice ag (gOf t).cells.length cg] 63)).alloc (.cells #[] 36)).heap[w.heap.size+1]?=some (.cells #[.int .i64 (t.rows.length:Int),.int .i64 (gOf t).cols,.slice ag (gOf t).cells.length cg] 63):=(Below.heap_alloc _ _ _ (by simp)).trans (by have:=zj (w.alloc (.cells #[.slice ac t.cols.length cc,.int .i64 t.head,.int .i64 t.foot,.slice ar t.rows.length cr,.int .i64 t.gap] 26)) (.cells #[.int .i64 (t.rows.length:Int),.int .i64 (gOf t).cols,.slice ag (gOf t).cells.length cg] 63);rwa [World.size_alloc] at this);have O0:(((w.alloc (.cells #[.slice ac t.cols.length cc,.int .i64 t.head,.int .i64 t.foot,.slice ar t.rows.length cr,.int .i64 t.gap] 26)).alloc (.cells #[.int .i64 (t.rows.length:Int),.int .i64 (gOf t).cols,.slice ag (gOf t).cells.length cg] 63)).alloc (.cells #[] 36)).heap[w.heap.size+2]?=some (.cells #[] 36):=(by have:=zj ((w.alloc (.cells #[.slice ac t.cols.length cc,.int .i64 t.head,.int .i64 t.foot,.slice ar t.rows.length cr,.int .i64 t.gap] 26)).alloc (.cells #[.int .i64 (t.rows.length:Int),.int .i64 (gOf t).cols,.slice ag (gOf t).cells.length cg] 63)) (.cells #[] 36);rwa [World.size_alloc,World.size_alloc] at this);have HG:=Hd (hg.kept K0);have HK0:=Hd K0;have HX0:=Hd X0;have HG0:=Hd G0;have HO0:=Hd O0;have HTK:=Hd htk;clear hg K0 X0 G0 O0 hgr hcl htk;go_enter Tryz.func42,Tryz.ntmps42;go_upto_region 2 with fail
 generalize (((w.alloc (.cells #[.slice ac t.cols.length cc,.int .i64 t.head,.int .i64 t.foot,.slice ar t.rows.length cr,.int .i64 t.gap] 26)).alloc (.cells #[.int .i64 (t.rows.length:Int),.int .i64 (gOf t).cols,.slice ag (gOf t).cells.length cg] 63)).alloc (.cells #[] 36))=W0 at HK0 HX0 HG0 HO0 HG hs0 ⊢;obtain ⟨b0,b1,b2,b3,b4⟩:=zU HX0.out;obtain ⟨y0,y1,y2⟩:=z2s HG0.out;go_wp2_with fail
 refine (zbV (t.rows.length:Int) (gOf t).cols ag cg (gOf t).cells W0 HG.out).mono ?_;rintro e w1 ⟨vb,rfl,hI,hb1⟩;rw [HBL.out] at hI;obtain ⟨avb,cvb,rfl⟩:=hI.form;have HX1:Hid (PX w ac ar ag cc cr cg t (.slice avb (zG (gOf t).cells t.rows.length).length cvb) (zG (gOf t).cells t.rows.length) w1):=Hd ⟨zh HK0.out hb1,(hb1.block _ (by omega)).trans HX0.out,(hb1.block _ (by omega)).trans HG0.out,(hI.base (by omega:w.heap.size≤W0.heap.size) (Nat.le_refl _)).owns⟩;have HO1:Hid (w1.ownsRow (w.heap.size+2) 36 1 (.slice (some ⟨w.heap.size+2,0,none⟩) 0 0) 0 []):=Hd ⟨rfl,.inr ⟨w.heap.size+2,0,#[],rfl,Nat.le_refl _,(hb1.block _ (by omega)).trans HO0.out,Nat.le_refl _,Nat.zero_le _,rfl,rfl⟩⟩;have hbl:=z38 (gOf t).cells t.rows.length;have HLl:=Hd (z58 (gOf t).cells t.rows.length);have HLg:=Hd (fun (k:Nat)=>zcg (gs:=(gOf t).cells) (R:=t.rows.length) (k:=k));have HLs:=Hd (fun (k:Nat)=>z3F (gs:=(gOf t).cells) (R:=t.rows.length) (k:=k));have HLe:=Hd (z7R (gOf t).cells t.rows.length);have HET:Hid (z05 t=z1G t (z0a (gOf t).cells t.rows.length) (zG (gOf t).cells t.rows.length).length):=Hd rfl;have HEL:=Hd (fun k=>z9k t (z0a (gOf t).cells t.rows.length) k);generalize z0a (gOf t).cells t.rows.length=L at HLl HLg HLs HLe HET HEL;generalize zG (gOf t).cells t.rows.length=bs at hI HX1 hbl HLl HLg HLe HET;clear hI hb1 HG HK0 HX0 HG0 HO0 hs0 HBL b0 b1 b2 b3 b4 y0 y1 y2;go_wp2_with fail
 go_loopw [5,7] (fun o i W=>∃ (k:Nat) (us:List Value),k≤bs.length∧i=.int .i64 (k:Int)∧Hid (W.ownsRow (w.heap.size+2) 36 1 o us.length us)∧Hid (z2l W w.heap.size us (z1G t L k))∧Hid (PX w ac ar ag cc cr cg t (.slice avb bs.length cvb) bs W)) (fun _ i _=>bs.length - (intOf i).toNat)
 case atStart=>exact ⟨0,[],Nat.zero_le _,rfl,HO1,⟨rfl,fun i hi=>absurd hi (Nat.not_lt_zero _)⟩,HX1⟩
 case round =>
  clear HX1 HO1;obtain ⟨k,us,hk,rfl,HO,HR,HX⟩:=hrel;have hul:us.length≤k:=(by have:=HR.out.1;have:=HEL.out k;omega);obtain ⟨ao,co,rfl,_⟩:=z0i HO.out;by_cases hlt:k < bs.length
  case neg =>
   obtain rfl:k=bs.length:=by omega
   go_wp2;go_ret;exact ⟨_,us,rfl,z8m HO.out (by omega),by rw [HET.out];exact HR.out,HX.out.below⟩
  obtain ⟨s1,s2⟩:=HLs.out k (by rw [HLl.out];omega);have HLk:=Hd (HLg.out k (by rw [HLl.out];omega));have HLk1:=Hd (HLg.out (k+1) (by rw [HLl.out];omega));have HPn:=Hd (fun (h:¬ z06 t ((L.getD k 0:Nat):Int)=1)=>zde h);have hin:=@zer t L k;obtain ⟨a,ha⟩:∃ a,L.getD k 0=a:=⟨_,rfl⟩;obtain ⟨b,hb⟩:∃ b,L.getD (k+1) 0=b:=⟨_,rfl⟩;have HLa:=Hd ha;have HLb:=Hd hb;rw [ha] at s1 HPn HLk;rw [hb] at s1 s2 HLk1;rw [ha,hb] at hin;have hlk:(bs ++ [(t.rows.length:Int)]).getD k 0=bs.getD k 0:=(by rw [List.getD_eq_getElem?_getD,List.getElem?_append_left hlt,← List.getD_eq_getElem?_getD]);rw [hlk] at HLk;have HIn:=Hd hin;have KP:=Hd (fun (p:BW wr)=>z33 (zfa (.slice ac t.cols.length cc) ar cr t HTK.out a (by omega) p.u));have hne:=z0t wr;have hlw:=(bL HX.out.box);obtain ⟨b0,b1,b2,b3,b4⟩:=zU HX.out.box;obtain ⟨y0,y1,y2⟩:=z2s HX.out.grd;have m0:=zi (a:=⟨w.heap.size,0,none⟩) hlw b0;have m1:=zi (a:=⟨w.heap.size,1,none⟩) hlw b1;have m2:=zi (a:=⟨w.heap.size,2,none⟩) hlw b2;have m3:=zi (a:=⟨w.heap.size,3,none⟩) hlw b3;have m4:=zi (a:=⟨w.heap.size,4,none⟩) hlw b4;obtain ⟨gx,ox,cx,ex,f1,f2,f3,x1⟩:=HX.out.ints.get (i:=k) hlt;simp only [Value.slice.injEq,true_and] at ex;obtain ⟨rfl,rfl⟩:=ex;rw [HLk.out] at x1;have n1:=zi (a:=⟨gx,ox+k,none⟩) f3 x1;unfold maxLen at f2;clear ha hb hlk hin s1 f3;by_cases hk1:k+1 < bs.length
  ·obtain ⟨gq,oq,cq,eq,q1,q2,q3,x2⟩:=HX.out.ints.get (i:=k+1) hk1;simp only [Value.slice.injEq,Option.some.injEq,Addr.mk.injEq,and_true,true_and] at eq;obtain ⟨⟨rfl,rfl⟩,rfl⟩:=eq;have hlk1:(bs ++ [(t.rows.length:Int)]).getD (k+1) 0=bs.getD (k+1) 0:=(by rw [List.getD_eq_getElem?_getD,List.getElem?_append_left hk1,← List.getD_eq_getElem?_getD]);rw [← hlk1,HLk1.out] at x2;clear q1 q2 q3 hlk1;by_cases hp:z06 t (a:Int)=1
   case neg =>
    have HPt:=Hd (HPn.out hp);have hp2:(z06 t (a:Int) == 1)=false:=beq_eq_false_iff_ne.2 hp;generalize z06 t (a:Int)=pv at KP hp2;clear hp HPn;go_upto_region 9 with fail
    refine zn hmx (by kernel_rfl) ?_;repeat (go_big_quiet_step (first | (go_at_call 92;refine KP.out _)))
    refine wpQuiet_nil ?_;intro W4 hw';obtain ⟨⟨Wx,hW4⟩,hw''⟩:=hw';subst hw'';have HX4:=Hd (HX.out.kept hW4);have HO4:=Hd (z3k HO.out hW4)
    have HR4:Hid (z2l W4 w.heap.size us (z1G t L (k+1))):=Hd (by
     rw [HPt.out];exact HR.out.kept hW4)
    clear x1 x2 m0 m1 m2 m3 m4 n1 hne KP HX HO HR hW4 y0 y1 y2 b0 b1 b2 b3 b4;go_wp2;go_roundw
    case rel=>exact ⟨k+1,_,by omega,by go_num,HO4,HR4,HX4⟩
    case measure=>simp [intOf];omega
   have HPt:=Hd (HIn.out hp);rw [hp] at KP;clear hp HPn;go_upto_region 9 with fail
   refine zn hmx (by kernel_rfl) ?_;repeat (go_big_quiet_step (first | (go_at_call 92;refine KP.out _)))
   refine wpQuiet_nil ?_;intro W4 hw';obtain ⟨⟨Wx,hW4⟩,hw''⟩:=hw';subst hw'';have HX4:=Hd (HX.out.kept hW4);have HO4:=Hd (z3k HO.out hW4);have HR4:=Hd (HR.out.kept hW4);have hz4:=HX4.out.below.size;obtain ⟨gx,ox,cx,ex,f1,f2,f3,x4⟩:=HX4.out.ints.get (i:=k) hlt;simp only [Value.slice.injEq,Option.some.injEq,Addr.mk.injEq,and_true,true_and] at ex;obtain ⟨⟨rfl,rfl⟩,rfl⟩:=ex;rw [HLk.out] at x4;clear f1 f2 f3 x1 x2 m0 m1 m2 m3 m4 n1 hne KP HX HO HR hW4 y0 y1 y2 b0 b1 b2 b3 b4;have KA:=ze (ze (Below.refl W4.heap.size W4) (.cells #[.int .i64 (a:Int),.int .i64 (b:Int)] 3)) (.cells #[.slice (some ⟨W4.heap.size,0,none⟩) 2 2] 36);have hOA:=(HO4.out.alloc (.cells #[.int .i64 (a:Int),.int .i64 (b:Int)] 3)).alloc (.cells #[.slice (some ⟨W4.heap.size,0,none⟩) 2 2] 36);have HPn:=Hd (zdh W4 a b w.heap.size hz4);go_wp2_with (at_builtin;refine wpList_append_own _ rfl _ _ 85 rfl (w.heap.size+2) 36 i0 _ 1 24 Tryz.underlying85 hi0 hz0 hz1 hz2 rfl (by decide) _ _ _ rfl hOA ⟨W4.heap.size+1,0,none⟩ 1 1 [.slice (some ⟨W4.heap.size,0,none⟩) 2 2] rfl rfl ?c1 ?c2 ?c3 ?c4 ?c5 ?_)
   case c1=>exact z0D (by have:=zj (W4.alloc (.cells #[.int .i64 (a:Int),.int .i64 (b:Int)] 3)) (.cells #[.slice (some ⟨W4.heap.size,0,none⟩) 2 2] 36);rwa [World.size_alloc] at this)
   case c2=>simp [Value.oneCell']
   case c3=>unfold maxLen;omega
   case c4=>omega
   case c5=>have:=HX4.out.grd;have:=(bL this);simp;omega
   intro v' w5 hown' hgrow' _;have HX5:=Hd ((HX4.out.kept KA).grown hOA (by omega) hgrow')
   have HR5:Hid (z2l w5 w.heap.size (us ++ [.slice (some ⟨W4.heap.size,0,none⟩) 2 2]) (z1G t L (k+1))):=Hd (by
    rw [HPt.out];exact ((HR4.out.kept KA).grown hOA hgrow').snoc (z5U (z3k HPn.out (ze (Below.refl _ _) _)) hOA (by decide) hgrow'))
   have HO5:Hid (w5.ownsRow (w.heap.size+2) 36 1 v' (us ++ [Value.slice (some ⟨W4.heap.size,0,none⟩) 2 2]).length (us ++ [Value.slice (some ⟨W4.heap.size,0,none⟩) 2 2])):=Hd (by rw [List.length_append];exact hown');obtain ⟨g',cap',rfl⟩:=Joins.ownsRow_form hown' (by omega);clear hown' hgrow' hOA KA HX4 HO4 HR4 x4;go_wp2;go_roundw
   case rel=>exact ⟨k+1,_,by omega,by go_num,HO5,HR5,HX5⟩
   case measure=>simp [intOf];omega
  ·have hbR:(b:Int)=(t.rows.length:Int):=by
    have e:bs.length=k+1:=(by omega);have:=HLe.out;rw [e,HLb.out] at this;omega
   have hbR2:b=t.rows.length:=(by omega);subst hbR2;clear hbR;by_cases hp:z06 t (a:Int)=1
   case neg =>
    have HPt:=Hd (HPn.out hp);have hp2:(z06 t (a:Int) == 1)=false:=beq_eq_false_iff_ne.2 hp;generalize z06 t (a:Int)=pv at KP hp2;clear hp HPn;go_upto_region 9 with fail
    refine zn hmx (by kernel_rfl) ?_;repeat (go_big_quiet_step (first | (go_at_call 92;refine KP.out _)))
    refine wpQuiet_nil ?_;intro W4 hw';obtain ⟨⟨Wx,hW4⟩,hw''⟩:=hw';subst hw'';have HX4:=Hd (HX.out.kept hW4);have HO4:=Hd (z3k HO.out hW4)
    have HR4:Hid (z2l W4 w.heap.size us (z1G t L (k+1))):=Hd (by
     rw [HPt.out];exact HR.out.kept hW4)
    clear x1 m0 m1 m2 m3 m4 n1 hne KP HX HO HR hW4 y0 y1 y2 b0 b1 b2 b3 b4;go_wp2;go_roundw
    case rel=>exact ⟨k+1,_,by omega,by go_num,HO4,HR4,HX4⟩
    case measure=>simp [intOf];omega
   have HPt:=Hd (HIn.out hp);rw [hp] at KP;clear hp HPn;go_upto_region 9 with fail
   refine zn hmx (by kernel_rfl) ?_;repeat (go_big_quiet_step (first | (go_at_call 92;refine KP.out _)))
   refine wpQuiet_nil ?_;intro W4 hw';obtain ⟨⟨Wx,hW4⟩,hw''⟩:=hw';subst hw'';have HX4:=Hd (HX.out.kept hW4);have HO4:=Hd (z3k HO.out hW4);have HR4:=Hd (HR.out.kept hW4);have hz4:=HX4.out.below.size;obtain ⟨gx,ox,cx,ex,f1,f2,f3,x4⟩:=HX4.out.ints.get (i:=k) hlt;simp only [Value.slice.injEq,Option.some.injEq,Addr.mk.injEq,and_true,true_and] at ex;obtain ⟨⟨rfl,rfl⟩,rfl⟩:=ex;rw [HLk.out] at x4;clear f1 f2 f3 x1 m0 m1 m2 m3 m4 n1 hne KP HX HO HR hW4 y0 y1 y2 b0 b1 b2 b3 b4;have KA:=ze (ze (Below.refl W4.heap.size W4) (.cells #[.int .i64 (a:Int),.int .i64 (t.rows.length:Int)] 3)) (.cells #[.slice (some ⟨W4.heap.size,0,none⟩) 2 2] 36);have hOA:=(HO4.out.alloc (.cells #[.int .i64 (a:Int),.int .i64 (t.rows.length:Int)] 3)).alloc (.cells #[.slice (some ⟨W4.heap.size,0,none⟩) 2 2] 36);have HPn:=Hd (zdh W4 a t.rows.length w.heap.size hz4);go_wp2_with (at_builtin;refine wpList_append_own _ rfl _ _ 85 rfl (w.heap.size+2) 36 i0 _ 1 24 Tryz.underlying85 hi0 hz0 hz1 hz2 rfl (by decide) _ _ _ rfl hOA ⟨W4.heap.size+1,0,none⟩ 1 1 [.slice (some ⟨W4.heap.size,0,none⟩) 2 2] rfl rfl ?c1 ?c2 ?c3 ?c4 ?c5 ?_)
   case c1=>exact z0D (by have:=zj (W4.alloc (.cells #[.int .i64 (a:Int),.int .i64 (t.rows.length:Int)] 3)) (.cells #[.slice (some ⟨W4.heap.size,0,none⟩) 2 2] 36);rwa [World.size_alloc] at this)
   case c2=>simp [Value.oneCell']
   case c3=>unfold maxLen;omega
   case c4=>omega
   case c5=>have:=HX4.out.grd;have:=(bL this);simp;omega
   intro v' w5 hown' hgrow' _;have HX5:=Hd ((HX4.out.kept KA).grown hOA (by omega) hgrow')
   have HR5:Hid (z2l w5 w.heap.size (us ++ [.slice (some ⟨W4.heap.size,0,none⟩) 2 2]) (z1G t L (k+1))):=Hd (by
    rw [HPt.out];exact ((HR4.out.kept KA).grown hOA hgrow').snoc (z5U (z3k HPn.out (ze (Below.refl _ _) _)) hOA (by decide) hgrow'))
   have HO5:Hid (w5.ownsRow (w.heap.size+2) 36 1 v' (us ++ [Value.slice (some ⟨W4.heap.size,0,none⟩) 2 2]).length (us ++ [Value.slice (some ⟨W4.heap.size,0,none⟩) 2 2])):=Hd (by rw [List.length_append];exact hown');obtain ⟨g',cap',rfl⟩:=Joins.ownsRow_form hown' (by omega);clear hown' hgrow' hOA KA HX4 HO4 HR4 x4;go_wp2;go_roundw
   case rel=>exact ⟨k+1,_,by omega,by go_num,HO5,HR5,HX5⟩
   case measure=>simp [intOf];omega
theorem z8n (rm:List Int):∀ (n:Nat) (ps:List (List PgS)),ps.length=n→∃ A B,ps=A ++ B∧(ps.foldl (zQ rm) ([],[])).2=B.foldl zT []∧(ps.foldl (zQ rm) ([],[])).1.length≤A.length
 | 0,ps,h=>by
  have:ps=[]:=List.eq_nil_of_length_eq_zero h;subst this;exact ⟨[],[],rfl,rfl,Nat.le_refl _⟩
 | n+1,ps,h=>by
  rcases List.eq_nil_or_concat ps with rfl | ⟨a,p,rfl⟩
  ·cases h
  ·rw [List.concat_eq_append] at h ⊢;obtain ⟨A,B,e1,e2,e3⟩:=z8n rm n a (by simpa using h);rw [List.foldl_append,List.foldl_cons,List.foldl_nil];generalize a.foldl (zQ rm) ([],[])=st at e2 e3 ⊢;obtain ⟨pgs,page⟩:=st;simp only at e2 e3
   cases ht:z0B page p (zD rm pgs.length) with
   | true =>
    rw [z7G ht];exact ⟨A,B ++ [p],by rw [e1,List.append_assoc],by simp [e2],e3⟩
   | false =>
    refine ⟨A ++ B,[p],by rw [e1],?_,?_⟩
    ·unfold zQ;rw [if_neg (by simp only;rw [ht];simp)];rfl
    ·have hB:B ≠ []:=by
      rintro rfl;rw [List.foldl_nil] at e2;rw [e2] at ht
      cases ht
     have:=List.length_pos_iff.2 hB;unfold zQ;rw [if_neg (by simp only;rw [ht];simp)];simp only [List.length_append,List.length_cons,List.length_nil];omega
theorem zjc (rm:List Int) {ps:List (List PgS)} (hne:∀ p ∈ ps,p ≠ []) (h:ps ≠ []):(ps.foldl (zQ rm) ([],[])).2 ≠ []:=by
 rcases List.eq_nil_or_concat ps with rfl | ⟨a,p,rfl⟩
 ·exact absurd rfl h
 ·rw [List.concat_eq_append] at hne ⊢;rw [List.foldl_append,List.foldl_cons,List.foldl_nil];have hp:=hne p (by simp);unfold zQ
  split
  ·exact z96 hp
  ·exact z96 hp
theorem zfc {page:List PgS} {s:PgS} {r:Nat} (h:z3l page r) (hs:s.r < r):z3l (z2g page s) r:=by
 rcases List.eq_nil_or_concat page with rfl | ⟨a,l,rfl⟩
 ·intro x hx;simp only [z2g,List.getLast?_nil,List.mem_singleton] at hx;rw [hx];exact hs
 ·rw [List.concat_eq_append] at h ⊢;rw [z6l];intro x hx
  split at hx
  ·rcases List.mem_append.1 hx with h1 | h1
   ·exact h x (List.mem_append.2 (.inl h1))
   ·rw [List.mem_singleton.1 h1];exact h l (by simp)
  ·rcases List.mem_append.1 hx with h1 | h1
   ·exact h x h1
   ·rw [List.mem_singleton.1 h1];exact hs
theorem z7v {r:Nat}:∀ {piece page:List PgS},z3l page r→(∀ s ∈ piece,s.r < r)→z3l (zT page piece) r
 | [],_,h,_=>h
 | s :: l,page,h,hp=>z7v (piece:=l) (page:=z2g page s) (zfc h (hp s (by simp))) (fun x hx=>hp x (List.mem_cons_of_mem _ hx))
theorem zfd {rm:List Int} {st:List (List PgS) × List PgS} {piece:List PgS} {r:Nat} (h:z3l st.2 r) (hp:∀ s ∈ piece,s.r < r):z3l (zQ rm st piece).2 r:=by
 unfold zQ
 split
 ·exact z7v h hp
 ·exact z7v (page:=[]) (fun x hx=>by cases hx) hp
theorem zag {rm:List Int} {r:Nat}:∀ {ps:List (List PgS)} {st:List (List PgS) × List PgS},z3l st.2 r→(∀ p ∈ ps,∀ s ∈ p,s.r < r)→z3l (ps.foldl (zQ rm) st).2 r
 | [],_,h,_=>h
 | p :: ps,st,h,hp=>zag (ps:=ps) (st:=zQ rm st p) (zfd h (hp p (by simp))) (fun q hq=>hp q (List.mem_cons_of_mem _ hq))
theorem zah (hs:List Int):∀ (n a:Nat),∀ s ∈ zK hs a n,s.r < ((a+n:Nat):Int)
 | 0,_,s,h=>by cases h
 | n+1,a,s,h=>by
  rw [zK] at h
  rcases List.mem_cons.1 h with rfl | h
  ·simp only;omega
  ·have:=zah hs n (a+1) s h;omega
theorem zjd {t:T} {hs:List Int} {a b:Nat} (hab:a < b):∀ p ∈ z1p t hs a b,∀ s ∈ p,s.r < (b:Int):=by
 intro p hp s hs';unfold z1p at hp
 split at hp
 ·split at hp
  ·rw [z0f,List.mem_map] at hp;obtain ⟨i,_,rfl⟩:=hp;rw [List.mem_singleton.1 hs'];simp only;omega
  ·rw [List.mem_singleton] at hp;subst hp;have:=zah hs (b - a) a s hs';omega
 ·cases hp
theorem zbF {t:T} {gs:List GC} {R:Nat}:∀ k,k < (z0a gs R).length→(z1G t (z0a gs R) k).Pairwise (fun p q=>p.2≤q.1)∧∀ p ∈ z1G t (z0a gs R) k,p.2≤(z0a gs R).getD k 0
 | 0,_=>⟨List.Pairwise.nil,fun p hp=>by cases hp⟩
 | k+1,hk=>by
  obtain ⟨h1,h2⟩:=zbF (t:=t) (gs:=gs) (R:=R) k (by omega);obtain ⟨s1,s2⟩:=z3F hk;rw [z1G]
  split
  ·refine ⟨List.pairwise_append.2 ⟨h1,by simp,fun p hp q hq=>?_⟩,fun p hp=>?_⟩
   ·rw [List.mem_singleton.1 hq];exact h2 p hp
   ·rcases List.mem_append.1 hp with h | h
    ·have:=h2 p h;omega
    ·rw [List.mem_singleton.1 h];exact Nat.le_refl _
  ·rw [List.append_nil];exact ⟨h1,fun p hp=>by have:=h2 p hp;omega⟩
theorem z8Y (t:T):(z05 t).Pairwise (fun p q=>p.2≤q.1)∧∀ p ∈ z05 t,p.1 < p.2∧p.2≤t.rows.length∧z06 t (p.1:Int)=1:=by
 have hk:(zG (gOf t).cells t.rows.length).length < (z0a (gOf t).cells t.rows.length).length:=(by rw [z58];omega);exact ⟨(zbF _ hk).1,zdg _ hk⟩
theorem zbG (t:T) (hs:List Int):(z05 t).flatMap (fun p=>z1p t hs p.1 p.2)=z0X t hs:=zdf t hs _ _
def stE (t:T) (hs rm:List Int) (i:Nat):List (List PgS) × List PgS:=(((z05 t).take i).flatMap (fun p=>z1p t hs p.1 p.2)).foldl (zQ rm) ([],[])
theorem zi9 {t:T} {hs rm:List Int} {i:Nat} (h:i < (z05 t).length):stE t hs rm (i+1)=(z1p t hs ((z05 t).getD i (0,0)).1 ((z05 t).getD i (0,0)).2).foldl (zQ rm) (stE t hs rm i):=by
 have e:(z05 t).getD i (0,0)=(z05 t)[i]:=(by simp [List.getD,h]);rw [stE,List.take_succ_eq_append_getElem h,List.flatMap_append,List.foldl_append,e];simp [stE]
theorem zia (t:T) (hs rm:List Int):stE t hs rm 0=([],[]):=rfl
theorem zje (t:T) (hs rm:List Int):stE t hs rm (z05 t).length=(z0X t hs).foldl (zQ rm) ([],[]):=by rw [stE,List.take_length,zbG]
theorem zgW {t:T} {hs rm:List Int} {i:Nat} (h:i < (z05 t).length):z3l (stE t hs rm i).2 ((z05 t).getD i (0,0)).1:=by
 obtain ⟨h1,h2⟩:=z8Y t;have e:(z05 t).getD i (0,0)=(z05 t)[i]:=(by simp [List.getD,h]);rw [e];refine zag (fun x hx=>by cases hx) (fun p hp s hs'=>?_);obtain ⟨q,hq,hpq⟩:=List.mem_flatMap.1 hp;obtain ⟨j,hj,rfl⟩:=List.mem_iff_getElem.1 hq;rw [List.length_take] at hj;rw [List.getElem_take] at hpq;have h3:=zjd (h2 _ (List.getElem_mem (by omega:j < (z05 t).length))).1 p hpq s hs';have h4:=List.pairwise_iff_getElem.1 h1 j i (by omega) h (by omega);omega
structure zkq (t:T) (hs rm:List Int) (i a b:Nat):Prop where
 ab:a < b∧b≤t.rows.length
 ahead:z3l (stE t hs rm i).2 a
 low:z3o (stE t hs rm i).2
 len:(stE t hs rm i).2.length≤50000
 pgs:(stE t hs rm i).1.length≤9000
 cut:(b - a=1∧(t.rows.getD a dR).whole=false)∧0 < hs.getD a 0→stE t hs rm (i+1)=(z0f a 0 (hs.getD a 0).toNat).foldl (zQ rm) (stE t hs rm i)∧hiS (stE t hs rm i).2+(hs.getD a 0).toNat≤1000000
 whole:¬ ((b - a=1∧(t.rows.getD a dR).whole=false)∧0 < hs.getD a 0)→stE t hs rm (i+1)=z49 rm (stE t hs rm i).1 (stE t hs rm i).2 (zK hs a (b - a))∧z3o (zK hs a (b - a))
theorem zgX {t:T} (hD:z0g t) (hok:zC t=true) {hs rm:List Int} (hb:∀ x ∈ hs,0≤x∧x≤1000) {i:Nat} (h:i < (z05 t).length):zkq t hs rm i ((z05 t).getD i (0,0)).1 ((z05 t).getD i (0,0)).2:=by
 have e:(z05 t).getD i (0,0)=(z05 t)[i]:=(by simp [List.getD,h]);have hm:(z05 t).getD i (0,0) ∈ z05 t:=(by rw [e];exact List.getElem_mem h);obtain ⟨f1,f2,f3⟩:=(z8Y t).2 _ hm;have hah:=zgW (hs:=hs) (rm:=rm) h;have hsu:=zi9 (hs:=hs) (rm:=rm) h;obtain ⟨A,B,e1,e2,e3⟩:=z8n rm _ (((z05 t).take i).flatMap (fun p=>z1p t hs p.1 p.2)) rfl
 have hsp:z0X t hs=((z05 t).take i).flatMap (fun p=>z1p t hs p.1 p.2) ++ z1p t hs ((z05 t).getD i (0,0)).1 ((z05 t).getD i (0,0)).2 ++ ((z05 t).drop (i+1)).flatMap (fun p=>z1p t hs p.1 p.2):=by
  rw [← zbG t hs,e];have h9:z05 t=(z05 t).take i ++ ((z05 t)[i] :: (z05 t).drop (i+1)):=(by rw [← List.drop_eq_getElem_cons h,List.take_append_drop])
  conv=>lhs;rw [h9]
  rw [List.flatMap_append,List.flatMap_cons,List.append_assoc]
 have hlow:=z5I hD hok hb (show z0X t hs=A ++ B ++ (z1p t hs ((z05 t).getD i (0,0)).1 ((z05 t).getD i (0,0)).2 ++ ((z05 t).drop (i+1)).flatMap (fun p=>z1p t hs p.1 p.2)) by rw [hsp,e1];simp [List.append_assoc]);have hlow2:=z5I hD hok hb (show z0X t hs=A ++ (B ++ z1p t hs ((z05 t).getD i (0,0)).1 ((z05 t).getD i (0,0)).2) ++ ((z05 t).drop (i+1)).flatMap (fun p=>z1p t hs p.1 p.2) by rw [hsp,e1];simp [List.append_assoc]);have hl9:=z7s hok hb;have hAl:A.length≤(z0X t hs).length:=(by rw [hsp,e1];simp only [List.length_append];omega);have hS2:(stE t hs rm i).2=B.foldl zT []:=e2;have hS1:(stE t hs rm i).1.length≤A.length:=e3;generalize ((z05 t).getD i (0,0)).1=a at f1 f3 hah hsu hlow hlow2 ⊢;generalize ((z05 t).getD i (0,0)).2=b at f1 f2 hsu hlow hlow2 ⊢;refine ⟨⟨f1,f2⟩,hah,by rw [hS2];exact hlow.1,by rw [hS2];exact hlow.2.1,by omega,fun hc=>?_,fun hc=>?_⟩
 ·rw [zaq f3 hc] at hsu hlow2;refine ⟨hsu,?_⟩;have h3:=hlow2.2.2;rw [List.flatten_append,z1Q,z94,← hlow.2.2] at h3;rw [hS2];omega
 ·rw [z7N f3 hc] at hsu;have hlw:=z79 hb (n:=b - a) (a:=a) (by have:=z0Q hok;omega);refine ⟨?_,hlw⟩;rw [hsu,List.foldl_cons,List.foldl_nil];unfold zQ z49;rw [(z6Z hs (b - a) a _ hah).1,(z6Z hs (b - a) a [] (fun x hx=>by cases hx)).1];rfl
def zai:Value→Nat
 | .slice _ n _=>n
 | _=>0
structure C9f (w W:World) (B P:Nat) (rm:List Int) (r:Int) (n f:Nat) (A0:Int) (L0 G0:Nat) (TGT:List (List PgS) × List PgS) (pv:Value) (us:List Value) (pgs:List (List PgS)) (gv:Value) (page:List PgS):Prop where
 hf:f≤n
 p:P9 W B P pv us pgs gv page
 e:(z0f r (f:Int) (n - f)).foldl (zQ rm) (pgs,page)=TGT
 st:f < n→z5W page r∨(page ≠ []∧zD rm pgs.length - hiS page≤0)
 h0:0≤hiS page
 h1:hiS page+((n:Int) - f)≤A0
 gl:page.length≤G0+f
 pl:pgs.length+min 1 page.length≤L0+f
 b:Below B w W
 tf:TF w W
 bs:B≤W.heap.size
theorem C9f.kept {w W W':World} {B P:Nat} {rm:List Int} {r:Int} {n f:Nat} {A0:Int} {L0 G0:Nat} {TGT:List (List PgS) × List PgS} {pv:Value} {us:List Value} {pgs:List (List PgS)} {gv:Value} {page:List PgS} (h:C9f w W B P rm r n f A0 L0 G0 TGT pv us pgs gv page) (k:Below W.heap.size W W'):C9f w W' B P rm r n f A0 L0 G0 TGT pv us pgs gv page :=
 { h with p:=h.p.kept k,b:=h.b.trans (k.mono h.bs),tf:=h.tf.trans (TF.of_below k),bs:=Nat.le_trans h.bs k.size }
theorem C9f.push {w W w2:World} {B P:Nat} {rm:List Int} {r:Int} {n f:Nat} {A0:Int} {L0 G0:Nat} {TGT:List (List PgS) × List PgS} {pv v':Value} {us:List Value} {pgs:List (List PgS)} {gv:Value} {page:List PgS} {o:Obj} (h:C9f w W B P rm r n f A0 L0 G0 TGT pv us pgs gv page) (hg:(W.alloc o).grownBy w2 pv.ownBlock) (ho:w2.ownsRow B 73 1 v' (us.length+1) (us ++ [gv])) (hlt:f < n) (hp:page ≠ []) (hr:zD rm pgs.length - hiS page≤0) :
  C9f w (w2.alloc (.cells #[] 80)) B w2.heap.size rm r n f A0 L0 G0 TGT v' (us ++ [gv]) (pgs ++ [page]) (.slice (some ⟨w2.heap.size,0,none⟩) 0 0) []:=by
 have hpl:=List.length_pos_iff.2 hp;have hs:=hg.size;rw [World.size_alloc] at hs;have h9:=h.h0;have h8:=h.h1;have h7:=h.pl;have h6:=h.bs;refine ⟨h.hf,h.p.push hg ho h.bs,?_,fun _=>.inl (fun l hl=>by simp at hl),by simp [hiS],?_,Nat.zero_le _,?_,h.p.pushed h.b hg h.bs,((h.tf.alloc o).grownP (h.p.own.alloc o) hg).alloc _,by simp;omega⟩
 ·rw [← h.e];exact (zh8 (by omega) hp hr).symm
 ·rw [ziu];omega
 ·simp only [List.length_append,List.length_cons,List.length_nil];omega
theorem C9f.add {w W w4:World} {B P:Nat} {rm:List Int} {r:Int} {n f:Nat} {A0:Int} {L0 G0:Nat} {TGT:List (List PgS) × List PgS} {pv v':Value} {us:List Value} {pgs:List (List PgS)} {gv:Value} {page:List PgS} {o:Obj} (h:C9f w W B P rm r n f A0 L0 G0 TGT pv us pgs gv page) {k:Nat} {tt:Int}
  (hg:(W.alloc o).grownBy w4 gv.ownBlock) (ho:zJ w4 P v' (page ++ [⟨r,(f:Int),tt⟩])) (hk1:0 < k) (hk2:k≤n - f) (hto:tt=(f:Int)+k) (hkm:(k:Int)≤max 1 (zD rm pgs.length - hiS page)) (hkl:k < n - f→zD rm pgs.length - hiS page≤k) (hpush:page=[]∨0 < zD rm pgs.length - hiS page) (hlt:f < n) :
  C9f w w4 B P rm r n (f+k) A0 L0 G0 TGT pv us pgs v' (page ++ [⟨r,(f:Int),tt⟩]):=by
 have hs:=hg.size;rw [World.size_alloc] at hs;have h9:=h.h0;have h8:=h.h1;have h7:=h.pl;have h6:=h.bs;have h5:=h.gl;have KA:=ze (Below.refl W.heap.size W) o;have hbA:Below B w (W.alloc o):=h.b.trans (KA.mono h.bs);have hbs:B≤(W.alloc o).heap.size:=(by simp;omega)
 have hhi:hiS (page ++ [⟨r,(f:Int),tt⟩])=hiS page+k:=by
  rw [z1Q,z36,hto];simp only;omega
 have hnl:z5W page r:=by
  rcases h.st hlt with h1 | ⟨h1,h2⟩
  ·exact h1
  ·rcases hpush with h3 | h3
   ·exact absurd h3 h1
   ·omega
 refine ⟨by omega,(h.p.kept KA).add hg ho,?_,fun h3=>.inr ⟨by simp,?_⟩,by omega,by rw [hhi];omega,?_,?_,(h.p.kept KA).grew hbA hg hbs,(h.tf.alloc o).grownS (h.p.kept KA).page hg,by omega⟩
 ·rw [← h.e,zjk hk1 hk2 hnl hpush hkm,hto];have e1:((f+k:Nat):Int)=(f:Int)+k:=(by omega);have e2:n - (f+k)=n - f - k:=(by omega);rw [e1,e2]
 ·rw [hhi];have:=hkl (by omega);omega
 ·rw [List.length_append,List.length_cons,List.length_nil];omega
 ·rw [List.length_append,List.length_cons,List.length_nil];omega
theorem zgY (rm:List Int) (hl:0 < rm.length) (hl2:rm.length≤1000) (hrm:∀ k,-1000000≤zD rm k∧zD rm k≤1000) (vr:Value) (B P:Nat) (pv gv:Value) (us:List Value) (pgs:List (List PgS)) (page:List PgS) (r:Int) (n:Nat) (hn:n≤1000) (hnl:z5W page r) (h0:0≤hiS page) (h1:hiS page+n≤1000000) (hpl:pgs.length≤50000) (hgl:page.length≤50000)
  (w:World) (hB:B≤w.heap.size) (hr:∀ W,Below B w W→zu W vr rm) (hP:P9 w B P pv us pgs gv page) :
  Calls Tryz.prog 43 #[pv,gv,.int .i64 r,.int .i64 (n:Int),vr] w fun e w'=>∃ P' pv' us' gv',e=.returned (.tuple #[pv',gv'])∧P9 w' B P' pv' us' ((z0f r 0 n).foldl (zQ rm) (pgs,page)).1 gv' ((z0f r 0 n).foldl (zQ rm) (pgs,page)).2∧Below B w w'∧TF w w':=by
 obtain ⟨i0,hi0,hz0,hz1,hz2⟩:=info_parts z7U;obtain ⟨j0,hj0,hy0,hy1,hy2⟩:=info_parts z5Z;generalize hTG:(z0f r 0 n).foldl (zQ rm) (pgs,page)=TGT;have H0:Hid (C9f w w B P rm r n 0 (hiS page+n) (pgs.length+1) page.length TGT pv us pgs gv page):=Hd ⟨Nat.zero_le _,hP,hTG,fun _=>.inl hnl,h0,by omega,by omega,by omega,Below.refl _ _,TF.refl _,hB⟩;obtain ⟨ap,cp,rfl,_⟩:=z0i hP.own;obtain ⟨ag,cg,rfl⟩:=hP.page.form;have HR:=Hd hr;have HM:=Hd hrm;have HT:=Hd hTG;obtain ⟨A0,hA0⟩:∃ A0,hiS page+n=A0:=⟨_,rfl⟩;obtain ⟨L0,hL0⟩:∃ L0,pgs.length+1=L0:=⟨_,rfl⟩;obtain ⟨G0,hG0⟩:∃ G0,page.length=G0:=⟨_,rfl⟩;rw [hA0,hL0] at H0;have hA1:A0≤1000000:=(by omega);have hL1:L0≤50001:=(by omega);have hG1:G0≤50000:=(by omega);have HG:=Hd hG0;clear hP hr hrm hTG hnl h0 h1 hpl hgl hA0 hL0 hG0;go_enter Tryz.func43,Tryz.ntmps43;go_wp2_with fail
 go_loopw [0,1,12] (fun pv gv i W=>∃ (f:Nat) (us:List Value) (pgs:List (List PgS)) (page:List PgS) (P:Nat),i=.int .i64 (f:Int)∧Hid (C9f w W B P rm r n f A0 L0 G0 TGT pv us pgs gv page)) (fun _ gv i _=>2 * (n - (intOf i).toNat)+min 1 (zai gv))
 case atStart=>exact ⟨0,us,pgs,page,P,rfl,by rw [← HG.out];exact H0⟩
 case round =>
  clear H0 HT HG;obtain ⟨f,us,pgs,page,P,rfl,HC⟩:=hrel;obtain ⟨ap,cp,rfl,_⟩:=z0i HC.out.p.own;obtain ⟨ag,cg,rfl⟩:=HC.out.p.page.form;have hf:=HC.out.hf;by_cases hlt:f < n
  case neg =>
   obtain rfl:f=n:=by omega
   have HE:Hid (TGT=(pgs,page)):=Hd (by rw [← HC.out.e,Nat.sub_self];rfl);go_wp2;exact bodyPost_ret (v:=.tuple #[.slice ap us.length cp,.slice ag page.length cg]) (by simp [results,Tryz.results43,go_sem]) rfl ⟨P,_,us,_,rfl,by rw [HE.out];exact HC.out.p,HC.out.b,HC.out.tf⟩
  have hul:=HC.out.p.len;have KR:=Hd (fun W (h:zu W vr rm) (hx:pgs.length≤100000)=>zaf rm hl hl2 pgs.length hx vr W h);have b1:=HC.out.h0;have b2:=HC.out.h1;have b3:=HC.out.gl;have b4:=HC.out.pl;have b5:=HC.out.bs;have hlow:z3o page:=⟨b1,by omega⟩;have KA:=Hd (fun W z (h:z2I W z (.slice ag page.length cg) page)=>(z4r hlow ▸ z7t _ page W h:Calls Tryz.prog 94 #[.slice ag page.length cg] W fun e w'=>e=.returned (.int .i64 (hiS page))∧Below W.heap.size W w'));have hrb:=HM.out pgs.length;have hpl:pgs.length≤60000:=(by omega);have hub:us.length≤60000:=(by omega);have hgl:page.length≤60000:=(by omega);rw [hul] at HC ⊢;clear hlow hul b3 b4;have HR1:=HR.out wr HC.out.b;go_wp2_with fail
  refine (KR.out _ HR1 (by omega)).mono ?_;rintro e w1 ⟨rfl,k1⟩;replace HC:=Hd (HC.out.kept k1);clear k1 HR1 KR b5;go_wp2_with fail
  refine (KA.out _ _ HC.out.p.page.at).mono ?_;rintro e w2 ⟨rfl,k2⟩;have HQ:=Hd (HC.out.kept k2);have hB2:=HQ.out.bs;have hP2:=HQ.out.p.hi;have hBP:=HQ.out.p.le;clear k2 KA HC;have HQd:=Hd (fun (v':Value) (w4:World) (o:Obj) hg ho hp hr=>C9f.push HQ.out (v':=v') (w2:=w4) (o:=o) hg ho hlt hp hr);have HQa:=Hd (fun (v':Value) (w4:World) (o:Obj) (k:Nat) (tt:Int) hg ho h1 h2 h3 h4 h5 h6=>C9f.add HQ.out (v':=v') (w4:=w4) (o:=o) (k:=k) (tt:=tt) hg ho h1 h2 h3 h4 h5 h6 hlt);have HOp:=Hd (HQ.out.p.own);have HOg:=Hd (HQ.out.p.page);clear HQ;generalize zD rm pgs.length=R at HQd HQa hrb ⊢;generalize hiS page=A at HQd HQa b1 b2 ⊢;have hwr:IntKind.i64.wrap (R - A)=R - A:=(by rw [IntKind.wrap_i64];omega);have hfr:((f:Int) < (n:Int))=True:=(by simp;omega);by_cases hfree:R - A≤0
  ·by_cases he:page=[]
   ·subst he;have hpush:([]:List PgS)=[]∨0 < R - A:=.inl rfl;clear HQd HOp;go_wp2_with fail
    refine (z2X 1 (R - A) w2).mono ?_;rintro e w9 ⟨rfl,hw9⟩;obtain rfl:w2=w9:=hw9.symm;by_cases hto:(n:Int) < (f:Int)+max 1 (R - A)
    ·exact absurd hto (by omega)
    ·obtain ⟨k,hk⟩:∃ k:Nat,(k:Int)=max 1 (R - A):=⟨(max 1 (R - A)).toNat,by omega⟩;have hwk:IntKind.i64.wrap ((f:Int)+(k:Int))=(f:Int)+(k:Int):=(by rw [IntKind.wrap_i64];omega);rw [← hk] at hto ⊢;have hO:=HOg.out;unfold zJ at hO;have HA:=Hd (fun (v':Value) (w4:World) (o:Obj) (hg:(w2.alloc o).grownBy w4 (Value.slice ag 0 cg).ownBlock) (ho:zJ w4 P v' ([] ++ [⟨r,(f:Int),((f:Int)+(k:Int))⟩]))=>HQa.out v' w4 o k ((f:Int)+(k:Int)) hg ho (by omega) (by omega) (by omega) (by omega) (by omega) hpush);have hkn:1≤k:=(by omega);clear HQa hk;go_wp2_with (at_builtin;refine wpList_append_own _ rfl _ _ 73 rfl P 80 i0 _ 3 24 Tryz.underlying73 hi0 hz0 hz1 hz2 rfl (by decide) _ _ _ rfl (hO.alloc _) ⟨w2.heap.size,0,none⟩ 1 1 (z1B ⟨r,(f:Int),((f:Int)+(k:Int))⟩) rfl rfl ?c1 ?c2 ?c3 ?c4 ?c5 ?_)
     case c1=>exact z0D (zj w2 _)
     case c2=>simp [z1B,Value.oneCell']
     case c3=>unfold maxLen;simp only [List.length_nil];omega
     case c4=>simp only [List.length_nil];omega
     case c5=>simp;omega
     intro v' w4 hown' hgrow' _;have HN:=Hd (HA.out v' w4 _ hgrow' (zJ.next hown'));obtain ⟨g',cap',rfl⟩:=Joins.ownsRow_form hown' (by omega);clear hown' hgrow' hO HA HOg;go_wp2;go_roundw
     case rel=>exact ⟨f+k,us,pgs,_,P,by go_num,HN⟩
     case measure=>simp [intOf,zai];omega
   ·have hpos:(0:Int) < (page.length:Int):=(by have:=List.length_pos_iff.2 he;omega);have hO:=HOp.out;go_wp2_with (at_builtin;refine wpList_append_own _ rfl _ _ 45 rfl B 73 j0 _ 1 24 Tryz.underlying45 hj0 hy0 hy1 hy2 rfl (by decide) _ _ _ rfl (hO.alloc _) ⟨w2.heap.size,0,none⟩ 1 1 [.slice ag page.length cg] rfl rfl ?c1 ?c2 ?c3 ?c4 ?c5 ?_)
    case c1=>exact z0D (zj w2 (.cells #[.slice ag page.length cg] 73))
    case c2=>simp [Value.oneCell']
    case c3=>unfold maxLen;omega
    case c4=>omega
    case c5=>simp;omega
    intro v' w4 hown' hgrow' _;have HN:=Hd (HQd.out v' w4 _ hgrow' hown' he hfree);have hpn:=List.length_pos_iff.2 he;obtain ⟨g',cap',rfl⟩:=Joins.ownsRow_form hown' (by omega);clear hown' hgrow' hO HQd HQa HOp HOg;go_wp2;go_roundw
    case rel=>exact ⟨f,_,_,_,_,rfl,HN⟩
    case measure=>simp [intOf,zai];omega
  ·have hpush:page=[]∨0 < R - A:=.inr (by omega);clear HQd HOp;go_wp2_with fail
   refine (z2X 1 (R - A) w2).mono ?_;rintro e w9 ⟨rfl,hw9⟩;obtain rfl:w2=w9:=hw9.symm;by_cases hto:(n:Int) < (f:Int)+max 1 (R - A)
   ·obtain ⟨k,hk⟩:∃ k:Nat,k=n - f:=⟨_,rfl⟩;have hO:=HOg.out;unfold zJ at hO;have HA:=Hd (fun (v':Value) (w4:World) (o:Obj) (hg:(w2.alloc o).grownBy w4 (Value.slice ag page.length cg).ownBlock) (ho:zJ w4 P v' (page ++ [⟨r,(f:Int),(n:Int)⟩]))=>HQa.out v' w4 o k (n:Int) hg ho (by omega) (by omega) (by omega) (by omega) (by omega) hpush);have HKn:Hid ((n:Int)=((f+k:Nat):Int)):=Hd (by omega);have hkn:1≤k∧f+k=n:=(by omega);clear HQa hk;go_wp2_with (at_builtin;refine wpList_append_own _ rfl _ _ 73 rfl P 80 i0 _ 3 24 Tryz.underlying73 hi0 hz0 hz1 hz2 rfl (by decide) _ _ _ rfl (hO.alloc _) ⟨w2.heap.size,0,none⟩ 1 1 (z1B ⟨r,(f:Int),(n:Int)⟩) rfl rfl ?c1 ?c2 ?c3 ?c4 ?c5 ?_)
    case c1=>exact z0D (zj w2 _)
    case c2=>simp [z1B,Value.oneCell']
    case c3=>unfold maxLen;omega
    case c4=>omega
    case c5=>simp;omega
    intro v' w4 hown' hgrow' _;have HN:=Hd (HA.out v' w4 _ hgrow' (zJ.next hown'));obtain ⟨g',cap',rfl⟩:=Joins.ownsRow_form hown' (by omega);clear hown' hgrow' hO HA HOg;go_wp2;go_roundw
    case rel=>exact ⟨f+k,us,pgs,_,P,by rw [HKn.out],HN⟩
    case measure=>simp [intOf,zai];omega
   ·obtain ⟨k,hk⟩:∃ k:Nat,(k:Int)=max 1 (R - A):=⟨(max 1 (R - A)).toNat,by omega⟩;have hwk:IntKind.i64.wrap ((f:Int)+(k:Int))=(f:Int)+(k:Int):=(by rw [IntKind.wrap_i64];omega);rw [← hk] at hto ⊢;have hO:=HOg.out;unfold zJ at hO;have HA:=Hd (fun (v':Value) (w4:World) (o:Obj) (hg:(w2.alloc o).grownBy w4 (Value.slice ag page.length cg).ownBlock) (ho:zJ w4 P v' (page ++ [⟨r,(f:Int),((f:Int)+(k:Int))⟩]))=>HQa.out v' w4 o k ((f:Int)+(k:Int)) hg ho (by omega) (by omega) (by omega) (by omega) (by omega) hpush);have hkn:1≤k:=(by omega);clear HQa hk;go_wp2_with (at_builtin;refine wpList_append_own _ rfl _ _ 73 rfl P 80 i0 _ 3 24 Tryz.underlying73 hi0 hz0 hz1 hz2 rfl (by decide) _ _ _ rfl (hO.alloc _) ⟨w2.heap.size,0,none⟩ 1 1 (z1B ⟨r,(f:Int),((f:Int)+(k:Int))⟩) rfl rfl ?c1 ?c2 ?c3 ?c4 ?c5 ?_)
    case c1=>exact z0D (zj w2 _)
    case c2=>simp [z1B,Value.oneCell']
    case c3=>unfold maxLen;omega
    case c4=>omega
    case c5=>simp;omega
    intro v' w4 hown' hgrow' _;have HN:=Hd (HA.out v' w4 _ hgrow' (zJ.next hown'));obtain ⟨g',cap',rfl⟩:=Joins.ownsRow_form hown' (by omega);clear hown' hgrow' hO HA HOg;go_wp2;go_roundw
    case rel=>exact ⟨f+k,us,pgs,_,P,by go_num,HN⟩
    case measure=>simp [intOf,zai];omega
theorem zdi (s:ByteArray) (hs:s.size≤maxLen) (q:Int) (hq:-9223372036854775808≤q∧q≤9223372036854775807) (w:World) :
  Calls Tryz.prog 88 #[.string s,.int .i64 q] w fun e w'=>∃ v,e=.returned v∧z1y w' w.heap.size v (zR (z15 q (zP s)))∧Below w.heap.size w w':=by
 obtain ⟨i0,hi,hz0,hz1,hz2⟩:=info_parts zjy;have hwl:=z5P s;have HW:=Hd (z85 s hs);generalize zP s=l at HW hwl ⊢;go_enter Tryz.func88,Tryz.ntmps88;go_wp2_with fail
 refine (HW.out _).mono ?_;rintro e w1 ⟨v1,rfl,hv1,hb1⟩;have V1:=Hd hv1;have K1:=Hd hb1;obtain ⟨a1,c1,rfl⟩:=z9R hv1;have hsz1:=hb1.size;clear hv1 hb1;go_wp2_with fail
 go_loopw [6,7] (fun o i W=>∃ k:Nat,k≤l.length∧i=.int .i64 k∧Hid (z1y W w1.heap.size o (zR (z15 q (l.take k))))∧Hid (Below w1.heap.size w1 W)) (fun _ i _=>l.length - (intOf i).toNat)
 case atStart=>exact ⟨0,Nat.zero_le _,rfl,z1y.of_owns (World.ownsRow_made w1 #[] 0 (Nat.le_refl _) (Nat.zero_le _) rfl),ze (Below.refl _ _) _⟩
 case round =>
  obtain ⟨k,hk,rfl,HR,HB⟩:=hrel;by_cases hlt:k < l.length
  ·obtain ⟨g,cap',e',h1,h2,hx⟩:=zek (z4k V1.out HB.out) hlt;simp only [Value.slice.injEq,true_and] at e';obtain ⟨rfl,rfl⟩:=e';have h3:=l[k].2;have HT:=Hd (zgu (q:=q) hlt);obtain ⟨hb1,hb2⟩:=zbr q (l.take k);have hok:=Hd (zcP q (l.take k));have htl:(l.take k).length≤30:=(by rw [List.length_take];omega);have HN:=Hd (fun h=>ziZ (q:=q) hok.out h l[k]);have HK:=Hd (fun h=>zgt (q:=q) hok.out h l[k]);have HF:=Hd (fun h=>zhS (q:=q) hok.out h l[k]);rw [← HT.out] at HN HK HF;generalize l[k]=x at hx h3 HN HK HF;generalize hout:zR (z15 q (l.take k))=out at HR HN HK HF hb1 hb2;clear hout HT hok;obtain ⟨ao,co,rfl⟩:=HR.out.form;unfold maxLen at h2;have hbs:=HB.out.size;by_cases hn0:out.length=0
   ·have hd:decide ((0:Int) < (out.length:Int))=false:=decide_eq_false (by omega);have HE:=Hd (HN.out hn0);obtain rfl:out=[]:=List.eq_nil_of_length_eq_zero hn0;clear hn0 hd HK HF HN;have hd:decide ((0:Int) < (0:Int))=false:=rfl;go_wp2_with fail
    go_quiet (fail)
    have hO:(wr.drewN nq).ownsRow w1.heap.size 9 1 (.slice ao 0 co) 0 []:=zcQ HR.out;go_wp2_with (at_builtin;refine wpList_append_own _ rfl _ _ 119 rfl w1.heap.size 9 i0 (.string ⟨#[]⟩) 1 16 Tryz.underlying119 hi hz0 hz1 hz2 rfl (by decide) _ _ _ rfl (hO.alloc _) ⟨wr.heap.size,0,none⟩ 1 1 [.string x.1] rfl rfl ?c1 ?c2 ?c3 ?c4 ?c5 ?_)
    case c1=>exact cell_one_new (wr.drewN nq) (.string x.1) 9
    case c2=>intro u hu;simp at hu;subst hu;rfl
    case c3=>unfold maxLen;omega
    case c4=>omega
    case c5=>simp;omega
    intro v' w2 hown' hgrow' _;have HB2:=Hd ((ze (z3V HB.out nq) (.cells #[.string x.1] 9)).grown hgrow' (by simp;omega) (fun b hb=>(hO.lt b hb).1))
    have HR2:Hid (z1y w2 w1.heap.size v' (zR (z15 q (l.take (k+1))))):=by
     show z1y _ _ _ _;rw [HE.out];exact z1y.of_owns hown'
    obtain ⟨g',cap',rfl⟩:=Joins.ownsRow_form hown' (by omega);clear hown' hgrow' hO HR HB;go_wp2;go_roundw
    case rel=>exact ⟨k+1,by omega,by go_num,HR2,HB2⟩
    case measure=>simp [intOf];omega
   ·obtain ⟨m,hm⟩:=Nat.exists_eq_succ_of_ne_zero hn0;obtain ⟨go,co',e',hgo,hgs,hc1,hc2,hy,hfy⟩:=HR.out.get (i:=out.length - 1) (by omega);simp only [Value.slice.injEq,true_and] at e';obtain ⟨rfl,rfl⟩:=e';have hyl:out.getD (out.length - 1) eS=z4T out:=rfl;rw [hyl] at hy;have hm1:out.length - 1=m:=(by omega);have hm2:out.length=m+1:=hm;have HR0:=Hd (zcQ HR.out);have HRs:=Hd (fun y=>HR.out.set (i:=out.length - 1) (by omega) y);have HKo:=Hd (HK.out hn0);have HFo:=Hd (HF.out hn0);generalize z4T out=y at hy hb2 HKo HFo;rw [hm1] at hy hfy HRs HFo;rw [hm2] at hc1 HR0 HRs;rw [hm2];unfold maxLen at hc2;have hd:decide ((0:Int) < ((m:Int)+1))=true:=decide_eq_true (by omega);by_cases hqq:q < (y.size:Int)+1+x.1.size
    ·have hdq:decide ((y.size:Int)+1+(x.1.size:Int)≤q)=false:=decide_eq_false (by omega);have HE:=Hd (HKo.out hqq);go_wp2_with fail
     go_quiet (fail)
     have hO:(wr.drewN nq).ownsRow w1.heap.size 9 1 (.slice (some ⟨go,0,none⟩) (m+1) co) (m+1) (out.map Value.string):=HR0.out;go_wp2_with (at_builtin;refine wpList_append_own _ rfl _ _ 119 rfl w1.heap.size 9 i0 (.string ⟨#[]⟩) 1 16 Tryz.underlying119 hi hz0 hz1 hz2 rfl (by decide) _ _ _ rfl (hO.alloc _) ⟨wr.heap.size,0,none⟩ 1 1 [.string x.1] rfl rfl ?c1 ?c2 ?c3 ?c4 ?c5 ?_)
     case c1=>exact cell_one_new (wr.drewN nq) (.string x.1) 9
     case c2=>intro u hu;simp at hu;subst hu;rfl
     case c3=>unfold maxLen;omega
     case c4=>omega
     case c5=>simp;omega
     intro v' w2 hown' hgrow' _;have HB2:=Hd ((ze (z3V HB.out nq) (.cells #[.string x.1] 9)).grown hgrow' (by simp;omega) (fun b hb=>(hO.lt b hb).1))
     have HR2:Hid (z1y w2 w1.heap.size v' (zR (z15 q (l.take (k+1))))):=by
      show z1y _ _ _ _;rw [HE.out];exact z1y.of_owns (by rw [List.length_append,List.map_append,hm2];exact hown')
     obtain ⟨g',cap',rfl⟩:=Joins.ownsRow_form hown' (by omega);clear hown' hgrow' hO HR HB;go_wp2;go_roundw
     case rel=>exact ⟨k+1,by omega,by go_num,HR2,HB2⟩
     case measure=>simp [intOf];omega
    ·have hdq:decide ((y.size:Int)+1+(x.1.size:Int)≤q)=true:=decide_eq_true (by omega);have HE:=Hd (HFo.out hqq);have hz3:¬ 9223372036854775807 < y.size+1:=(by omega);have hz4:¬ 9223372036854775807 < y.size+1+x.1.size:=(by omega);go_wp2_with fail
     go_quiet (fail)
     go_wp2_with fail
     have hy':(wr.drewN nq).cell? ⟨go,m,none⟩=some (.string y):=hy;have hx':(wr.drewN nq).cell? ⟨g,k,none⟩=some (.string x.1):=hx;have hf':(wr.drewN nq).frozen? ⟨go,m,none⟩=false:=hfy;have HB1:=Hd (z3V HB.out nq);have HR1:Hid (∀ y,z1y ((wr.drewN nq).setCell ⟨go,m,none⟩ (.string y)) w1.heap.size (.slice (some ⟨go,0,none⟩) (m+1) co) (out.set m y)):=HRs;clear hy hx hfy HR HRs HR0 HN HK HF HKo HFo HB;generalize wr.drewN nq=W1 at hy' hx' hf' HB1 HR1 ⊢
     go_region
     all_goals
      go_wp2;go_roundw
      case rel=>exact ⟨k+1,by omega,by go_num,by rw [HE.out];exact HR1.out _,Below.drew ((HB1.out).setCell (p:=⟨go,m,none⟩) hgo _)⟩
      case measure=>simp [intOf];omega
  ·obtain rfl:k=l.length:=by omega
   rw [List.take_length] at HR;obtain ⟨ao,co,rfl⟩:=HR.out.form;go_wp2;go_ret;exact ⟨_,rfl,HR.out.base hsz1,zh K1.out HB.out⟩
end Go.Proofs.YtggmjiddadjilamGreat
