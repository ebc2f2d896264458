/-
  PROVED HERE: what the model's GrdBlocks answers at a grid that lies in memory, and that its answer owns its memory; nothing that was in memory is turned. Also: 4 more texts of the same proof.
-/
import Derived.Test.YtggmjiddadjilahGreatE31
set_option maxRecDepth 1000000
set_option maxHeartbeats 40000000
namespace Go.Proofs.YtggmjiddadjilahGreat
section
open Go.RowKit Go.BigFrame
theorem zfk (gs:List GC) (row:Int) (k:Nat) (hk:k < gs.length):(!(gs.take (k+1)).any (z1X row))=((!(gs.take k).any (z1X row)) && !z1X row (gs.getD k dG)):=by
 rw [List.take_succ_eq_append_getElem hk,List.any_append];simp [List.getD,hk]
theorem zc0 (R C:Int) (ac:Option Addr) (cc:Nat) (gs:List GC) (w:World) {z:Nat} (h:z1J w z (.slice ac gs.length cc) gs) :
  Calls Tryz.prog 96 #[.agg #[.int .i64 R,.int .i64 C,.slice ac gs.length cc]] w fun e w'=>∃ v,e=.returned v∧zq w' w.heap.size w'.heap.size v (z64 ⟨R,C,gs⟩)∧Below w.heap.size w w':=by
 obtain ⟨_,_,_,hlen⟩:=At.form h;unfold maxLen at hlen;obtain ⟨i0,hi,hz0,hz1,hz2⟩:=info_parts z9D;have K0:=Hd (ze (ze (Below.refl w.heap.size w) (.cells #[.int .i64 R,.int .i64 C,.slice ac gs.length cc] 38)) (.cells #[] 3));have H:=Hd h;clear h;have KO:=Hd (zh6 R C ac cc gs _ (H.out.kept K0.out))
 cases ho:okB ⟨R,C,gs⟩ with
 | false =>
  have HF:=Hd (zeL ho);rw [ho] at KO;clear ho;go_enter Tryz.func96,Tryz.ntmps96;go_wp2_with fail
  refine KO.out.mono ?_;rintro e w1 ⟨rfl,hb1⟩;have K1:=Hd (zh K0.out hb1);have E1:Hid (w1.heap[w.heap.size+1]?=some (.cells #[] 3)):=Hd ((hb1.block (w.heap.size+1) (by simp)).trans (by have:=zj (w.alloc (.cells #[.int .i64 R,.int .i64 C,.slice ac gs.length cc] 38)) (.cells #[] 3);rwa [World.size_alloc] at this));clear hb1;go_wp2;go_ret;refine ⟨_,rfl,?_,K1.out⟩;rw [HF.out];refine .inr ⟨w.heap.size+1,0,#[],rfl,by omega,(bL E1.out),E1.out,Nat.le_refl _,Nat.zero_le _,rfl,fun i hi=>absurd hi (Nat.not_lt_zero _)⟩
 | true =>
  have HF:=Hd (z9C ho);rw [ho] at KO;have ho2:=ho;simp only [okB,Bool.and_eq_true] at ho2;obtain ⟨hR1,hR2,hC1,hC2,hn⟩:=zaZ ho2.1;have HFit:=Hd (zb1 (Nat.le_refl _) ho2.2);rw [List.take_length] at HFit;obtain ⟨Rn,rfl⟩:∃ Rn:Nat,R=Rn:=⟨R.toNat,by omega⟩;clear ho ho2;go_enter Tryz.func96,Tryz.ntmps96;go_wp2_with fail
  refine KO.out.mono ?_;rintro e w1 ⟨rfl,hb1⟩;have K1:=Hd (zh K0.out hb1);have X1:=Hd ((hb1.block w.heap.size (by simp;omega)).trans ((Below.heap_alloc _ _ _ (by simp)).trans (zj _ _)));have E1:Hid (w1.heap[w.heap.size+1]?=some (.cells #[] 3)):=Hd ((hb1.block (w.heap.size+1) (by simp)).trans (by have:=zj (w.alloc (.cells #[.int .i64 (Rn:Int),.int .i64 C,.slice ac gs.length cc] 38)) (.cells #[] 3);rwa [World.size_alloc] at this));have hs1:w.heap.size+2≤w1.heap.size:=(by have:=hb1.size;simp at this;omega)
  have HO1:Hid (w1.ownsRow (w.heap.size+1) 3 1 (.slice (some ⟨w.heap.size+1,0,none⟩) 0 0) (zG gs 0).length ((zG gs 0).map (Value.int .i64))) :=
   ⟨by simp,.inr ⟨w.heap.size+1,0,#[],rfl,Nat.le_refl _,E1.out,Nat.le_refl _,Nat.zero_le _,rfl,rfl⟩⟩
  clear hb1;go_wp2_with fail
  go_loopw [4,3] (fun i v W=>∃ (k:Nat) (vb:Value),k≤Rn∧i=.int .i64 k∧v=vb∧Hid (W.ownsRow (w.heap.size+1) 3 1 vb (zG gs k).length ((zG gs k).map (Value.int .i64)))∧Hid (Below w.heap.size w W)∧Hid (W.heap[w.heap.size]?=some (.cells #[.int .i64 (Rn:Int),.int .i64 C,.slice ac gs.length cc] 38))∧w.heap.size+2≤W.heap.size) (fun i _ _=>Rn - (intOf i).toNat)
  case atStart=>exact ⟨0,_,Nat.zero_le _,rfl,rfl,HO1,K1,X1,hs1⟩
  case round =>
   obtain ⟨k,vb,hk,rfl,rfl,HO,HB,HX,hsr⟩:=hrel;have g0:wr.cell? ⟨w.heap.size,0,none⟩=some (.int .i64 (Rn:Int)):=zf HX.out;by_cases hlt:k < Rn
   ·have hbl:=z36 gs k;go_wp2_with fail
    go_loopw [6,5] (fun i f W=>∃ (j n:Nat),j≤gs.length∧i=.int .i64 j∧f=.bool (!(gs.take j).any (z1X (k:Int)))∧W=wr.drewN n) (fun i _ _=>gs.length - (intOf i).toNat)
    case atStart=>exact ⟨0,0,Nat.zero_le _,rfl,rfl,rfl⟩
    case round =>
     obtain ⟨j,nd,hj,rfl,rfl,rfl⟩:=hrel;have g2:wr.cell? ⟨w.heap.size,2,none⟩=some (.slice ac gs.length cc):=zf HX.out;by_cases hlj:j < gs.length
     ·have hlj':(j:Int) < (gs.length:Int):=(by omega);have h0':(0:Int)≤(j:Int):=(by omega);obtain ⟨q,off,cap',e',hc1,hc2,hbq,hx,hs⟩:=At.get (H.out.kept HB.out) hlj;simp only [Value.slice.injEq,true_and] at e';obtain ⟨rfl,rfl⟩:=e';have HS:=Hd (zfk gs (k:Int) j hlj);have hfit:z0X (Rn:Int) C (gs.getD j dG)=true:=HFit.out _ (by simp [List.getD,hlj]);obtain ⟨e1,e2,e3,e4,f1,f2,f3,f4⟩:=z3Y hfit;generalize gs.getD j dG=x at *;generalize (!(gs.take j).any (z1X (k:Int)))=fb at *;obtain ⟨x0,x1,x2,x3,x4⟩:=hx;unfold maxLen at hc2;have b0:0≤x.row∧x.row≤8∧0≤x.rows∧x.rows≤8:=(by omega);clear hs hfit e1 e2 e3 e4 f1 f2 f3 f4
      cases fb with
      | false =>
       have HS':Hid ((!(gs.take (j+1)).any (z1X (k:Int)))=false):=(by show (!(gs.take (j+1)).any (z1X (k:Int)))=false;rw [HS.out];rfl);clear HS;go_wp2_with fail
       go_quiet (fail)
       go_wp2;go_roundw
       case rel=>exact ⟨j+1,nd+nq,by omega,by go_num,by rw [HS'.out],rfl⟩
       case measure=>simp [intOf];omega
      | true =>
       by_cases h1:x.row < (k:Int)
       ·have d1:decide (x.row < (k:Int))=true:=decide_eq_true h1;by_cases h2:(k:Int) < x.row+x.rows
        ·have d2:decide ((k:Int) < x.row+x.rows)=true:=decide_eq_true h2;have HS':Hid ((!(gs.take (j+1)).any (z1X (k:Int)))=false):=(by show (!(gs.take (j+1)).any (z1X (k:Int)))=false;rw [HS.out];simp only [z1X,d1,d2];rfl);clear HS;go_wp2_with fail
         go_quiet (fail)
         go_wp2;go_roundw
         case rel=>exact ⟨j+1,nd+nq,by omega,by go_num,by rw [HS'.out],rfl⟩
         case measure=>simp [intOf];omega
        ·have d2:decide ((k:Int) < x.row+x.rows)=false:=decide_eq_false h2;have HS':Hid ((!(gs.take (j+1)).any (z1X (k:Int)))=true):=(by show (!(gs.take (j+1)).any (z1X (k:Int)))=true;rw [HS.out];simp only [z1X,d1,d2];rfl);clear HS;go_wp2_with fail
         go_quiet (fail)
         go_wp2;go_roundw
         case rel=>exact ⟨j+1,nd+nq,by omega,by go_num,by rw [HS'.out],rfl⟩
         case measure=>simp [intOf];omega
       ·have d1:decide (x.row < (k:Int))=false:=decide_eq_false h1;have HS':Hid ((!(gs.take (j+1)).any (z1X (k:Int)))=true):=(by show (!(gs.take (j+1)).any (z1X (k:Int)))=true;rw [HS.out];simp only [z1X,d1];rfl);clear HS;go_wp2_with fail
        go_quiet (fail)
        go_wp2;go_roundw
        case rel=>exact ⟨j+1,nd+nq,by omega,by go_num,by rw [HS'.out],rfl⟩
        case measure=>simp [intOf];omega
     ·obtain rfl:j=gs.length:=by omega
      have HO2:Hid ((wr.drewN nd).ownsRow (w.heap.size+1) 3 1 _ (zG gs k).length ((zG gs k).map (Value.int .i64))):=HO.out;have HB2:=Hd (z3U HB.out nd);have HX2:Hid ((wr.drewN nd).heap[w.heap.size]?=some (.cells #[.int .i64 (Rn:Int),.int .i64 C,.slice ac gs.length cc] 38)):=HX.out;have hs2:w.heap.size+2≤(wr.drewN nd).heap.size:=hsr;have hfb:(!(gs.take gs.length).any (z1X (k:Int)))=!z1x gs (k:Int):=(by rw [List.take_length];rfl);rw [hfb];clear hfb;generalize wr.drewN nd=w2 at *;have g3:w2.cell? ⟨w.heap.size,2,none⟩=some (.slice ac gs.length cc):=zf HX2.out
      cases h1:z1x gs (k:Int) with
      | true =>
       have HS:=Hd (z7W h1);rw [show (!true)=false from rfl];clear h1;go_wp2;go_roundw
       case rel=>exact ⟨k+1,_,by omega,by go_num,rfl,by rw [HS.out];exact HO2,HB2,HX2,hs2⟩
       case measure=>simp [intOf];omega
      | false =>
       have HS:=Hd (z8Q h1);have hO2:=HO2.out;rw [show (!false)=true from rfl];clear h1 HO HO2;go_wp2_with (at_builtin;refine wpList_append_own _ rfl _ _ 27 rfl (w.heap.size+1) 3 i0 (.int .i64 0) 1 8 Tryz.underlying27 hi hz0 hz1 hz2 rfl (by decide) _ _ _ rfl (hO2.alloc _) ⟨w2.heap.size,0,none⟩ 1 1 [.int .i64 (k:Int)] rfl rfl ?c1 ?c2 ?c3 ?c4 ?c5 ?_)
       case c1 =>
        intro i u hi
        match i,hi with
        | 0,hi=>simp at hi;subst hi;simp [Addr.add]
       case c2=>intro u hu;simp at hu;subst hu;rfl
       case c3=>unfold maxLen;omega
       case c4=>omega
       case c5=>simp;omega
       intro v' w5 hown' hgrow' _;have hne:=zeb hO2 (Nat.lt_succ_self w.heap.size);have HB5:Hid (Below w.heap.size w w5):=(ze HB2.out _).grown hgrow' (by simp;omega) (fun j e=>by have:=zfM hO2 e;omega);have HX5:Hid (w5.heap[w.heap.size]?=_):=Hd ((hgrow'.block w.heap.size (by simp;omega) hne).trans ((Below.heap_alloc _ _ _ (by omega)).trans HX2.out));have hs5:w.heap.size+2≤w5.heap.size:=(by have:=hgrow'.size;simp at this;omega);have HO5:Hid (w5.ownsRow (w.heap.size+1) 3 1 v' (zG gs (k+1)).length ((zG gs (k+1)).map (Value.int .i64))):=Hd (by rw [HS.out];simpa using hown');obtain ⟨g',cap',rfl⟩:=Joins.ownsRow_form hown' (by omega);clear hown' hgrow' hO2 hne;go_wp2;go_roundw
       case rel=>exact ⟨k+1,_,by omega,by go_num,rfl,HO5,HB5,HX5,hs5⟩
       case measure=>simp [intOf];omega
   ·obtain rfl:k=Rn:=by omega
    go_wp2;go_ret;refine ⟨_,rfl,?_,HB.out⟩;rw [HF.out];exact (zq.of_owns HO.out).base (by omega) (Nat.le_refl _)
end
section
open Go.RowKit
theorem zfl (vc:Value) (ar:Option Addr) (cr:Nat) (t:T) (hok:zC t=true) (q:Nat) (hq:q < t.rows.length) (w:World) :
  Calls Tryz.prog 97 #[.agg #[vc,.int .i64 t.head,.int .i64 t.foot,.slice ar t.rows.length cr,.int .i64 t.gap],.int .i64 (q:Int)] w fun e w'=>e=.returned (.int .i64 (z08 t (q:Int)))∧Below w.heap.size w w':=by
 have hbb:=z0T hok;have HP:Hid (z08 t (q:Int)=if (q:Int) < t.head then 0 else if t.rows.length - t.foot≤(q:Int) then 2 else 1):=Hd (by rw [z08,if_pos ⟨hok,by unfold inB;exact decide_eq_true (by omega)⟩]);have K0:=Hd (ze (Below.refl w.heap.size w) (.cells #[vc,.int .i64 t.head,.int .i64 t.foot,.slice ar t.rows.length cr,.int .i64 t.gap] 26));have X0:=zj w (.cells #[vc,.int .i64 t.head,.int .i64 t.foot,.slice ar t.rows.length cr,.int .i64 t.gap] 26);obtain ⟨b0,b1,b2,b3,b4⟩:=zU X0;have hw:IntKind.i64.wrap ((t.rows.length:Int) - t.foot)=(t.rows.length:Int) - t.foot:=(by rw [IntKind.wrap_i64];omega);clear X0;by_cases h1:(q:Int) < t.head
 ·have HF:Hid (z08 t (q:Int)=0):=Hd (by rw [HP.out,if_pos h1]);go_enter Tryz.func97,Tryz.ntmps97;go_wp2;go_ret;exact ⟨z6s HF.out.symm,K0.out⟩
 by_cases h2:(t.rows.length:Int) - t.foot≤(q:Int)
 ·have HF:Hid (z08 t (q:Int)=2):=Hd (by rw [HP.out,if_neg h1,if_pos h2]);go_enter Tryz.func97,Tryz.ntmps97;go_wp2;go_ret;exact ⟨z6s HF.out.symm,K0.out⟩
 ·have HF:Hid (z08 t (q:Int)=1):=Hd (by rw [HP.out,if_neg h1,if_neg h2]);go_enter Tryz.func97,Tryz.ntmps97;go_wp2;go_ret;exact ⟨z6s HF.out.symm,K0.out⟩
def z1t (t:T) (L:List Nat):Nat→List (Nat × Nat)
 | 0=>[]
 | k+1=>z1t t L k ++ if z08 t ((L.getD k 0:Nat):Int)=1 then [(L.getD k 0,L.getD (k+1) 0)] else []
def z03 (t:T):List (Nat × Nat):=z1t t (z06 (gOf t).cells t.rows.length) (zG (gOf t).cells t.rows.length).length
theorem zeA {t:T} {L:List Nat} {k:Nat} (h:z08 t ((L.getD k 0:Nat):Int)=1):z1t t L (k+1)=z1t t L k ++ [(L.getD k 0,L.getD (k+1) 0)]:=by rw [z1t,if_pos h]
theorem zdl {t:T} {L:List Nat} {k:Nat} (h:¬ z08 t ((L.getD k 0:Nat):Int)=1):z1t t L (k+1)=z1t t L k:=by rw [z1t,if_neg h,List.append_nil]
theorem z9q (t:T) (L:List Nat):∀ k,(z1t t L k).length≤k
 | 0=>Nat.le_refl _
 | k+1=>by
  have:=z9q t L k;rw [z1t,List.length_append]
  split <;> simp <;> omega
theorem zdm (t:T) (hs:List Int) (L:List Nat):∀ k,(z1t t L k).flatMap (fun p=>z14 t hs p.1 p.2)=z1b t hs L k
 | 0=>rfl
 | k+1=>by
  rw [z1b,← zdm t hs L k];by_cases h:z08 t ((L.getD k 0:Nat):Int)=1
  ·rw [zeA h,List.flatMap_append];simp
  ·rw [zdl h,zav h,List.append_nil]
theorem zdn {t:T} {gs:List GC} {R:Nat}:∀ k,k < (z06 gs R).length→∀ p ∈ z1t t (z06 gs R) k,p.1 < p.2∧p.2≤R∧z08 t (p.1:Int)=1
 | 0,_,p,hp=>by cases hp
 | k+1,hk,p,hp=>by
  rw [z1t] at hp
  rcases List.mem_append.1 hp with h | h
  ·exact zdn k (by omega) p h
  ·split at h
   ·rename_i hpt
    rw [List.mem_singleton] at h;subst h;obtain ⟨s1,s2⟩:=z3F hk;exact ⟨s1,s2,hpt⟩
   ·cases h
def z78 (w:World) (v:Value) (ps:List (Nat × Nat)):Prop:=At w 0 v ps.length 1 (fun i b o=>∃ u,w.cell? ⟨b,o,none⟩=some u∧zA w u [((ps.getD i (0,0)).1:Int),((ps.getD i (0,0)).2:Int)])
theorem z78.kept {w w':World} {v:Value} {ps:List (Nat × Nat)} (h:z78 w v ps) (k:Below w.heap.size w w'):z78 w' v ps :=
 At.mono h k.size (Nat.le_refl _) (fun _ _ _ _ hb _ ⟨u,h1,h2⟩=>⟨u,(k.cell (p:=⟨_,_,none⟩) hb).trans h1,h2.kept k⟩)
theorem z3j {w w':World} {base:Nat} {e:TypeId} {sz:Nat} {v:Value} {m:Nat} {xs:List Value} (h:w.ownsRow base e sz v m xs) (hb:Below w.heap.size w w'):w'.ownsRow base e sz v m xs :=
 ⟨h.1,h.2.elim Or.inl (fun ⟨g,cap,cur,hv,hg,hc,r⟩=>Or.inr ⟨g,cap,cur,hv,hg,(hb.block g (bL hc)).trans hc,r⟩)⟩
theorem z8u {w:World} {base base':Nat} {e:TypeId} {sz:Nat} {v:Value} {m:Nat} {xs:List Value} (h:w.ownsRow base e sz v m xs) (hb:base'≤base):w.ownsRow base' e sz v m xs :=
 ⟨h.1,h.2.elim Or.inl (fun ⟨g,cap,cur,hv,hg,r⟩=>Or.inr ⟨g,cap,cur,hv,Nat.le_trans hb hg,r⟩)⟩
theorem z60 {w w':World} {base base':Nat} {e e':TypeId} {sz sz':Nat} {v U:Value} {m n:Nat} {xs ys:List Value} (h:w.ownsRow base e sz v m xs) (hU:w.ownsRow base' e' sz' U n ys) (he:e' ≠ e) (k:w.grownBy w' U.ownBlock):w'.ownsRow base e sz v m xs :=
 ⟨h.1,h.2.elim Or.inl (fun ⟨g,cap,cur,hv,hg,hc,r⟩=>Or.inr ⟨g,cap,cur,hv,hg,zY hc k (z09 (zo hU hc he)),r⟩)⟩
def z2n (w:World) (B:Nat) (us:List Value) (ps:List (Nat × Nat)):Prop:=us.length=ps.length∧∀ i,i < ps.length→w.ownsRow B 3 1 (us.getD i (.slice none 0 0)) 2 [.int .i64 ((ps.getD i (0,0)).1:Int),.int .i64 ((ps.getD i (0,0)).2:Int)]
theorem z2n.kept {w w':World} {B:Nat} {us:List Value} {ps:List (Nat × Nat)} (h:z2n w B us ps) (k:Below w.heap.size w w'):z2n w' B us ps:=⟨h.1,fun i hi=>z3j (h.2 i hi) k⟩
theorem z2n.grown {w w':World} {B base:Nat} {U:Value} {us:List Value} {ps:List (Nat × Nat)} {m:Nat} {xs:List Value} (h:z2n w B us ps) (hU:w.ownsRow base 27 1 U m xs) (k:w.grownBy w' U.ownBlock):z2n w' B us ps:=⟨h.1,fun i hi=>z60 (h.2 i hi) hU (by decide) k⟩
theorem z2n.snoc {w:World} {B:Nat} {us:List Value} {ps:List (Nat × Nat)} {u:Value} {p:Nat × Nat} (h:z2n w B us ps) (hu:w.ownsRow B 3 1 u 2 [.int .i64 (p.1:Int),.int .i64 (p.2:Int)]):z2n w B (us ++ [u]) (ps ++ [p]):=by
 refine ⟨by rw [List.length_append,List.length_append,h.1];rfl,fun i hi=>?_⟩;rw [List.length_append,List.length_cons,List.length_nil] at hi
 rcases Nat.lt_or_eq_of_le (Nat.lt_succ_iff.1 hi) with h1 | h1
 ·rw [List.getD_eq_getElem?_getD,List.getD_eq_getElem?_getD,List.getElem?_append_left (by rw [h.1];exact h1),List.getElem?_append_left h1,← List.getD_eq_getElem?_getD,← List.getD_eq_getElem?_getD];exact h.2 i h1
 ·subst h1;have e1:(us ++ [u]).getD ps.length (.slice none 0 0)=u:=(by rw [← h.1];simp [List.getD]);have e2:(ps ++ [p]).getD ps.length (0,0)=p:=(by simp [List.getD]);rw [e1,e2];exact hu
theorem zh7 {w:World} {B:Nat} {u:Value} {a b:Int} (h:w.ownsRow B 3 1 u 2 [.int .i64 a,.int .i64 b]):zA w u [a,b]:=(zq.of_owns (l:=[a,b]) h).at
theorem z2n.pairs {w:World} {B base:Nat} {v:Value} {us:List Value} {ps:List (Nat × Nat)} (h:z2n w B us ps) (hO:w.ownsRow base 27 1 v us.length us):z78 w v ps:=by
 unfold z78;have hul:=h.1
 rcases hO.2 with ⟨hv,h0⟩ | ⟨g,cap,cur,hv,hb,hg,h1,h2,h3,h4⟩
 ·exact ⟨none,0,by rw [← hul,h0];exact hv,by omega,Nat.zero_le _,fun i hi=>by omega⟩
 ·refine ⟨some ⟨g,0,none⟩,cap,by rw [← hul];exact hv,by omega,h2,fun i hi=>⟨g,0,rfl,(bL hg),Nat.zero_le _,us.getD i (.slice none 0 0),?_,zh7 (h.2 i hi)⟩⟩;have:cur.toList[i]?=us[i]?:=(by rw [← h4,List.getElem?_take_of_lt (by omega)]);rw [Nat.zero_add,Nat.mul_one,zf hg,← Array.getElem?_toList,this];simp [List.getD,show i < us.length by omega]
structure PX (w:World) (ac ar ag:Option Addr) (cc cr cg:Nat) (t:T) (vb:Value) (bl:List Int) (W:World):Prop where
 below:Below w.heap.size w W
 box:W.heap[w.heap.size]?=some (.cells #[.slice ac t.cols.length cc,.int .i64 t.head,.int .i64 t.foot,.slice ar t.rows.length cr,.int .i64 t.gap] 26)
 grd:W.heap[w.heap.size+1]?=some (.cells #[.int .i64 (t.rows.length:Int),.int .i64 (gOf t).cols,.slice ag (gOf t).cells.length cg] 38)
 bnd:W.ownsRow w.heap.size 3 1 vb bl.length (bl.map (Value.int .i64))
theorem PX.kept {w:World} {ac ar ag:Option Addr} {cc cr cg:Nat} {t:T} {vb:Value} {bl:List Int} {W W':World} (h:PX w ac ar ag cc cr cg t vb bl W) (k:Below W.heap.size W W'):PX w ac ar ag cc cr cg t vb bl W' :=
 ⟨zh h.below k,(k.block _ (bL h.box)).trans h.box,(k.block _ (bL h.grd)).trans h.grd,z3j h.bnd k⟩
theorem PX.grown {w:World} {ac ar ag:Option Addr} {cc cr cg:Nat} {t:T} {vb:Value} {bl:List Int} {W W':World} {base m:Nat} {U:Value} {xs:List Value} (h:PX w ac ar ag cc cr cg t vb bl W) (hU:W.ownsRow base 27 1 U m xs) (hb:w.heap.size≤base) (k:W.grownBy W' U.ownBlock):PX w ac ar ag cc cr cg t vb bl W' :=
 ⟨h.below.grown k h.below.size (fun q hq=>Nat.le_trans hb (hU.lt q hq).1),zY h.box k (z09 (zo hU h.box (by decide))),zY h.grd k (z09 (zo hU h.grd (by decide))),z60 h.bnd hU (by decide) k⟩
theorem PX.ints {w:World} {ac ar ag:Option Addr} {cc cr cg:Nat} {t:T} {vb:Value} {bl:List Int} {W:World} (h:PX w ac ar ag cc cr cg t vb bl W):zA W vb bl:=(zq.of_owns h.bnd).at
theorem zdo (w:World) (a b:Nat) (B:Nat) (hB:B≤w.heap.size):(w.alloc (.cells #[.int .i64 (a:Int),.int .i64 (b:Int)] 3)).ownsRow B 3 1 (.slice (some ⟨w.heap.size,0,none⟩) 2 2) 2 [.int .i64 (a:Int),.int .i64 (b:Int)] :=
 ⟨rfl,.inr ⟨w.heap.size,2,#[.int .i64 (a:Int),.int .i64 (b:Int)],rfl,hB,zj _ _,Nat.le_refl _,by unfold maxLen;omega,rfl,rfl⟩⟩
theorem zjZ:(Tryz.prog.info? 27).map (fun i=>(i.zero,i.size,i.bytes))=some (some (Value.slice none 0 0),1,24):=by kernel_rfl
theorem zfm (ac ar ag:Option Addr) (cc cr cg:Nat) (t:T) (hD:z0f t) (htk:zC t=true) (w:World) {zg:Nat} (hg:z1J w zg (.slice ag (gOf t).cells.length cg) (gOf t).cells) :
  Calls Tryz.prog 53 #[.agg #[.slice ac t.cols.length cc,.int .i64 t.head,.int .i64 t.foot,.slice ar t.rows.length cr,.int .i64 t.gap],.agg #[.int .i64 (gOf t).rows,.int .i64 (gOf t).cols,.slice ag (gOf t).cells.length cg]] w fun e w'=>∃ v us,e=.returned v∧w'.ownsRow w.heap.size 27 1 v us.length us∧z2n w' w.heap.size us (z03 t)∧Below w.heap.size w w':=by
 have hmx:Tryz.prog.follows .mixedOrders=true:=(by kernel_rfl);obtain ⟨i0,hi0,hz0,hz1,hz2⟩:=info_parts zjZ;have hR8:=z0T htk;have hgr:(gOf t).rows=(t.rows.length:Int):=(by rw [z2k htk])
 have hcl:t.cols.length≤8:=by
  simp only [zC,z2d,Bool.and_eq_true,decide_eq_true_eq] at htk;omega
 have HBL:Hid (z64 ⟨(t.rows.length:Int),(gOf t).cols,(gOf t).cells⟩=zG (gOf t).cells t.rows.length):=Hd (by
  rw [z9C (by rw [z2k htk];exact zg9 (z3t htk hD) hR8.1.1 hcl)]
  simp)
 rw [hgr];have K0:=ze (ze (ze (Below.refl w.heap.size w) (.cells #[.slice ac t.cols.length cc,.int .i64 t.head,.int .i64 t.foot,.slice ar t.rows.length cr,.int .i64 t.gap] 26)) (.cells #[.int .i64 (t.rows.length:Int),.int .i64 (gOf t).cols,.slice ag (gOf t).cells.length cg] 38)) (.cells #[] 27);have hs0:(((w.alloc (.cells #[.slice ac t.cols.length cc,.int .i64 t.head,.int .i64 t.foot,.slice ar t.rows.length cr,.int .i64 t.gap] 26)).alloc (.cells #[.int .i64 (t.rows.length:Int),.int .i64 (gOf t).cols,.slice ag (gOf t).cells.length cg] 38)).alloc (.cells #[] 27)).heap.size=w.heap.size+3:=(by simp);have X0:(((w.alloc (.cells #[.slice ac t.cols.length cc,.int .i64 t.head,.int .i64 t.foot,.slice ar t.rows.length cr,.int .i64 t.gap] 26)).alloc (.cells #[.int .i64 (t.rows.length:Int),.int .i64 (gOf t).cols,.slice ag (gOf t).cells.length cg] 38)).alloc (.cells #[] 27)).heap[w.heap.size]?=some (.cells #[.slice ac t.cols.length cc,.int .i64 t.head,.int .i64 t.foot,.slice ar t.rows.length cr,.int .i64 t.gap] 26):=(Below.heap_alloc _ _ _ (by simp;omega)).trans ((Below.heap_alloc _ _ _ (by simp)).trans (zj _ _));have G0:(((w.alloc (.cells #[.slice ac t.cols.length cc,.int .i64 t.head,.int .i64 t.foot,.slice ar t.rows.length cr,.int .i64 t.gap] 26)).alloc (.cells #[.int .i64 (t.rows.length:Int),.int .i64 (gOf t).cols,.slice ag (gOf t).cells.length cg] 38)).alloc (.cells #[] 27)).heap[w.heap.size+1]?=some (.cells #[.int .i64 (t.rows.length:Int),.int .i64 (gOf t).cols,.slice ag (gOf t).cells.length cg] 38):=(Below.heap_alloc _ _ _ (by simp)).trans (by have:=zj (w.alloc (.cells #[.slice ac t.cols.length cc,.int .i64 t.head,.int .i64 t.foot,.slice ar t.rows.length cr,.int .i64 t.gap] 26)) (.cells #[.int .i64 (t.rows.length:Int),.int .i64 (gOf t).cols,.slice ag (gOf t).cells.length cg] 38);rwa [World.size_alloc] at this);have O0:(((w.alloc (.cells #[.slice ac t.cols.length cc,.int .i64 t.head,.int .i64 t.foot,.slice ar t.rows.length cr,.int .i64 t.gap] 26)).alloc (.cells #[.int .i64 (t.rows.length:Int),.int .i64 (gOf t).cols,.slice ag (gOf t).cells.length cg] 38)).alloc (.cells #[] 27)).heap[w.heap.size+2]?=some (.cells #[] 27):=(by have:=zj ((w.alloc (.cells #[.slice ac t.cols.length cc,.int .i64 t.head,.int .i64 t.foot,.slice ar t.rows.length cr,.int .i64 t.gap] 26)).alloc (.cells #[.int .i64 (t.rows.length:Int),.int .i64 (gOf t).cols,.slice ag (gOf t).cells.length cg] 38)) (.cells #[] 27);rwa [World.size_alloc,World.size_alloc] at this);have HG:=Hd (hg.kept K0);have HK0:=Hd K0;have HX0:=Hd X0;have HG0:=Hd G0;have HO0:=Hd O0;have HTK:=Hd htk;clear hg K0 X0 G0 O0 hgr hcl htk;go_enter Tryz.func53,Tryz.ntmps53;go_upto_region 2 with fail
 generalize (((w.alloc (.cells #[.slice ac t.cols.length cc,.int .i64 t.head,.int .i64 t.foot,.slice ar t.rows.length cr,.int .i64 t.gap] 26)).alloc (.cells #[.int .i64 (t.rows.length:Int),.int .i64 (gOf t).cols,.slice ag (gOf t).cells.length cg] 38)).alloc (.cells #[] 27))=W0 at HK0 HX0 HG0 HO0 HG hs0 ⊢;obtain ⟨b0,b1,b2,b3,b4⟩:=zU HX0.out;obtain ⟨y0,y1,y2⟩:=z22 HG0.out;go_wp2_with fail
 refine (zc0 (t.rows.length:Int) (gOf t).cols ag cg (gOf t).cells W0 HG.out).mono ?_;rintro e w1 ⟨vb,rfl,hI,hb1⟩;rw [HBL.out] at hI;obtain ⟨avb,cvb,rfl⟩:=hI.form;have HX1:Hid (PX w ac ar ag cc cr cg t (.slice avb (zG (gOf t).cells t.rows.length).length cvb) (zG (gOf t).cells t.rows.length) w1):=Hd ⟨zh HK0.out hb1,(hb1.block _ (by omega)).trans HX0.out,(hb1.block _ (by omega)).trans HG0.out,(hI.base (by omega:w.heap.size≤W0.heap.size) (Nat.le_refl _)).owns⟩;have HO1:Hid (w1.ownsRow (w.heap.size+2) 27 1 (.slice (some ⟨w.heap.size+2,0,none⟩) 0 0) 0 []):=Hd ⟨rfl,.inr ⟨w.heap.size+2,0,#[],rfl,Nat.le_refl _,(hb1.block _ (by omega)).trans HO0.out,Nat.le_refl _,Nat.zero_le _,rfl,rfl⟩⟩;have hbl:=z36 (gOf t).cells t.rows.length;have HLl:=Hd (z4v (gOf t).cells t.rows.length);have HLg:=Hd (fun (k:Nat)=>zcl (gs:=(gOf t).cells) (R:=t.rows.length) (k:=k));have HLs:=Hd (fun (k:Nat)=>z3F (gs:=(gOf t).cells) (R:=t.rows.length) (k:=k));have HLe:=Hd (z82 (gOf t).cells t.rows.length);have HET:Hid (z03 t=z1t t (z06 (gOf t).cells t.rows.length) (zG (gOf t).cells t.rows.length).length):=Hd rfl;have HEL:=Hd (fun k=>z9q t (z06 (gOf t).cells t.rows.length) k);generalize z06 (gOf t).cells t.rows.length=L at HLl HLg HLs HLe HET HEL;generalize zG (gOf t).cells t.rows.length=bs at hI HX1 hbl HLl HLg HLe HET;clear hI hb1 HG HK0 HX0 HG0 HO0 hs0 HBL b0 b1 b2 b3 b4 y0 y1 y2;go_wp2_with fail
 go_loopw [5,7] (fun o i W=>∃ (k:Nat) (us:List Value),k≤bs.length∧i=.int .i64 (k:Int)∧Hid (W.ownsRow (w.heap.size+2) 27 1 o us.length us)∧Hid (z2n W w.heap.size us (z1t t L k))∧Hid (PX w ac ar ag cc cr cg t (.slice avb bs.length cvb) bs W)) (fun _ i _=>bs.length - (intOf i).toNat)
 case atStart=>exact ⟨0,[],Nat.zero_le _,rfl,HO1,⟨rfl,fun i hi=>absurd hi (Nat.not_lt_zero _)⟩,HX1⟩
 case round =>
  clear HX1 HO1;obtain ⟨k,us,hk,rfl,HO,HR,HX⟩:=hrel;have hul:us.length≤k:=(by have:=HR.out.1;have:=HEL.out k;omega);obtain ⟨ao,co,rfl,_⟩:=z0h HO.out;by_cases hlt:k < bs.length
  case neg =>
   obtain rfl:k=bs.length:=by omega
   go_wp2;go_ret;exact ⟨_,us,rfl,z8u HO.out (by omega),by rw [HET.out];exact HR.out,HX.out.below⟩
  obtain ⟨s1,s2⟩:=HLs.out k (by rw [HLl.out];omega);have HLk:=Hd (HLg.out k (by rw [HLl.out];omega));have HLk1:=Hd (HLg.out (k+1) (by rw [HLl.out];omega));have HPn:=Hd (fun (h:¬ z08 t ((L.getD k 0:Nat):Int)=1)=>zdl h);have hin:=@zeA t L k;obtain ⟨a,ha⟩:∃ a,L.getD k 0=a:=⟨_,rfl⟩;obtain ⟨b,hb⟩:∃ b,L.getD (k+1) 0=b:=⟨_,rfl⟩;have HLa:=Hd ha;have HLb:=Hd hb;rw [ha] at s1 HPn HLk;rw [hb] at s1 s2 HLk1;rw [ha,hb] at hin;have hlk:(bs ++ [(t.rows.length:Int)]).getD k 0=bs.getD k 0:=(by rw [List.getD_eq_getElem?_getD,List.getElem?_append_left hlt,← List.getD_eq_getElem?_getD]);rw [hlk] at HLk;have HIn:=Hd hin;have KP:=Hd (fun (p:BW wr)=>z4l (zfl (.slice ac t.cols.length cc) ar cr t HTK.out a (by omega) p.u));have hne:=z0v wr;have hlw:=(bL HX.out.box);obtain ⟨b0,b1,b2,b3,b4⟩:=zU HX.out.box;obtain ⟨y0,y1,y2⟩:=z22 HX.out.grd;have m0:=zi (a:=⟨w.heap.size,0,none⟩) hlw b0;have m1:=zi (a:=⟨w.heap.size,1,none⟩) hlw b1;have m2:=zi (a:=⟨w.heap.size,2,none⟩) hlw b2;have m3:=zi (a:=⟨w.heap.size,3,none⟩) hlw b3;have m4:=zi (a:=⟨w.heap.size,4,none⟩) hlw b4;obtain ⟨gx,ox,cx,ex,f1,f2,f3,x1⟩:=HX.out.ints.get (i:=k) hlt;simp only [Value.slice.injEq,true_and] at ex;obtain ⟨rfl,rfl⟩:=ex;rw [HLk.out] at x1;have n1:=zi (a:=⟨gx,ox+k,none⟩) f3 x1;unfold maxLen at f2;clear ha hb hlk hin s1 f3;by_cases hk1:k+1 < bs.length
  ·obtain ⟨gq,oq,cq,eq,q1,q2,q3,x2⟩:=HX.out.ints.get (i:=k+1) hk1;simp only [Value.slice.injEq,Option.some.injEq,Addr.mk.injEq,and_true,true_and] at eq;obtain ⟨⟨rfl,rfl⟩,rfl⟩:=eq;have hlk1:(bs ++ [(t.rows.length:Int)]).getD (k+1) 0=bs.getD (k+1) 0:=(by rw [List.getD_eq_getElem?_getD,List.getElem?_append_left hk1,← List.getD_eq_getElem?_getD]);rw [← hlk1,HLk1.out] at x2;clear q1 q2 q3 hlk1;by_cases hp:z08 t (a:Int)=1
   case neg =>
    have HPt:=Hd (HPn.out hp);have hp2:(z08 t (a:Int) == 1)=false:=beq_eq_false_iff_ne.2 hp;generalize z08 t (a:Int)=pv at KP hp2;clear hp HPn;go_upto_region 9 with fail
    refine zn hmx (by kernel_rfl) ?_;repeat (go_big_quiet_step (first | (go_at_call 97;refine KP.out _)))
    refine wpQuiet_nil ?_;intro W4 hw';obtain ⟨⟨Wx,hW4⟩,hw''⟩:=hw';subst hw'';have HX4:=Hd (HX.out.kept hW4);have HO4:=Hd (z3j HO.out hW4)
    have HR4:Hid (z2n W4 w.heap.size us (z1t t L (k+1))):=Hd (by
     rw [HPt.out];exact HR.out.kept hW4)
    clear x1 x2 m0 m1 m2 m3 m4 n1 hne KP HX HO HR hW4 y0 y1 y2 b0 b1 b2 b3 b4;go_wp2;go_roundw
    case rel=>exact ⟨k+1,_,by omega,by go_num,HO4,HR4,HX4⟩
    case measure=>simp [intOf];omega
   have HPt:=Hd (HIn.out hp);rw [hp] at KP;clear hp HPn;go_upto_region 9 with fail
   refine zn hmx (by kernel_rfl) ?_;repeat (go_big_quiet_step (first | (go_at_call 97;refine KP.out _)))
   refine wpQuiet_nil ?_;intro W4 hw';obtain ⟨⟨Wx,hW4⟩,hw''⟩:=hw';subst hw'';have HX4:=Hd (HX.out.kept hW4);have HO4:=Hd (z3j HO.out hW4);have HR4:=Hd (HR.out.kept hW4);have hz4:=HX4.out.below.size;obtain ⟨gx,ox,cx,ex,f1,f2,f3,x4⟩:=HX4.out.ints.get (i:=k) hlt;simp only [Value.slice.injEq,Option.some.injEq,Addr.mk.injEq,and_true,true_and] at ex;obtain ⟨⟨rfl,rfl⟩,rfl⟩:=ex;rw [HLk.out] at x4;clear f1 f2 f3 x1 x2 m0 m1 m2 m3 m4 n1 hne KP HX HO HR hW4 y0 y1 y2 b0 b1 b2 b3 b4;have KA:=ze (ze (Below.refl W4.heap.size W4) (.cells #[.int .i64 (a:Int),.int .i64 (b:Int)] 3)) (.cells #[.slice (some ⟨W4.heap.size,0,none⟩) 2 2] 27);have hOA:=(HO4.out.alloc (.cells #[.int .i64 (a:Int),.int .i64 (b:Int)] 3)).alloc (.cells #[.slice (some ⟨W4.heap.size,0,none⟩) 2 2] 27);have HPn:=Hd (zdo W4 a b w.heap.size hz4);go_wp2_with (at_builtin;refine wpList_append_own _ rfl _ _ 86 rfl (w.heap.size+2) 27 i0 _ 1 24 Tryz.underlying86 hi0 hz0 hz1 hz2 rfl (by decide) _ _ _ rfl hOA ⟨W4.heap.size+1,0,none⟩ 1 1 [.slice (some ⟨W4.heap.size,0,none⟩) 2 2] rfl rfl ?c1 ?c2 ?c3 ?c4 ?c5 ?_)
   case c1=>exact z0F (by have:=zj (W4.alloc (.cells #[.int .i64 (a:Int),.int .i64 (b:Int)] 3)) (.cells #[.slice (some ⟨W4.heap.size,0,none⟩) 2 2] 27);rwa [World.size_alloc] at this)
   case c2=>simp [Value.oneCell']
   case c3=>unfold maxLen;omega
   case c4=>omega
   case c5=>have:=HX4.out.grd;have:=(bL this);simp;omega
   intro v' w5 hown' hgrow' _;have HX5:=Hd ((HX4.out.kept KA).grown hOA (by omega) hgrow')
   have HR5:Hid (z2n w5 w.heap.size (us ++ [.slice (some ⟨W4.heap.size,0,none⟩) 2 2]) (z1t t L (k+1))):=Hd (by
    rw [HPt.out];exact ((HR4.out.kept KA).grown hOA hgrow').snoc (z60 (z3j HPn.out (ze (Below.refl _ _) _)) hOA (by decide) hgrow'))
   have HO5:Hid (w5.ownsRow (w.heap.size+2) 27 1 v' (us ++ [Value.slice (some ⟨W4.heap.size,0,none⟩) 2 2]).length (us ++ [Value.slice (some ⟨W4.heap.size,0,none⟩) 2 2])):=Hd (by rw [List.length_append];exact hown');obtain ⟨g',cap',rfl⟩:=Joins.ownsRow_form hown' (by omega);clear hown' hgrow' hOA KA HX4 HO4 HR4 x4;go_wp2;go_roundw
   case rel=>exact ⟨k+1,_,by omega,by go_num,HO5,HR5,HX5⟩
   case measure=>simp [intOf];omega
  ·have hbR:(b:Int)=(t.rows.length:Int):=by
    have e:bs.length=k+1:=(by omega);have:=HLe.out;rw [e,HLb.out] at this;omega
   have hbR2:b=t.rows.length:=(by omega);subst hbR2;clear hbR;by_cases hp:z08 t (a:Int)=1
   case neg =>
    have HPt:=Hd (HPn.out hp);have hp2:(z08 t (a:Int) == 1)=false:=beq_eq_false_iff_ne.2 hp;generalize z08 t (a:Int)=pv at KP hp2;clear hp HPn;go_upto_region 9 with fail
    refine zn hmx (by kernel_rfl) ?_;repeat (go_big_quiet_step (first | (go_at_call 97;refine KP.out _)))
    refine wpQuiet_nil ?_;intro W4 hw';obtain ⟨⟨Wx,hW4⟩,hw''⟩:=hw';subst hw'';have HX4:=Hd (HX.out.kept hW4);have HO4:=Hd (z3j HO.out hW4)
    have HR4:Hid (z2n W4 w.heap.size us (z1t t L (k+1))):=Hd (by
     rw [HPt.out];exact HR.out.kept hW4)
    clear x1 m0 m1 m2 m3 m4 n1 hne KP HX HO HR hW4 y0 y1 y2 b0 b1 b2 b3 b4;go_wp2;go_roundw
    case rel=>exact ⟨k+1,_,by omega,by go_num,HO4,HR4,HX4⟩
    case measure=>simp [intOf];omega
   have HPt:=Hd (HIn.out hp);rw [hp] at KP;clear hp HPn;go_upto_region 9 with fail
   refine zn hmx (by kernel_rfl) ?_;repeat (go_big_quiet_step (first | (go_at_call 97;refine KP.out _)))
   refine wpQuiet_nil ?_;intro W4 hw';obtain ⟨⟨Wx,hW4⟩,hw''⟩:=hw';subst hw'';have HX4:=Hd (HX.out.kept hW4);have HO4:=Hd (z3j HO.out hW4);have HR4:=Hd (HR.out.kept hW4);have hz4:=HX4.out.below.size;obtain ⟨gx,ox,cx,ex,f1,f2,f3,x4⟩:=HX4.out.ints.get (i:=k) hlt;simp only [Value.slice.injEq,Option.some.injEq,Addr.mk.injEq,and_true,true_and] at ex;obtain ⟨⟨rfl,rfl⟩,rfl⟩:=ex;rw [HLk.out] at x4;clear f1 f2 f3 x1 m0 m1 m2 m3 m4 n1 hne KP HX HO HR hW4 y0 y1 y2 b0 b1 b2 b3 b4;have KA:=ze (ze (Below.refl W4.heap.size W4) (.cells #[.int .i64 (a:Int),.int .i64 (t.rows.length:Int)] 3)) (.cells #[.slice (some ⟨W4.heap.size,0,none⟩) 2 2] 27);have hOA:=(HO4.out.alloc (.cells #[.int .i64 (a:Int),.int .i64 (t.rows.length:Int)] 3)).alloc (.cells #[.slice (some ⟨W4.heap.size,0,none⟩) 2 2] 27);have HPn:=Hd (zdo W4 a t.rows.length w.heap.size hz4);go_wp2_with (at_builtin;refine wpList_append_own _ rfl _ _ 86 rfl (w.heap.size+2) 27 i0 _ 1 24 Tryz.underlying86 hi0 hz0 hz1 hz2 rfl (by decide) _ _ _ rfl hOA ⟨W4.heap.size+1,0,none⟩ 1 1 [.slice (some ⟨W4.heap.size,0,none⟩) 2 2] rfl rfl ?c1 ?c2 ?c3 ?c4 ?c5 ?_)
   case c1=>exact z0F (by have:=zj (W4.alloc (.cells #[.int .i64 (a:Int),.int .i64 (t.rows.length:Int)] 3)) (.cells #[.slice (some ⟨W4.heap.size,0,none⟩) 2 2] 27);rwa [World.size_alloc] at this)
   case c2=>simp [Value.oneCell']
   case c3=>unfold maxLen;omega
   case c4=>omega
   case c5=>have:=HX4.out.grd;have:=(bL this);simp;omega
   intro v' w5 hown' hgrow' _;have HX5:=Hd ((HX4.out.kept KA).grown hOA (by omega) hgrow')
   have HR5:Hid (z2n w5 w.heap.size (us ++ [.slice (some ⟨W4.heap.size,0,none⟩) 2 2]) (z1t t L (k+1))):=Hd (by
    rw [HPt.out];exact ((HR4.out.kept KA).grown hOA hgrow').snoc (z60 (z3j HPn.out (ze (Below.refl _ _) _)) hOA (by decide) hgrow'))
   have HO5:Hid (w5.ownsRow (w.heap.size+2) 27 1 v' (us ++ [Value.slice (some ⟨W4.heap.size,0,none⟩) 2 2]).length (us ++ [Value.slice (some ⟨W4.heap.size,0,none⟩) 2 2])):=Hd (by rw [List.length_append];exact hown');obtain ⟨g',cap',rfl⟩:=Joins.ownsRow_form hown' (by omega);clear hown' hgrow' hOA KA HX4 HO4 HR4 x4;go_wp2;go_roundw
   case rel=>exact ⟨k+1,_,by omega,by go_num,HO5,HR5,HX5⟩
   case measure=>simp [intOf];omega
theorem z8v (rm:List Int):∀ (n:Nat) (ps:List (List PgS)),ps.length=n→∃ A B,ps=A ++ B∧(ps.foldl (zR rm) ([],[])).2=B.foldl zP []∧(ps.foldl (zR rm) ([],[])).1.length≤A.length
 | 0,ps,h=>by
  have:ps=[]:=List.eq_nil_of_length_eq_zero h;subst this;exact ⟨[],[],rfl,rfl,Nat.le_refl _⟩
 | n+1,ps,h=>by
  rcases List.eq_nil_or_concat ps with rfl | ⟨a,p,rfl⟩
  ·cases h
  ·rw [List.concat_eq_append] at h ⊢;obtain ⟨A,B,e1,e2,e3⟩:=z8v rm n a (by simpa using h);rw [List.foldl_append,List.foldl_cons,List.foldl_nil];generalize a.foldl (zR rm) ([],[])=st at e2 e3 ⊢;obtain ⟨pgs,page⟩:=st;simp only at e2 e3
   cases ht:z13 page p (zH rm pgs.length) with
   | true =>
    rw [z7S ht];exact ⟨A,B ++ [p],by rw [e1,List.append_assoc],by simp [e2],e3⟩
   | false =>
    refine ⟨A ++ B,[p],by rw [e1],?_,?_⟩
    ·unfold zR;rw [if_neg (by simp only;rw [ht];simp)];rfl
    ·have hB:B ≠ []:=by
      rintro rfl;rw [List.foldl_nil] at e2;rw [e2] at ht
      cases ht
     have:=List.length_pos_iff.2 hB;unfold zR;rw [if_neg (by simp only;rw [ht];simp)];simp only [List.length_append,List.length_cons,List.length_nil];omega
theorem zjr (rm:List Int) {ps:List (List PgS)} (hne:∀ p ∈ ps,p ≠ []) (h:ps ≠ []):(ps.foldl (zR rm) ([],[])).2 ≠ []:=by
 rcases List.eq_nil_or_concat ps with rfl | ⟨a,p,rfl⟩
 ·exact absurd rfl h
 ·rw [List.concat_eq_append] at hne ⊢;rw [List.foldl_append,List.foldl_cons,List.foldl_nil];have hp:=hne p (by simp);unfold zR
  split
  ·exact z9c hp
  ·exact z9c hp
theorem zfn {page:List PgS} {s:PgS} {r:Nat} (h:z2W page r) (hs:s.r < r):z2W (z1V page s) r:=by
 rcases List.eq_nil_or_concat page with rfl | ⟨a,l,rfl⟩
 ·intro x hx;simp only [z1V,List.getLast?_nil,List.mem_singleton] at hx;rw [hx];exact hs
 ·rw [List.concat_eq_append] at h ⊢;rw [z4H];intro x hx
  split at hx
  ·rcases List.mem_append.1 hx with h1 | h1
   ·exact h x (List.mem_append.2 (.inl h1))
   ·rw [List.mem_singleton.1 h1];exact h l (by simp)
  ·rcases List.mem_append.1 hx with h1 | h1
   ·exact h x h1
   ·rw [List.mem_singleton.1 h1];exact hs
theorem z61 {r:Nat}:∀ {piece page:List PgS},z2W page r→(∀ s ∈ piece,s.r < r)→z2W (zP page piece) r
 | [],_,h,_=>h
 | s :: l,page,h,hp=>z61 (piece:=l) (page:=z1V page s) (zfn h (hp s (by simp))) (fun x hx=>hp x (List.mem_cons_of_mem _ hx))
theorem zfo {rm:List Int} {st:List (List PgS) × List PgS} {piece:List PgS} {r:Nat} (h:z2W st.2 r) (hp:∀ s ∈ piece,s.r < r):z2W (zR rm st piece).2 r:=by
 unfold zR
 split
 ·exact z61 h hp
 ·exact z61 (page:=[]) (fun x hx=>by cases hx) hp
theorem zal {rm:List Int} {r:Nat}:∀ {ps:List (List PgS)} {st:List (List PgS) × List PgS},z2W st.2 r→(∀ p ∈ ps,∀ s ∈ p,s.r < r)→z2W (ps.foldl (zR rm) st).2 r
 | [],_,h,_=>h
 | p :: ps,st,h,hp=>zal (ps:=ps) (st:=zR rm st p) (zfo h (hp p (by simp))) (fun q hq=>hp q (List.mem_cons_of_mem _ hq))
theorem zam (hs:List Int):∀ (n a:Nat),∀ s ∈ zD hs a n,s.r < ((a+n:Nat):Int)
 | 0,_,s,h=>by cases h
 | n+1,a,s,h=>by
  rw [zD] at h
  rcases List.mem_cons.1 h with rfl | h
  ·simp only;omega
  ·have:=zam hs n (a+1) s h;omega
theorem zaT {t:T} {hs:List Int} {a b:Nat} (hab:a < b):∀ p ∈ z14 t hs a b,∀ s ∈ p,s.r < (b:Int):=by
 intro p hp s hs';unfold z14 at hp
 split at hp
 ·split at hp
  ·rw [z0e,List.mem_map] at hp;obtain ⟨i,_,rfl⟩:=hp;rw [List.mem_singleton.1 hs'];simp only;omega
  ·rw [List.mem_singleton] at hp;subst hp;have:=zam hs (b - a) a s hs';omega
 ·cases hp
theorem zbL {t:T} {gs:List GC} {R:Nat}:∀ k,k < (z06 gs R).length→(z1t t (z06 gs R) k).Pairwise (fun p q=>p.2≤q.1)∧∀ p ∈ z1t t (z06 gs R) k,p.2≤(z06 gs R).getD k 0
 | 0,_=>⟨List.Pairwise.nil,fun p hp=>by cases hp⟩
 | k+1,hk=>by
  obtain ⟨h1,h2⟩:=zbL (t:=t) (gs:=gs) (R:=R) k (by omega);obtain ⟨s1,s2⟩:=z3F hk;rw [z1t]
  split
  ·refine ⟨List.pairwise_append.2 ⟨h1,by simp,fun p hp q hq=>?_⟩,fun p hp=>?_⟩
   ·rw [List.mem_singleton.1 hq];exact h2 p hp
   ·rcases List.mem_append.1 hp with h | h
    ·have:=h2 p h;omega
    ·rw [List.mem_singleton.1 h];exact Nat.le_refl _
  ·rw [List.append_nil];exact ⟨h1,fun p hp=>by have:=h2 p hp;omega⟩
theorem z3x (t:T):(z03 t).Pairwise (fun p q=>p.2≤q.1)∧∀ p ∈ z03 t,p.1 < p.2∧p.2≤t.rows.length∧z08 t (p.1:Int)=1:=by
 have hk:(zG (gOf t).cells t.rows.length).length < (z06 (gOf t).cells t.rows.length).length:=(by rw [z4v];omega);exact ⟨(zbL _ hk).1,zdn _ hk⟩
theorem z6I (t:T) (hs:List Int):(z03 t).flatMap (fun p=>z14 t hs p.1 p.2)=z0E t hs:=zdm t hs _ _
def stE (t:T) (hs rm:List Int) (i:Nat):List (List PgS) × List PgS:=(((z03 t).take i).flatMap (fun p=>z14 t hs p.1 p.2)).foldl (zR rm) ([],[])
theorem zin {t:T} {hs rm:List Int} {i:Nat} (h:i < (z03 t).length):stE t hs rm (i+1)=(z14 t hs ((z03 t).getD i (0,0)).1 ((z03 t).getD i (0,0)).2).foldl (zR rm) (stE t hs rm i):=by
 have e:(z03 t).getD i (0,0)=(z03 t)[i]:=(by simp [List.getD,h]);rw [stE,List.take_succ_eq_append_getElem h,List.flatMap_append,List.foldl_append,e];simp [stE]
theorem zio (t:T) (hs rm:List Int):stE t hs rm 0=([],[]):=rfl
theorem zjs (t:T) (hs rm:List Int):stE t hs rm (z03 t).length=(z0E t hs).foldl (zR rm) ([],[]):=by rw [stE,List.take_length,z6I]
theorem zh8 {t:T} {hs rm:List Int} {i:Nat} (h:i < (z03 t).length):z2W (stE t hs rm i).2 ((z03 t).getD i (0,0)).1:=by
 obtain ⟨h1,h2⟩:=z3x t;have e:(z03 t).getD i (0,0)=(z03 t)[i]:=(by simp [List.getD,h]);rw [e];refine zal (fun x hx=>by cases hx) (fun p hp s hs'=>?_);obtain ⟨q,hq,hpq⟩:=List.mem_flatMap.1 hp;obtain ⟨j,hj,rfl⟩:=List.mem_iff_getElem.1 hq;rw [List.length_take] at hj;rw [List.getElem_take] at hpq;have h3:=zaT (h2 _ (List.getElem_mem (by omega:j < (z03 t).length))).1 p hpq s hs';have h4:=List.pairwise_iff_getElem.1 h1 j i (by omega) h (by omega);omega
structure zkA (t:T) (hs rm:List Int) (i a b:Nat):Prop where
 ab:a < b∧b≤t.rows.length
 ahead:z2W (stE t hs rm i).2 a
 low:z3m (stE t hs rm i).2
 len:(stE t hs rm i).2.length≤50000
 pgs:(stE t hs rm i).1.length≤9000
 cut:(b - a=1∧(t.rows.getD a dR).whole=false)∧0 < hs.getD a 0→stE t hs rm (i+1)=(z0e a 0 (hs.getD a 0).toNat).foldl (zR rm) (stE t hs rm i)∧hiS (stE t hs rm i).2+(hs.getD a 0).toNat≤1000000
 whole:¬ ((b - a=1∧(t.rows.getD a dR).whole=false)∧0 < hs.getD a 0)→stE t hs rm (i+1)=z4a rm (stE t hs rm i).1 (stE t hs rm i).2 (zD hs a (b - a))∧z3m (zD hs a (b - a))
theorem zh9 {t:T} (hD:z0f t) (hok:zC t=true) {hs rm:List Int} (hb:∀ x ∈ hs,0≤x∧x≤1000) {i:Nat} (h:i < (z03 t).length):zkA t hs rm i ((z03 t).getD i (0,0)).1 ((z03 t).getD i (0,0)).2:=by
 have e:(z03 t).getD i (0,0)=(z03 t)[i]:=(by simp [List.getD,h]);have hm:(z03 t).getD i (0,0) ∈ z03 t:=(by rw [e];exact List.getElem_mem h);obtain ⟨f1,f2,f3⟩:=(z3x t).2 _ hm;have hah:=zh8 (hs:=hs) (rm:=rm) h;have hsu:=zin (hs:=hs) (rm:=rm) h;obtain ⟨A,B,e1,e2,e3⟩:=z8v rm _ (((z03 t).take i).flatMap (fun p=>z14 t hs p.1 p.2)) rfl
 have hsp:z0E t hs=((z03 t).take i).flatMap (fun p=>z14 t hs p.1 p.2) ++ z14 t hs ((z03 t).getD i (0,0)).1 ((z03 t).getD i (0,0)).2 ++ ((z03 t).drop (i+1)).flatMap (fun p=>z14 t hs p.1 p.2):=by
  rw [← z6I t hs,e];have h9:z03 t=(z03 t).take i ++ ((z03 t)[i] :: (z03 t).drop (i+1)):=(by rw [← List.drop_eq_getElem_cons h,List.take_append_drop])
  conv=>lhs;rw [h9]
  rw [List.flatMap_append,List.flatMap_cons,List.append_assoc]
 have hlow:=z5O hD hok hb (show z0E t hs=A ++ B ++ (z14 t hs ((z03 t).getD i (0,0)).1 ((z03 t).getD i (0,0)).2 ++ ((z03 t).drop (i+1)).flatMap (fun p=>z14 t hs p.1 p.2)) by rw [hsp,e1];simp [List.append_assoc]);have hlow2:=z5O hD hok hb (show z0E t hs=A ++ (B ++ z14 t hs ((z03 t).getD i (0,0)).1 ((z03 t).getD i (0,0)).2) ++ ((z03 t).drop (i+1)).flatMap (fun p=>z14 t hs p.1 p.2) by rw [hsp,e1];simp [List.append_assoc]);have hl9:=z7D hok hb;have hAl:A.length≤(z0E t hs).length:=(by rw [hsp,e1];simp only [List.length_append];omega);have hS2:(stE t hs rm i).2=B.foldl zP []:=e2;have hS1:(stE t hs rm i).1.length≤A.length:=e3;generalize ((z03 t).getD i (0,0)).1=a at f1 f3 hah hsu hlow hlow2 ⊢;generalize ((z03 t).getD i (0,0)).2=b at f1 f2 hsu hlow hlow2 ⊢;refine ⟨⟨f1,f2⟩,hah,by rw [hS2];exact hlow.1,by rw [hS2];exact hlow.2.1,by omega,fun hc=>?_,fun hc=>?_⟩
 ·rw [zaw f3 hc] at hsu hlow2;refine ⟨hsu,?_⟩;have h3:=hlow2.2.2;rw [List.flatten_append,z23,z9b,← hlow.2.2] at h3;rw [hS2];omega
 ·rw [z6v f3 hc] at hsu;have hlw:=z7k hb (n:=b - a) (a:=a) (by have:=z0T hok;omega);refine ⟨?_,hlw⟩;rw [hsu,List.foldl_cons,List.foldl_nil];unfold zR z4a;rw [(z5L hs (b - a) a _ hah).1,(z5L hs (b - a) a [] (fun x hx=>by cases hx)).1];rfl
theorem z7G {α:Type}:∀ {gs:List (List α)} {L R:List α} {x:α},gs.flatten=L ++ x :: R→∃ G1 g1 g2 G2,gs=G1 ++ (g1 ++ x :: g2) :: G2∧L=G1.flatten ++ g1∧R=g2 ++ G2.flatten
 | [],L,R,x,h=>by simp at h
 | g :: gs,L,R,x,h=>by
  rw [List.flatten_cons,List.append_eq_append_iff] at h
  rcases h with ⟨cs,e1,e2⟩ | ⟨bs,e1,e2⟩
  ·obtain ⟨G1,g1,g2,G2,h1,h2,h3⟩:=z7G e2;exact ⟨g :: G1,g1,g2,G2,by rw [h1];rfl,by rw [e1,h2,List.flatten_cons,List.append_assoc],h3⟩
  ·cases bs with
   | nil =>
    obtain ⟨G1,g1,g2,G2,h1,h2,h3⟩:=z7G (gs:=gs) (L:=[]) (R:=R) (x:=x) e2.symm;exact ⟨g :: G1,g1,g2,G2,by rw [h1];rfl,by rw [List.flatten_cons,List.append_assoc,← h2,List.append_nil,e1,List.append_nil],h3⟩
   | cons y bs =>
    rw [List.cons_append] at e2
    injection e2 with e3 e4
    subst e3;exact ⟨[],L,bs,gs,by rw [e1];rfl,rfl,e4⟩
theorem zip {page:List PgS} {s x:PgS} (h:x ∈ z1V page s):∃ y,(y ∈ page∨y=s)∧y.r=x.r:=by
 rcases List.eq_nil_or_concat page with rfl | ⟨a,l,rfl⟩
 ·simp only [z1V,List.getLast?_nil,List.mem_singleton] at h;exact ⟨s,.inr rfl,by rw [h]⟩
 ·rw [List.concat_eq_append,z4H] at h;rw [List.concat_eq_append]
  split at h
  ·rcases List.mem_append.1 h with h1 | h1
   ·exact ⟨x,.inl (List.mem_append.2 (.inl h1)),rfl⟩
   ·exact ⟨l,.inl (by simp),by rw [List.mem_singleton.1 h1]⟩
  ·rcases List.mem_append.1 h with h1 | h1
   ·exact ⟨x,.inl h1,rfl⟩
   ·exact ⟨s,.inr rfl,by rw [List.mem_singleton.1 h1]⟩
theorem z7H:∀ {piece page:List PgS} {x:PgS},x ∈ zP page piece→∃ y,(y ∈ page∨y ∈ piece)∧y.r=x.r
 | [],_,x,h=>⟨x,.inl h,rfl⟩
 | s :: l,page,x,h=>by
  obtain ⟨y,h1,h2⟩:=z7H (piece:=l) (page:=z1V page s) h
  rcases h1 with h1 | h1
  ·obtain ⟨z,h3,h4⟩:=zip h1;refine ⟨z,?_,by rw [h4,h2]⟩
   rcases h3 with h3 | h3
   ·exact .inl h3
   ·exact .inr (by simp [h3])
  ·exact ⟨y,.inr (by simp [h1]),h2⟩
theorem z56:∀ (g:List (List PgS)) (page:List PgS),g.foldl zP page=zP page g.flatten
 | [],_=>rfl
 | p :: g,page=>by
  rw [List.foldl_cons,z56 g,List.flatten_cons];unfold zP;rw [List.foldl_append]
theorem z5C {X:List PgS} {b:Nat} (hX:z2W X b):∀ (l Q:List PgS),(∀ s ∈ l,(b:Int)≤s.r)→(∀ s ∈ Q,(b:Int)≤s.r)→∃ Q',zP (X ++ Q) l=X ++ Q'∧∀ s ∈ Q',(b:Int)≤s.r
 | [],Q,_,hQ=>⟨Q,rfl,hQ⟩
 | s :: l,Q,hl,hQ=>by
  have hs:=hl s (by simp);have hl2:∀ x ∈ l,(b:Int)≤x.r:=fun x hx=>hl x (by simp [hx]);show ∃ Q',zP (z1V (X ++ Q) s) l=X ++ Q'∧_
  rcases List.eq_nil_or_concat Q with rfl | ⟨Q0,y,rfl⟩
  ·rw [List.append_nil,z79 (fun z hz e=>by
    have h1:=hX z (List.mem_of_getLast? hz)
    omega)]
   exact z5C hX l [s] hl2 (fun x hx=>by rw [List.mem_singleton.1 hx];exact hs)
  ·rw [List.concat_eq_append] at hQ ⊢;rw [← List.append_assoc,z4H]
   split
   ·rw [List.append_assoc];refine z5C hX l _ hl2 (fun x hx=>?_)
    rcases List.mem_append.1 hx with h1 | h1
    ·exact hQ x (List.mem_append.2 (.inl h1))
    ·rw [List.mem_singleton.1 h1];exact hQ y (by simp)
   ·rw [List.append_assoc,List.append_assoc];refine z5C hX l _ hl2 (fun x hx=>?_)
    rcases List.mem_append.1 hx with h1 | h1
    ·exact hQ x (List.mem_append.2 (.inl h1))
    ·rcases List.mem_append.1 h1 with h2 | h2
     ·exact hQ x (List.mem_append.2 (.inr h2))
     ·rw [List.mem_singleton.1 h2];exact hs
theorem z6J (hs:List Int):∀ (m a:Nat) (s:PgS),s ∈ zD hs a m ↔ ∃ n,n < m∧s=⟨((a+n:Nat):Int),0,hs.getD (a+n) 0⟩
 | 0,a,s=>⟨fun h=>(by cases h),fun ⟨n,h,_⟩=>absurd h (Nat.not_lt_zero n)⟩
 | m+1,a,s=>by
  rw [zD,List.mem_cons,z6J hs m (a+1) s];constructor
  ·rintro (rfl | ⟨n,h1,rfl⟩)
   ·exact ⟨0,Nat.succ_pos _,rfl⟩
   ·exact ⟨n+1,by omega,by rw [show a+(n+1)=a+1+n by omega]⟩
  ·rintro ⟨n,h1,rfl⟩
   cases n with
   | zero=>exact .inl rfl
   | succ n=>exact .inr ⟨n,by omega,by rw [show a+(n+1)=a+1+n by omega]⟩
theorem zdW {gs:List (List (List PgS))} {a m:Nat} {hs:List Int} {L R:List (List PgS)} (hps:gs.flatten=L ++ zD hs a m :: R) (hL:∀ p ∈ L,∀ s ∈ p,s.r < (a:Int)) (hR:∀ p ∈ R,∀ s ∈ p,((a+m:Nat):Int)≤s.r) :
  ∃ i0,i0 < gs.length∧(∀ j,j < gs.length→∀ s ∈ (gs.map z0A).getD j [],(a:Int)≤s.r→s.r < ((a+m:Nat):Int)→j=i0∧s ∈ zD hs a m)∧∀ s ∈ zD hs a m,s ∈ (gs.map z0A).getD i0 []:=by
 obtain ⟨G1,g1,g2,G2,rfl,rfl,rfl⟩:=z7G hps
 have h1:z2W (zP [] g1.flatten) a:=z61 (fun x hx=>by cases hx) (fun s hs'=>by
  obtain ⟨p,hp,hsp⟩:=List.mem_flatten.1 hs';exact hL p (List.mem_append.2 (.inr hp)) s hsp)
 obtain ⟨w1,w2⟩:=z5L hs m a _ h1
 obtain ⟨Q,q1,q2⟩:=z5C w2 g2.flatten [] (fun s hs'=>by
  obtain ⟨p,hp,hsp⟩:=List.mem_flatten.1 hs';exact hR p (List.mem_append.2 (.inl hp)) s hsp) (fun x hx=>by cases hx)
 rw [List.append_nil] at q1
 have hm:z0A (g1 ++ zD hs a m :: g2)=zP [] g1.flatten ++ zD hs a m ++ Q:=by
  unfold z0A;rw [z56,List.flatten_append,List.flatten_cons];unfold zP at w1 q1 ⊢;rw [List.foldl_append,List.foldl_append,w1,q1]
 have hgl:(G1 ++ (g1 ++ zD hs a m :: g2) :: G2).length=G1.length+(G2.length+1):=(by simp)
 have hat:((G1 ++ (g1 ++ zD hs a m :: g2) :: G2).map z0A).getD G1.length []=zP [] g1.flatten ++ zD hs a m ++ Q:=by
  rw [← hm];simp [List.getD]
 refine ⟨G1.length,by omega,fun j hj s hs' ha hb=>?_,fun s hs'=>by rw [hat];simp [hs']⟩
 rcases Nat.lt_trichotomy j G1.length with hlt | heq | hgt
 ·exfalso
  have e:((G1 ++ (g1 ++ zD hs a m :: g2) :: G2).map z0A).getD j []=z0A G1[j]:=by
   rw [List.getD_eq_getElem?_getD,List.getElem?_map,List.getElem?_append_left hlt];simp [hlt]
  rw [e,z0A,z56] at hs';obtain ⟨y,hy,hyr⟩:=z7H hs'
  rcases hy with hy | hy
  ·cases hy
  ·obtain ⟨p,hp,hyp⟩:=List.mem_flatten.1 hy;have:=hL p (List.mem_append.2 (.inl (List.mem_flatten.2 ⟨G1[j],List.getElem_mem hlt,hp⟩))) y hyp;omega
 ·subst heq;rw [hat] at hs';refine ⟨rfl,?_⟩
  rcases List.mem_append.1 hs' with h2 | h2
  ·rcases List.mem_append.1 h2 with h3 | h3
   ·have:=h1 s h3;omega
   ·exact h3
  ·have:=q2 s h2;omega
 ·exfalso
  obtain ⟨d,rfl⟩:∃ d,j=G1.length+(d+1):=⟨j - G1.length - 1,by omega⟩;have hd:d < G2.length:=(by omega)
  have e:((G1 ++ (g1 ++ zD hs a m :: g2) :: G2).map z0A).getD (G1.length+(d+1)) []=z0A G2[d]:=by
   rw [List.getD_eq_getElem?_getD,List.getElem?_map,List.getElem?_append_right (by omega),Nat.add_sub_cancel_left,List.getElem?_cons_succ];simp [hd]
  rw [e,z0A,z56] at hs';obtain ⟨y,hy,hyr⟩:=z7H hs'
  rcases hy with hy | hy
  ·cases hy
  ·obtain ⟨p,hp,hyp⟩:=List.mem_flatten.1 hy;have:=hR p (List.mem_append.2 (.inr (List.mem_flatten.2 ⟨G2[d],List.getElem_mem hd,hp⟩))) y hyp;omega
theorem zbM {t:T} {L:List Nat}:∀ k,k < L.length→∀ p ∈ z1t t L k,p.1 ∈ L∧p.2 ∈ L
 | 0,_,p,hp=>by cases hp
 | k+1,hk,p,hp=>by
  rw [z1t] at hp
  rcases List.mem_append.1 hp with h | h
  ·exact zbM k (by omega) p h
  ·split at h
   ·rw [List.mem_singleton.1 h];have e1:L.getD k 0=L[k]'(by omega):=(by simp [List.getD,show k < L.length by omega]);have e2:L.getD (k+1) 0=L[k+1]:=(by simp [List.getD,hk]);simp only;rw [e1,e2];exact ⟨List.getElem_mem _,List.getElem_mem _⟩
   ·cases h
theorem zan {gs:List GC} {R x:Nat} (h:x ∈ z06 gs R) (hx:x < R):z1x gs (x:Int)=false:=by
 rcases List.mem_append.1 h with h | h
 ·simpa using (List.mem_filter.1 h).2
 ·rw [List.mem_singleton] at h;omega
theorem zfp {t:T} {p:Nat × Nat} (hp:p ∈ z03 t):z1x (gOf t).cells (p.1:Int)=false∧(p.2 < t.rows.length→z1x (gOf t).cells (p.2:Int)=false):=by
 have hk:(zG (gOf t).cells t.rows.length).length < (z06 (gOf t).cells t.rows.length).length:=(by rw [z4v];omega);obtain ⟨h1,h2⟩:=zbM (t:=t) _ hk p hp;obtain ⟨f1,f2,_⟩:=(z3x t).2 p hp;exact ⟨zan h1 (by omega),zan h2⟩
theorem zha {t:T} {hs:List Int} {a b:Nat}:∀ p ∈ z14 t hs a b,∀ s ∈ p,(a:Int)≤s.r:=by
 intro p hp s hs';unfold z14 at hp
 split at hp
 ·split at hp
  ·rw [z0e,List.mem_map] at hp;obtain ⟨i,_,rfl⟩:=hp;rw [List.mem_singleton.1 hs'];exact Int.le_refl _
  ·rw [List.mem_singleton] at hp;subst hp;obtain ⟨n,_,rfl⟩:=(z6J hs _ _ _).1 hs';simp only;omega
 ·cases hp
theorem zeB {gs:List GC} {q:Int} (h:z1x gs q=false) {c:GC} (hc:c ∈ gs):¬ (c.row < q∧q < c.row+c.rows):=by
 rw [z1x,List.any_eq_false] at h;have:=h c hc
 simpa [z1X] using this
structure WhF (t:T) (hs:List Int) (pss:List (List PgS)) (i n:Nat) (s:PgS):Prop where
 r:s.r=n
 lt:n < t.rows.length
 r8:t.rows.length≤8
 hl:hs.length=t.rows.length
 fit:∀ c ∈ (gOf t).cells,0≤c.row∧1≤c.rows∧c.row+c.rows≤t.rows.length
 whole:0 < s.f∨s.t < hs.getD n 0→(t.rows.getD n dR).whole=false
 cell:∀ c ∈ (gOf t).cells,c.row≤n→(n:Int) < c.row+c.rows→c.rows ≠ 1→(s.f=0∧s.t=hs.getD n 0)∧z3r pss c.row=i∧z3r pss (c.row+c.rows - 1)=i
theorem zdX {t:T} (hD:z0f t) {width:Int} {high:List Int} (hp:z4f t width high=true) {i:Nat} (hi:i < (z2f t width high).length) {s:PgS} (hsm:s ∈ (z2f t width high).getD i []):∃ n,WhF t (z0y t width) (z2f t width high) i n s:=by
 have hok2:=hp;unfold z4f at hok2;rw [Bool.and_eq_true,Bool.and_eq_true] at hok2;obtain ⟨⟨hok,_⟩,_⟩:=hok2;have hb:=zaS (t:=t) (x:=width);have hbd:z2f t width high=z3V (high.map (· - (hiS (z0Z t (z0y t width))+hiS (z11 t (z0y t width))))) (z0E t (z0y t width)):=(by unfold z2f;rw [if_pos hp]);have hfl:(z7j (high.map (· - (hiS (z0Z t (z0y t width))+hiS (z11 t (z0y t width))))) (z0E t (z0y t width))).flatten=z0E t (z0y t width):=(zdC hD hok hb _).flat;rw [zct] at hbd;generalize z7j (high.map (· - (hiS (z0Z t (z0y t width))+hiS (z11 t (z0y t width))))) (z0E t (z0y t width))=gs at hbd hfl
 have hrl:(z0y t width).length=t.rows.length:=by
  unfold z4f at hp;rw [Bool.and_eq_true,Bool.and_eq_true] at hp;rw [z0y,hp.1.1,hp.1.2];exact z0N _ _
 have h8:=zfa hD hok;generalize z0y t width=hs at hfl hrl ⊢;rw [hbd] at hi hsm ⊢;rw [List.length_map] at hi;have e0:(gs.map z0A).getD i []=z0A gs[i]:=(by simp [List.getD,hi]);have hsm2:=hsm;rw [e0,z0A,z56] at hsm2;obtain ⟨y,hy,hyr⟩:=z7H hsm2
 rcases hy with hy | hy
 ·cases hy
 obtain ⟨pc,hpc,hyp⟩:=List.mem_flatten.1 hy;have hpm:pc ∈ z0E t hs:=(by rw [← hfl];exact List.mem_flatten.2 ⟨gs[i],List.getElem_mem hi,hpc⟩);rw [← z6I] at hpm;obtain ⟨⟨a,b⟩,hab,hpa⟩:=List.mem_flatMap.1 hpm;simp only at hpa;obtain ⟨f1,f2,f3⟩:=(z3x t).2 _ hab;obtain ⟨c1,c2⟩:=zfp hab;simp only at f1 f2 f3 c1 c2;have l1:=zha pc hpa y hyp;have l2:=zaT f1 pc hpa y hyp;obtain ⟨n,hn⟩:∃ n:Nat,s.r=n:=⟨s.r.toNat,by omega⟩
 have hfit:∀ c ∈ (gOf t).cells,0≤c.row∧1≤c.rows∧c.row+c.rows≤t.rows.length:=fun c hc=>by
  rw [z2k hok] at hc;obtain ⟨s1,s2,_,s4⟩:=(z3e (z3t hok hD) hc).1;exact ⟨s1,s2,s4⟩
 have hin:∀ c ∈ (gOf t).cells,c.row≤n→(n:Int) < c.row+c.rows→(a:Int)≤c.row∧c.row+c.rows≤b:=fun c hc h1 h2=>by
  have h3:=zeB c1 hc;have h4:=hfit c hc;refine ⟨by omega,?_⟩;by_cases hbl:b < t.rows.length
  ·have h5:=zeB (c2 hbl) hc;omega
  ·omega
 by_cases hcut:(b - a=1∧(t.rows.getD a dR).whole=false)∧0 < hs.getD a 0
 ·obtain rfl:n=a:=by omega
  refine ⟨n,hn,by omega,h8,hrl,hfit,fun _=>hcut.1.2,fun c hc h1 h2 h3=>?_⟩;have h4:=hin c hc h1 h2;have h5:=hfit c hc;omega
 ·obtain ⟨E1,E2,hE⟩:=List.append_of_mem hab;have hpw:=(z3x t).1;rw [hE] at hpw;obtain ⟨_,w2,w3⟩:=List.pairwise_append.1 hpw;have w4:=(List.pairwise_cons.1 w2).1
  have hsp:gs.flatten=E1.flatMap (fun p=>z14 t hs p.1 p.2) ++ zD hs a (b - a) :: E2.flatMap (fun p=>z14 t hs p.1 p.2):=by
   rw [hfl,← z6I,hE,List.flatMap_append,List.flatMap_cons];simp only;rw [z6v f3 hcut];rfl
  obtain ⟨i0,hi0,A1,A2⟩:=zdW hsp (fun p hp s' hs'=>by
    obtain ⟨q,hq,hpq⟩:=List.mem_flatMap.1 hp;have h1:=zaT ((z3x t).2 q (by rw [hE];simp [hq])).1 p hpq s' hs';have h2:=w3 q hq (a,b) (by simp);simp only at h2
    omega) (fun p hp s' hs'=>by
    obtain ⟨q,hq,hpq⟩:=List.mem_flatMap.1 hp;have h1:=zha p hpq s' hs';have h2:=w4 q hq;simp only at h2
    omega)
  have hab2:a+(b - a)=b:=(by omega);rw [hab2] at A1;obtain ⟨rfl,hw⟩:=A1 i hi s hsm (by omega) (by omega);obtain ⟨n',hn',es⟩:=(z6J hs _ _ _).1 hw
  have hnn:a+n'=n:=by
   have:s.r=((a+n':Nat):Int):=(by rw [es]);omega
  rw [hnn] at es
  have hfst:∀ q:Nat,a≤q→q < b→z3r (gs.map z0A) (q:Int)=i:=fun q hq1 hq2=>by
   refine z9t (by rw [List.length_map];exact hi) (fun j hj=>?_) ?_
   ·rw [z4s,List.any_eq_false];intro x hx hxr;have hxr:x.r=(q:Int):=(by simpa using hxr);have:=(A1 j (by omega) x hx (by omega) (by omega)).1;omega
   ·rw [z4s,List.any_eq_true];exact ⟨_,A2 _ ((z6J hs _ _ _).2 ⟨q - a,by omega,rfl⟩),by simp;omega⟩
  refine ⟨n,hn,by omega,h8,hrl,hfit,fun h=>?_,fun c hc h1 h2 h3=>?_⟩
  ·rw [es] at h;simp only at h;omega
  ·have h4:=hin c hc h1 h2;have h5:=hfit c hc;refine ⟨by rw [es];exact ⟨rfl,rfl⟩,?_,?_⟩
   ·have:=hfst c.row.toNat (by omega) (by omega)
    rwa [show ((c.row.toNat:Nat):Int)=c.row by omega] at this
   ·have:=hfst (c.row+c.rows - 1).toNat (by omega) (by omega)
    rwa [show (((c.row+c.rows - 1).toNat:Nat):Int)=c.row+c.rows - 1 by omega] at this
def zao:Value→Nat
 | .slice _ n _=>n
 | _=>0
structure C9f (w W:World) (B P:Nat) (rm:List Int) (r:Int) (n f:Nat) (A0:Int) (L0 G0:Nat) (TGT:List (List PgS) × List PgS) (pv:Value) (us:List Value) (pgs:List (List PgS)) (gv:Value) (page:List PgS):Prop where
 hf:f≤n
 p:P9 W B P pv us pgs gv page
 e:(z0e r (f:Int) (n - f)).foldl (zR rm) (pgs,page)=TGT
 st:f < n→z63 page r∨(page ≠ []∧zH rm pgs.length - hiS page≤0)
 h0:0≤hiS page
 h1:hiS page+((n:Int) - f)≤A0
 gl:page.length≤G0+f
 pl:pgs.length+min 1 page.length≤L0+f
 b:Below B w W
 tf:TF w W
 bs:B≤W.heap.size
theorem C9f.kept {w W W':World} {B P:Nat} {rm:List Int} {r:Int} {n f:Nat} {A0:Int} {L0 G0:Nat} {TGT:List (List PgS) × List PgS} {pv:Value} {us:List Value} {pgs:List (List PgS)} {gv:Value} {page:List PgS} (h:C9f w W B P rm r n f A0 L0 G0 TGT pv us pgs gv page) (k:Below W.heap.size W W'):C9f w W' B P rm r n f A0 L0 G0 TGT pv us pgs gv page :=
 { h with p:=h.p.kept k,b:=h.b.trans (k.mono h.bs),tf:=h.tf.trans (TF.of_below k),bs:=Nat.le_trans h.bs k.size }
theorem C9f.push {w W w2:World} {B P:Nat} {rm:List Int} {r:Int} {n f:Nat} {A0:Int} {L0 G0:Nat} {TGT:List (List PgS) × List PgS} {pv v':Value} {us:List Value} {pgs:List (List PgS)} {gv:Value} {page:List PgS} {o:Obj} (h:C9f w W B P rm r n f A0 L0 G0 TGT pv us pgs gv page) (hg:(W.alloc o).grownBy w2 pv.ownBlock) (ho:w2.ownsRow B 41 1 v' (us.length+1) (us ++ [gv])) (hlt:f < n) (hp:page ≠ []) (hr:zH rm pgs.length - hiS page≤0) :
  C9f w (w2.alloc (.cells #[] 45)) B w2.heap.size rm r n f A0 L0 G0 TGT v' (us ++ [gv]) (pgs ++ [page]) (.slice (some ⟨w2.heap.size,0,none⟩) 0 0) []:=by
 have hpl:=List.length_pos_iff.2 hp;have hs:=hg.size;rw [World.size_alloc] at hs;have h9:=h.h0;have h8:=h.h1;have h7:=h.pl;have h6:=h.bs;refine ⟨h.hf,h.p.push hg ho h.bs,?_,fun _=>.inl (fun l hl=>by simp at hl),by simp [hiS],?_,Nat.zero_le _,?_,h.p.pushed h.b hg h.bs,((h.tf.alloc o).grownP (h.p.own.alloc o) hg).alloc _,by simp;omega⟩
 ·rw [← h.e];exact (zhn (by omega) hp hr).symm
 ·rw [ziJ];omega
 ·simp only [List.length_append,List.length_cons,List.length_nil];omega
theorem C9f.add {w W w4:World} {B P:Nat} {rm:List Int} {r:Int} {n f:Nat} {A0:Int} {L0 G0:Nat} {TGT:List (List PgS) × List PgS} {pv v':Value} {us:List Value} {pgs:List (List PgS)} {gv:Value} {page:List PgS} {o:Obj} (h:C9f w W B P rm r n f A0 L0 G0 TGT pv us pgs gv page) {k:Nat} {tt:Int}
  (hg:(W.alloc o).grownBy w4 gv.ownBlock) (ho:zK w4 P v' (page ++ [⟨r,(f:Int),tt⟩])) (hk1:0 < k) (hk2:k≤n - f) (hto:tt=(f:Int)+k) (hkm:(k:Int)≤max 1 (zH rm pgs.length - hiS page)) (hkl:k < n - f→zH rm pgs.length - hiS page≤k) (hpush:page=[]∨0 < zH rm pgs.length - hiS page) (hlt:f < n) :
  C9f w w4 B P rm r n (f+k) A0 L0 G0 TGT pv us pgs v' (page ++ [⟨r,(f:Int),tt⟩]):=by
 have hs:=hg.size;rw [World.size_alloc] at hs;have h9:=h.h0;have h8:=h.h1;have h7:=h.pl;have h6:=h.bs;have h5:=h.gl;have KA:=ze (Below.refl W.heap.size W) o;have hbA:Below B w (W.alloc o):=h.b.trans (KA.mono h.bs);have hbs:B≤(W.alloc o).heap.size:=(by simp;omega)
 have hhi:hiS (page ++ [⟨r,(f:Int),tt⟩])=hiS page+k:=by
  rw [z23,z34,hto];simp only;omega
 have hnl:z63 page r:=by
  rcases h.st hlt with h1 | ⟨h1,h2⟩
  ·exact h1
  ·rcases hpush with h3 | h3
   ·exact absurd h3 h1
   ·omega
 refine ⟨by omega,(h.p.kept KA).add hg ho,?_,fun h3=>.inr ⟨by simp,?_⟩,by omega,by rw [hhi];omega,?_,?_,(h.p.kept KA).grew hbA hg hbs,(h.tf.alloc o).grownS (h.p.kept KA).page hg,by omega⟩
 ·rw [← h.e,zjy hk1 hk2 hnl hpush hkm,hto];have e1:((f+k:Nat):Int)=(f:Int)+k:=(by omega);have e2:n - (f+k)=n - f - k:=(by omega);rw [e1,e2]
 ·rw [hhi];have:=hkl (by omega);omega
 ·rw [List.length_append,List.length_cons,List.length_nil];omega
 ·rw [List.length_append,List.length_cons,List.length_nil];omega
theorem zhb (rm:List Int) (hl:0 < rm.length) (hl2:rm.length≤1000) (hrm:∀ k,-1000000≤zH rm k∧zH rm k≤1000) (vr:Value) (B P:Nat) (pv gv:Value) (us:List Value) (pgs:List (List PgS)) (page:List PgS) (r:Int) (n:Nat) (hn:n≤1000) (hnl:z63 page r) (h0:0≤hiS page) (h1:hiS page+n≤1000000) (hpl:pgs.length≤50000) (hgl:page.length≤50000)
  (w:World) (hB:B≤w.heap.size) (hr:∀ W,Below B w W→zA W vr rm) (hP:P9 w B P pv us pgs gv page) :
  Calls Tryz.prog 54 #[pv,gv,.int .i64 r,.int .i64 (n:Int),vr] w fun e w'=>∃ P' pv' us' gv',e=.returned (.tuple #[pv',gv'])∧P9 w' B P' pv' us' ((z0e r 0 n).foldl (zR rm) (pgs,page)).1 gv' ((z0e r 0 n).foldl (zR rm) (pgs,page)).2∧Below B w w'∧TF w w':=by
 obtain ⟨i0,hi0,hz0,hz1,hz2⟩:=info_parts z83;obtain ⟨j0,hj0,hy0,hy1,hy2⟩:=info_parts z67;generalize hTG:(z0e r 0 n).foldl (zR rm) (pgs,page)=TGT;have H0:Hid (C9f w w B P rm r n 0 (hiS page+n) (pgs.length+1) page.length TGT pv us pgs gv page):=Hd ⟨Nat.zero_le _,hP,hTG,fun _=>.inl hnl,h0,by omega,by omega,by omega,Below.refl _ _,TF.refl _,hB⟩;obtain ⟨ap,cp,rfl,_⟩:=z0h hP.own;obtain ⟨ag,cg,rfl⟩:=hP.page.form;have HR:=Hd hr;have HM:=Hd hrm;have HT:=Hd hTG;obtain ⟨A0,hA0⟩:∃ A0,hiS page+n=A0:=⟨_,rfl⟩;obtain ⟨L0,hL0⟩:∃ L0,pgs.length+1=L0:=⟨_,rfl⟩;obtain ⟨G0,hG0⟩:∃ G0,page.length=G0:=⟨_,rfl⟩;rw [hA0,hL0] at H0;have hA1:A0≤1000000:=(by omega);have hL1:L0≤50001:=(by omega);have hG1:G0≤50000:=(by omega);have HG:=Hd hG0;clear hP hr hrm hTG hnl h0 h1 hpl hgl hA0 hL0 hG0;go_enter Tryz.func54,Tryz.ntmps54;go_wp2_with fail
 go_loopw [0,1,12] (fun pv gv i W=>∃ (f:Nat) (us:List Value) (pgs:List (List PgS)) (page:List PgS) (P:Nat),i=.int .i64 (f:Int)∧Hid (C9f w W B P rm r n f A0 L0 G0 TGT pv us pgs gv page)) (fun _ gv i _=>2 * (n - (intOf i).toNat)+min 1 (zao gv))
 case atStart=>exact ⟨0,us,pgs,page,P,rfl,by rw [← HG.out];exact H0⟩
 case round =>
  clear H0 HT HG;obtain ⟨f,us,pgs,page,P,rfl,HC⟩:=hrel;obtain ⟨ap,cp,rfl,_⟩:=z0h HC.out.p.own;obtain ⟨ag,cg,rfl⟩:=HC.out.p.page.form;have hf:=HC.out.hf;by_cases hlt:f < n
  case neg =>
   obtain rfl:f=n:=by omega
   have HE:Hid (TGT=(pgs,page)):=Hd (by rw [← HC.out.e,Nat.sub_self];rfl);go_wp2;exact bodyPost_ret (v:=.tuple #[.slice ap us.length cp,.slice ag page.length cg]) (by simp [results,Tryz.results54,go_sem]) rfl ⟨P,_,us,_,rfl,by rw [HE.out];exact HC.out.p,HC.out.b,HC.out.tf⟩
  have hul:=HC.out.p.len;have KR:=Hd (fun W (h:zA W vr rm) (hx:pgs.length≤100000)=>zak rm hl hl2 pgs.length hx vr W h);have b1:=HC.out.h0;have b2:=HC.out.h1;have b3:=HC.out.gl;have b4:=HC.out.pl;have b5:=HC.out.bs;have hlow:z3m page:=⟨b1,by omega⟩;have KA:=Hd (fun W z (h:z2I W z (.slice ag page.length cg) page)=>(z4w hlow ▸ z7E _ page W h:Calls Tryz.prog 99 #[.slice ag page.length cg] W fun e w'=>e=.returned (.int .i64 (hiS page))∧Below W.heap.size W w'));have hrb:=HM.out pgs.length;have hpl:pgs.length≤60000:=(by omega);have hub:us.length≤60000:=(by omega);have hgl:page.length≤60000:=(by omega);rw [hul] at HC ⊢;clear hlow hul b3 b4;have HR1:=HR.out wr HC.out.b;go_wp2_with fail
  refine (KR.out _ HR1 (by omega)).mono ?_;rintro e w1 ⟨rfl,k1⟩;replace HC:=Hd (HC.out.kept k1);clear k1 HR1 KR b5;go_wp2_with fail
  refine (KA.out _ _ HC.out.p.page.at).mono ?_;rintro e w2 ⟨rfl,k2⟩;have HQ:=Hd (HC.out.kept k2);have hB2:=HQ.out.bs;have hP2:=HQ.out.p.hi;have hBP:=HQ.out.p.le;clear k2 KA HC;have HQd:=Hd (fun (v':Value) (w4:World) (o:Obj) hg ho hp hr=>C9f.push HQ.out (v':=v') (w2:=w4) (o:=o) hg ho hlt hp hr);have HQa:=Hd (fun (v':Value) (w4:World) (o:Obj) (k:Nat) (tt:Int) hg ho h1 h2 h3 h4 h5 h6=>C9f.add HQ.out (v':=v') (w4:=w4) (o:=o) (k:=k) (tt:=tt) hg ho h1 h2 h3 h4 h5 h6 hlt);have HOp:=Hd (HQ.out.p.own);have HOg:=Hd (HQ.out.p.page);clear HQ;generalize zH rm pgs.length=R at HQd HQa hrb ⊢;generalize hiS page=A at HQd HQa b1 b2 ⊢;have hwr:IntKind.i64.wrap (R - A)=R - A:=(by rw [IntKind.wrap_i64];omega);have hfr:((f:Int) < (n:Int))=True:=(by simp;omega);by_cases hfree:R - A≤0
  ·by_cases he:page=[]
   ·subst he;have hpush:([]:List PgS)=[]∨0 < R - A:=.inl rfl;clear HQd HOp;go_wp2_with fail
    refine (z2X 1 (R - A) w2).mono ?_;rintro e w9 ⟨rfl,hw9⟩;obtain rfl:w2=w9:=hw9.symm;by_cases hto:(n:Int) < (f:Int)+max 1 (R - A)
    ·exact absurd hto (by omega)
    ·obtain ⟨k,hk⟩:∃ k:Nat,(k:Int)=max 1 (R - A):=⟨(max 1 (R - A)).toNat,by omega⟩;have hwk:IntKind.i64.wrap ((f:Int)+(k:Int))=(f:Int)+(k:Int):=(by rw [IntKind.wrap_i64];omega);rw [← hk] at hto ⊢;have hO:=HOg.out;unfold zK at hO;have HA:=Hd (fun (v':Value) (w4:World) (o:Obj) (hg:(w2.alloc o).grownBy w4 (Value.slice ag 0 cg).ownBlock) (ho:zK w4 P v' ([] ++ [⟨r,(f:Int),((f:Int)+(k:Int))⟩]))=>HQa.out v' w4 o k ((f:Int)+(k:Int)) hg ho (by omega) (by omega) (by omega) (by omega) (by omega) hpush);have hkn:1≤k:=(by omega);clear HQa hk;go_wp2_with (at_builtin;refine wpList_append_own _ rfl _ _ 41 rfl P 45 i0 _ 3 24 Tryz.underlying41 hi0 hz0 hz1 hz2 rfl (by decide) _ _ _ rfl (hO.alloc _) ⟨w2.heap.size,0,none⟩ 1 1 (z1E ⟨r,(f:Int),((f:Int)+(k:Int))⟩) rfl rfl ?c1 ?c2 ?c3 ?c4 ?c5 ?_)
     case c1=>exact z0F (zj w2 _)
     case c2=>simp [z1E,Value.oneCell']
     case c3=>unfold maxLen;simp only [List.length_nil];omega
     case c4=>simp only [List.length_nil];omega
     case c5=>simp;omega
     intro v' w4 hown' hgrow' _;have HN:=Hd (HA.out v' w4 _ hgrow' (zK.next hown'));obtain ⟨g',cap',rfl⟩:=Joins.ownsRow_form hown' (by omega);clear hown' hgrow' hO HA HOg;go_wp2;go_roundw
     case rel=>exact ⟨f+k,us,pgs,_,P,by go_num,HN⟩
     case measure=>simp [intOf,zao];omega
   ·have hpos:(0:Int) < (page.length:Int):=(by have:=List.length_pos_iff.2 he;omega);have hO:=HOp.out;go_wp2_with (at_builtin;refine wpList_append_own _ rfl _ _ 30 rfl B 41 j0 _ 1 24 Tryz.underlying30 hj0 hy0 hy1 hy2 rfl (by decide) _ _ _ rfl (hO.alloc _) ⟨w2.heap.size,0,none⟩ 1 1 [.slice ag page.length cg] rfl rfl ?c1 ?c2 ?c3 ?c4 ?c5 ?_)
    case c1=>exact z0F (zj w2 (.cells #[.slice ag page.length cg] 41))
    case c2=>simp [Value.oneCell']
    case c3=>unfold maxLen;omega
    case c4=>omega
    case c5=>simp;omega
    intro v' w4 hown' hgrow' _;have HN:=Hd (HQd.out v' w4 _ hgrow' hown' he hfree);have hpn:=List.length_pos_iff.2 he;obtain ⟨g',cap',rfl⟩:=Joins.ownsRow_form hown' (by omega);clear hown' hgrow' hO HQd HQa HOp HOg;go_wp2;go_roundw
    case rel=>exact ⟨f,_,_,_,_,rfl,HN⟩
    case measure=>simp [intOf,zao];omega
  ·have hpush:page=[]∨0 < R - A:=.inr (by omega);clear HQd HOp;go_wp2_with fail
   refine (z2X 1 (R - A) w2).mono ?_;rintro e w9 ⟨rfl,hw9⟩;obtain rfl:w2=w9:=hw9.symm;by_cases hto:(n:Int) < (f:Int)+max 1 (R - A)
   ·obtain ⟨k,hk⟩:∃ k:Nat,k=n - f:=⟨_,rfl⟩;have hO:=HOg.out;unfold zK at hO;have HA:=Hd (fun (v':Value) (w4:World) (o:Obj) (hg:(w2.alloc o).grownBy w4 (Value.slice ag page.length cg).ownBlock) (ho:zK w4 P v' (page ++ [⟨r,(f:Int),(n:Int)⟩]))=>HQa.out v' w4 o k (n:Int) hg ho (by omega) (by omega) (by omega) (by omega) (by omega) hpush);have HKn:Hid ((n:Int)=((f+k:Nat):Int)):=Hd (by omega);have hkn:1≤k∧f+k=n:=(by omega);clear HQa hk;go_wp2_with (at_builtin;refine wpList_append_own _ rfl _ _ 41 rfl P 45 i0 _ 3 24 Tryz.underlying41 hi0 hz0 hz1 hz2 rfl (by decide) _ _ _ rfl (hO.alloc _) ⟨w2.heap.size,0,none⟩ 1 1 (z1E ⟨r,(f:Int),(n:Int)⟩) rfl rfl ?c1 ?c2 ?c3 ?c4 ?c5 ?_)
    case c1=>exact z0F (zj w2 _)
    case c2=>simp [z1E,Value.oneCell']
    case c3=>unfold maxLen;omega
    case c4=>omega
    case c5=>simp;omega
    intro v' w4 hown' hgrow' _;have HN:=Hd (HA.out v' w4 _ hgrow' (zK.next hown'));obtain ⟨g',cap',rfl⟩:=Joins.ownsRow_form hown' (by omega);clear hown' hgrow' hO HA HOg;go_wp2;go_roundw
    case rel=>exact ⟨f+k,us,pgs,_,P,by rw [HKn.out],HN⟩
    case measure=>simp [intOf,zao];omega
   ·obtain ⟨k,hk⟩:∃ k:Nat,(k:Int)=max 1 (R - A):=⟨(max 1 (R - A)).toNat,by omega⟩;have hwk:IntKind.i64.wrap ((f:Int)+(k:Int))=(f:Int)+(k:Int):=(by rw [IntKind.wrap_i64];omega);rw [← hk] at hto ⊢;have hO:=HOg.out;unfold zK at hO;have HA:=Hd (fun (v':Value) (w4:World) (o:Obj) (hg:(w2.alloc o).grownBy w4 (Value.slice ag page.length cg).ownBlock) (ho:zK w4 P v' (page ++ [⟨r,(f:Int),((f:Int)+(k:Int))⟩]))=>HQa.out v' w4 o k ((f:Int)+(k:Int)) hg ho (by omega) (by omega) (by omega) (by omega) (by omega) hpush);have hkn:1≤k:=(by omega);clear HQa hk;go_wp2_with (at_builtin;refine wpList_append_own _ rfl _ _ 41 rfl P 45 i0 _ 3 24 Tryz.underlying41 hi0 hz0 hz1 hz2 rfl (by decide) _ _ _ rfl (hO.alloc _) ⟨w2.heap.size,0,none⟩ 1 1 (z1E ⟨r,(f:Int),((f:Int)+(k:Int))⟩) rfl rfl ?c1 ?c2 ?c3 ?c4 ?c5 ?_)
    case c1=>exact z0F (zj w2 _)
    case c2=>simp [z1E,Value.oneCell']
    case c3=>unfold maxLen;omega
    case c4=>omega
    case c5=>simp;omega
    intro v' w4 hown' hgrow' _;have HN:=Hd (HA.out v' w4 _ hgrow' (zK.next hown'));obtain ⟨g',cap',rfl⟩:=Joins.ownsRow_form hown' (by omega);clear hown' hgrow' hO HA HOg;go_wp2;go_roundw
    case rel=>exact ⟨f+k,us,pgs,_,P,by go_num,HN⟩
    case measure=>simp [intOf,zao];omega
end
end Go.Proofs.YtggmjiddadjilahGreat
