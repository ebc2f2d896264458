/-
  PROVED HERE: what the program's GrdBlocks answers at a grid that lies in memory, and that its answer owns its memory; nothing that was in memory is turned. Also: 5 more texts of the same proof.
-/
import Derived.Test.YtggmjiddadjilahGreatJ19
import Derived.Test.YtggmjiddadjilahGreatJ18
set_option maxRecDepth 1000000
set_option maxHeartbeats 40000000
open Go.Proofs.Tryz
namespace Go.Proofs.YtggmjiddadjilahGreat
open Value (int)
open IntKind (i64)
section
open Go.RowKit
def z4A (row:Int) (x:GC):Bool:=decide (x.row < row) && z0S row x.row x.rows
def z2a (row:Int) (x:GC):Bool:=decide (x.row < row) && decide (row < x.row+x.rows)
theorem zji {R C:Int} {x:GC} (h:z18 R C x=true) (row:Int):z4A row x=z2a row x:=by
 obtain ⟨e1,e2,e3,e4,h1,h2,h3,h4⟩:=z4d h;rw [Bool.eq_iff_iff];simp [z4A,z2a,z0S];omega
def z51 (gs:List GC) (row:Int):Bool:=gs.any (z4A row)
def z2f (gs:List GC) (row:Int):Bool:=gs.any (z2a row)
theorem zi0 {R C:Int} {gs:List GC} (h:∀ a ∈ gs,z18 R C a=true) (row:Int):z51 gs row=z2f gs row:=by
 unfold z51 z2f
 induction gs with
 | nil=>rfl
 | cons a t ih=>rw [List.any_cons,List.any_cons,zji (h a (by simp)),ih (λb hb=>h b (by simp [hb]))]
def zQ (gs:List GC) (k:Nat):List Int:=((List.range k).filter (λr:Nat=>!z2f gs (r:Int))).map (λr=>((r:Nat):Int))
theorem z8Z {gs:List GC} {k:Nat} (h:z2f gs k=false):zQ gs (k+1)=zQ gs k ++ [(k:Int)]:=by simp [zQ,List.range_succ,h]
theorem z84 {gs:List GC} {k:Nat} (h:z2f gs k=true):zQ gs (k+1)=zQ gs k:=by simp [zQ,List.range_succ,h]
theorem z3e (gs:List GC) (k:Nat):(zQ gs k).length<=k:=by
 have:=List.length_filter_le (λr:Nat=>!z2f gs (r:Int)) (List.range k)
 simpa [zQ] using this
def z6a (g:G):List Int:=if okB g then zQ g.cells g.rows.toNat else []
theorem zf6 {g:G} (h:okB g=false):z6a g=[]:=by rw [z6a,if_neg (by rw [h];simp)]
theorem z9S {g:G} (h:okB g=true):z6a g=zQ g.cells g.rows.toNat:=by rw [z6a,if_pos h]
theorem zgg {gs:List GC} {row:Int} {k:Nat} (hk:k < gs.length) (h:z4A row (gs.getD k dG)=true):z51 gs row=true:=by
 refine List.any_eq_true.2 ⟨gs[k],List.getElem_mem hk,?_⟩;have e:gs.getD k dG=gs[k]:=(by simp [List.getD,hk]);rw [<-e];exact h
theorem zf7 {gs:List GC} {row:Int} (h:∀ j,j < gs.length->z4A row (gs.getD j dG)=false):z51 gs row=false:=by
 cases hc:z51 gs row with
 | false=>rfl
 | true =>
  obtain ⟨x,hx,ho⟩:=List.any_eq_true.1 hc;obtain ⟨i,hi,rfl⟩:=List.mem_iff_getElem.1 hx;have:=h i hi;have e:gs.getD i dG=gs[i]:=(by simp [List.getD,hi]);rw [e,ho] at this
  cases this
theorem zcb (a b:Int) (ac:Option Addr) (cc:Nat) (gs:List GC) (row:Int) (hr:I64 row) (w:World) {z:Nat} (h:z1K w z (.slice ac gs.length cc) gs) :
  Calls prog 77 #[.agg #[int i64 a,int i64 b,.slice ac gs.length cc],int i64 row] w λe w'=>e=.returned (.bool (z51 gs row))/\Below w.heap.size w w':=by
 obtain ⟨_,_,_,hlen⟩:=At.form h;unfold maxLen at hlen;have H:=O h;clear h;go_enter func77,ntmps77;go_wp2_with fail
 go_loopw [10] (λi W=>∃ k:Nat,k<=gs.length/\i=int i64 k/\Hid (∀ j,j < k->z4A row (gs.getD j dG)=false)/\Hid (Below w.heap.size w W)) (λi _=>gs.length - (intOf i).toNat)
 case atStart=>exact ⟨0,nZ,rfl,λj hj=>absurd hj (Nat.not_lt_zero _),ze bR _⟩
 case round =>
  obtain ⟨k,hk,rfl,HA,HB⟩:=hrel;by_cases hlt:k < gs.length
  ·obtain ⟨q,off,cap',e',hc1,hc2,hbl,hx,hs⟩:=At.get (H.out.kept HB.out) hlt;simp only [Value.slice.injEq,true_and] at e';obtain ⟨rfl,rfl⟩:=e';have HH:Hid (z4A row (gs.getD k dG)=true->z51 gs row=true):=λhp=>zgg hlt hp
   have HN:Hid (z4A row (gs.getD k dG)=false->∀ j,j < k+1->z4A row (gs.getD j dG)=false):=λhp j hj=>by
    rcases Nat.lt_or_eq_of_le (Nat.lt_succ_iff.1 hj) with h1 | rfl
    ·exact HA.out j h1
    ·exact hp
   generalize gs.getD k dG=x at hx hs HH HN;obtain ⟨x0,x1,x2,x3,x4⟩:=hx;obtain ⟨b0,b1,b2,b3,_⟩:=hs;have H1:=O (z8Y row x.row x.rows hr b0 b2);unfold maxLen at hc2;clear b0 b1 b2 b3;by_cases h1:x.row < row
   ·cases h2:z0S row x.row x.rows with
    | false =>
     have HF:=O (HN.out (by simp only [z4A,h2,Bool.and_false]));rw [h2] at H1;clear HH HN HA;go_wp2_with fail
     refine (H1.out _).mono ?_;rintro e w1 ⟨rfl,rfl⟩;go_wp2;go_roundw
     case rel=>exact ⟨k+1,by omega,by go_num,HF,ze HB.out _⟩
     case measure=>simp [intOf];omega
    | true =>
     have HF:=O (HH.out (by simp only [z4A,h1,h2,decide_true,Bool.and_self]));rw [h2] at H1;clear HH HN HA;go_wp2_with fail
     refine (H1.out _).mono ?_;rintro e w1 ⟨rfl,rfl⟩;go_wp2;go_ret;exact ⟨zV HF.out.symm,ze HB.out _⟩
   ·have HF:=O (HN.out (by simp only [z4A,h1,decide_false,Bool.false_and]));clear HH HN HA;go_wp2;go_roundw
    case rel=>exact ⟨k+1,by omega,by go_num,HF,ze HB.out _⟩
    case measure=>simp [intOf];omega
  ·obtain rfl:k=gs.length:=by omega
   have HF:=O (zf7 HA.out);clear HA;go_wp2;go_ret;exact ⟨zV HF.out.symm,HB.out⟩
theorem zes {w:World} {base n0 k:Nat} {e:TypeId} {v:Value} {xs:List Value} (h:w.ownsRow base e 1 v k xs) (hn:n0 < base):some n0 ≠ v.ownBlock:=by
 rcases h.2 with ⟨rfl,_⟩ | ⟨g,cap,cur,rfl,hb,_⟩
 ·simp [Value.ownBlock]
 ·simp [Value.ownBlock];omega
theorem zgh {w:World} {base j k:Nat} {e:TypeId} {v:Value} {xs:List Value} (h:w.ownsRow base e 1 v k xs) (hj:v.ownBlock=some j):base<=j:=by
 rcases h.2 with ⟨rfl,_⟩ | ⟨g,cap,cur,rfl,hb,_⟩
 ·simp [Value.ownBlock] at hj
 ·simp [Value.ownBlock] at hj;omega
theorem z9T:(prog.info? 3).map (λi=>(i.zero,i.size,i.bytes))=some (some (Value.int .i64 0),1,8):=by kernel_rfl
theorem z9U {w w':World} {base n k:Nat} {v:Value} {xs:List Value} (h:w.ownsRow base 3 1 v k xs) (hb:Below w.heap.size w w') (_:n<=base):w'.ownsRow base 3 1 v k xs:=by
 refine ⟨h.1,?_⟩
 rcases h.2 with h0 | ⟨g,cap,cur,hv,hbs,hg,r⟩
 ·exact .inl h0
 ·exact .inr ⟨g,cap,cur,hv,hbs,(hb.block g (bL hg)).trans hg,r⟩
theorem zcx (Rn:Nat) (hR2:Rn<=1000) (C:Int) (ac:Option Addr) (cc:Nat) (gs:List GC) (hc:∀ row,z51 gs row=z2f gs row) (w:World) {z:Nat} (h:z1K w z (.slice ac gs.length cc) gs) :
  Calls prog 42 #[.agg #[int i64 (Rn:Int),int i64 C,.slice ac gs.length cc]] w λe w'=>∃ v,e=.returned v/\zq w' w.heap.size w'.heap.size v (zQ gs Rn)/\Below w.heap.size w w':=by
 obtain ⟨_,_,_,hlen⟩:=At.form h;unfold maxLen at hlen;obtain ⟨i0,hi,hz0,hz1,hz2⟩:=info_parts z9T;obtain ⟨w1,hw1⟩:∃ w1,w.alloc (.cells #[int i64 (Rn:Int),int i64 C,.slice ac gs.length cc] 38)=w1:=⟨_,rfl⟩;have K1:Hid (Below w.heap.size w w1):=(by rw [Hid,<-hw1];exact ze bR _);have X1:Hid (w1.heap[w.heap.size]?=some (.cells #[int i64 (Rn:Int),int i64 C,.slice ac gs.length cc] 38)):=(by rw [Hid,<-hw1];exact zj _ _);have hs1:w.heap.size < w1.heap.size:=(by rw [<-hw1];simp);have H:=O h;have HC:=O hc;clear h hc;go_enter func42,ntmps42;go_upto_region 2 with fail
 clear hw1;have g0:w1.cell? ⟨w.heap.size,0,none⟩=some (int i64 (Rn:Int)):=zf X1.out;go_wp2_with fail
 go_loopw [7,3] (λi v W=>∃ (k:Nat) (vb:Value),k<=Rn/\i=int i64 k/\v=vb/\Hid (W.ownsRow w1.heap.size 3 1 vb (zQ gs k).length ((zQ gs k).map (Value.int .i64)))/\Hid (Below w.heap.size w W)/\Hid (W.heap[w.heap.size]?=some (.cells #[int i64 (Rn:Int),int i64 C,.slice ac gs.length cc] 38))/\w1.heap.size<=W.heap.size) (λi _ _=>Rn - (intOf i).toNat)
 case atStart=>exact ⟨0,_,nZ,rfl,rfl,⟨by simp,.inl ⟨rfl,rfl⟩⟩,K1,X1,lR⟩
 case round =>
  obtain ⟨k,vb,hk,rfl,rfl,HO,HB,HX,hsr⟩:=hrel;have g0':wr.cell? ⟨w.heap.size,0,none⟩=some (int i64 (Rn:Int)):=zf HX.out;have g1:wr.cell? ⟨w.heap.size,1,none⟩=some (int i64 C):=zf HX.out;have g2:wr.cell? ⟨w.heap.size,2,none⟩=some (.slice ac gs.length cc):=zf HX.out;by_cases hlt:k < Rn
  ·have KI:=O (zcb (Rn:Int) C ac cc gs (k:Int) ⟨by omega,by omega⟩ wr (H.out.kept HB.out));rw [HC.out] at KI;have hbl:=z3e gs k
   cases h1:z2f gs (k:Int) with
   | true =>
    have HS:=O (z84 h1);rw [h1] at KI;clear h1;go_wp2_with fail
    refine KI.out.mono ?_;rintro e w2 ⟨rfl,hb2⟩;have HO2:=O (z9U HO.out hb2 lR);have HB2:=O (zi HB.out hb2);have HX2:=O ((hb2.block w.heap.size (by omega)).trans HX.out);have hs2:=nT hsr hb2.size;clear hb2;go_wp2;go_roundw
    case rel=>exact ⟨k+1,_,by omega,by go_num,rfl,by rw [HS.out];exact HO2,HB2,HX2,hs2⟩
    case measure=>simp [intOf];omega
   | false =>
    have HS:=O (z8Z h1);rw [h1] at KI;clear h1;go_wp2_with fail
    refine KI.out.mono ?_;rintro e w2 ⟨rfl,hb2⟩;have hO2:=z9U HO.out hb2 lR;have HB2:=O (zi HB.out hb2);have HX2:=O ((hb2.block w.heap.size (by omega)).trans HX.out);have hs2:=nT hsr hb2.size;clear hb2 HO;go_wp2_with (at_builtin;refine wpList_append_own _ rfl _ _ 27 rfl w1.heap.size 3 i0 (int i64 0) 1 8 underlying27 hi hz0 hz1 hz2 rfl (by decide) _ _ _ rfl (hO2.alloc _) ⟨w2.heap.size,0,none⟩ 1 1 [int i64 (k:Int)] rfl rfl ?c1 ?c2 ?c3 ?c4 ?c5 ?_)
    case c1 =>
     intro i u hi
     match i,hi with
     | 0,hi=>simp at hi;subst hi;simp [Addr.add]
    case c2=>intro u hu;simp at hu;subst hu;rfl
    case c3=>unfold maxLen;omega
    case c4=>omega
    case c5=>simp;omega
    intro v' w5 hown' hgrow' _;have hne:=zes hO2 hs1;have HB5:Hid (Below w.heap.size w w5):=(ze HB2.out _).grown hgrow' (by simp;omega) (λj e=>by have:=zgh hO2 e;omega);have HX5:Hid (w5.heap[w.heap.size]?=_):=O ((hgrow'.block w.heap.size (by simp;omega) hne).trans ((bA (by omega)).trans HX2.out));have hs5:w1.heap.size<=w5.heap.size:=(by have:=hgrow'.size;simp at this;omega);have HO5:Hid (w5.ownsRow w1.heap.size 3 1 v' (zQ gs (k+1)).length ((zQ gs (k+1)).map (Value.int .i64))):=O (by rw [HS.out];simpa using hown');obtain ⟨g',cap',rfl⟩:=Joins.ownsRow_form hown' (by omega);clear hown' hgrow' hO2 hne;go_wp2;go_roundw
    case rel=>exact ⟨k+1,_,by omega,by go_num,rfl,HO5,HB5,HX5,hs5⟩
    case measure=>simp [intOf];omega
  ·obtain rfl:k=Rn:=by omega
   go_wp2;go_ret;refine ⟨_,rfl,?_,HB.out⟩;exact (zq.of_owns HO.out).base (by omega) lR
def z0l (gs:List GC) (R:Nat):List Nat:=(List.range R).filter (λr:Nat=>!z2f gs (r:Int)) ++ [R]
theorem zia (gs:List GC) (R:Nat):(z0l gs R).map (λr:Nat=>(r:Int))=zQ gs R ++ [(R:Int)]:=by simp [z0l,zQ]
theorem z5o (gs:List GC) (R:Nat):(z0l gs R).length=(zQ gs R).length+1:=by simp [z0l,zQ]
theorem z87 (gs:List GC) (R:Nat):(z0l gs R).Pairwise (· < ·):=by
 refine List.pairwise_append.2 ⟨List.Pairwise.filter _ List.pairwise_lt_range,by simp,λa ha b hb=>?_⟩;rw [List.mem_filter,List.mem_range] at ha;rw [List.mem_singleton] at hb;omega
theorem zjn {gs:List GC} {R x:Nat} (h:x ∈ z0l gs R):x<=R:=by
 rcases List.mem_append.1 h with h | h
 ·rw [List.mem_filter,List.mem_range] at h;omega
 ·rw [List.mem_singleton] at h;omega
theorem z3T {gs:List GC} {R k:Nat} (hk:k+1 < (z0l gs R).length):(z0l gs R).getD k 0 < (z0l gs R).getD (k+1) 0/\(z0l gs R).getD (k+1) 0<=R:=by
 have h1:(z0l gs R).getD k 0=(z0l gs R)[k]:=(by simp [List.getD,show k < (z0l gs R).length by omega]);have h2:(z0l gs R).getD (k+1) 0=(z0l gs R)[k+1]:=(by simp [List.getD,hk]);rw [h1,h2];exact ⟨List.pairwise_iff_getElem.1 (z87 gs R) k (k+1) (by omega) hk (by omega),zjn (List.getElem_mem _)⟩
theorem zcD {gs:List GC} {R k:Nat} (hk:k < (z0l gs R).length):(zQ gs R ++ [(R:Int)]).getD k 0=(((z0l gs R).getD k 0:Nat):Int):=by
 rw [<-zia];simp [List.getD,hk]
def z1A (t:T) (hs:List Int) (a b:Nat):List (List zk) :=
 if z0j t (a:Int)=1 then (if (b - a=1/\(t.rows.getD a dR).whole=false)/\0 < hs.getD a 0 then z0o a 0 (hs.getD a 0).toNat else [zT hs a (b - a)]) else []
theorem zaL {t:T} {hs:List Int} {a b:Nat} (h:¬ z0j t (a:Int)=1):z1A t hs a b=[]:=by rw [z1A,if_neg h]
theorem zaM {t:T} {hs:List Int} {a b:Nat} (h:z0j t (a:Int)=1) (h2:(b - a=1/\(t.rows.getD a dR).whole=false)/\0 < hs.getD a 0):z1A t hs a b=z0o a 0 (hs.getD a 0).toNat:=by rw [z1A,if_pos h,if_pos h2]
theorem z88 {t:T} {hs:List Int} {a b:Nat} (h:z0j t (a:Int)=1) (h2:¬ ((b - a=1/\(t.rows.getD a dR).whole=false)/\0 < hs.getD a 0)):z1A t hs a b=[zT hs a (b - a)]:=by rw [z1A,if_pos h,if_neg h2]
def z1h (t:T) (hs:List Int) (L:List Nat):Nat->List (List zk)
 | 0=>[]
 | k+1=>z1h t hs L k ++ z1A t hs (L.getD k 0) (L.getD (k+1) 0)
def z0B (t:T) (hs:List Int):List (List zk):=z1h t hs (z0l (Z t).cells t.rows.length) (zQ (Z t).cells t.rows.length).length
theorem zgx {t:T} {hs:List Int} (hb:∀ x ∈ hs,0<=x/\x<=1000) (a b:Nat):(z1A t hs a b).length<=1000:=by
 unfold z1A
 split
 ·split
  ·rename_i h
   have hm:hs.getD a 0<=1000:=by
    by_cases ha:a < hs.length
    ·exact (hb _ (by simp [List.getD,ha])).2
    ·simp [List.getD,ha]
   rw [z0o,List.length_map,List.length_range];omega
  ·simp
 ·simp
theorem z89 {t:T} {hs:List Int} (hb:∀ x ∈ hs,0<=x/\x<=1000) (L:List Nat):∀ k,(z1h t hs L k).length<=1000 * k
 | 0=>by simp [z1h]
 | k+1=>by
  have:=z89 (t:=t) hb L k;have:=zgx (t:=t) hb (L.getD k 0) (L.getD (k+1) 0);rw [z1h,List.length_append];omega
end
section
theorem z6l {α:Type} {l:List α} {x d:α} {k:Nat} (h:k < l.length):(l ++ [x]).getD k d=l.getD k d:=by
 simp [List.getD,List.getElem?_append_left h]
theorem z3X {α:Type} {l:List α} {x d:α}:(l ++ [x]).getD l.length d=x:=by simp [List.getD]
theorem z8c {α:Type} {l:List α} {x:α} {k:Nat} (h:k<=l.length):(l ++ [x]).take k=l.take k:=by
 rw [List.take_append_of_le_length h]
theorem zdY (gs:List GC) (r i:Nat) (e:Int) (x:C) (c:Int):z1q (z1y gs r i e x) c=z1q (z4r r i e x) c:=by simp only [z1y,z1q]
theorem zgy (gs:List GC) (r i:Nat) (e:Int) (x:C):(z1y gs r i e x).col=(z5E gs (z4r r i e x):Int):=by simp only [z1y,z1q]
structure zcG (t:T) (gs:List GC) (k:Nat):Prop where
 ex:∃ r j:Nat,r < t.rows.length/\j < (t.rows.getD r dR).cells.length/\gs.getD k dG=z1y (gs.take k) r j (z03 t r) ((t.rows.getD r dR).cells.getD j dC)
 free:z1k (gs.take k) (gs.getD k dG)=true
 first:∀ c:Nat,(c:Int) < (gs.getD k dG).col->z1k (gs.take k) (z1q (gs.getD k dG) c)=false
 after:0 < k->(gs.getD (k - 1) dG).row < (gs.getD k dG).row\/(gs.getD (k - 1) dG).row=(gs.getD k dG).row/\(gs.getD (k - 1) dG).ins+1=(gs.getD k dG).ins
theorem zcG.snoc {t:T} {gs:List GC} {k:Nat} (x:GC) (hk:k < gs.length) (h:zcG t gs k):zcG t (gs ++ [x]) k:=by
 have e1:(gs ++ [x]).getD k dG=gs.getD k dG:=z6l hk;have e2:(gs ++ [x]).take k=gs.take k:=z8c (by omega);have e3:(gs ++ [x]).getD (k - 1) dG=gs.getD (k - 1) dG:=z6l (by omega);refine ⟨?_,?_,?_,?_⟩
 ·rw [e1,e2];exact h.ex
 ·rw [e1,e2];exact h.free
 ·rw [e1,e2];exact h.first
 ·rw [e1,e3];exact h.after
structure z3g (t:T) (gs:List GC) (r i:Nat):Prop where
 part:z3Q t gs r i
 laid:∀ k,k < gs.length->zcG t gs k
 last:0 < gs.length->(gs.getD (gs.length - 1) dG).row < r\/(gs.getD (gs.length - 1) dG).row=r/\(gs.getD (gs.length - 1) dG).ins+1=i
theorem z3g.next {t:T} {gs:List GC} {r i:Nat} (h:z3g t gs r i) (hl:Low t) (hr:r < t.rows.length) (hi:i < (t.rows.getD r dR).cells.length) :
  z3g t (gs ++ [z1y gs r i (z03 t r) ((t.rows.getD r dR).cells.getD i dC)]) r (i+1):=by
 obtain ⟨⟨h1,h2,h3,h4⟩,hp⟩:=h.part.next hl hr hi;refine ⟨hp,?_,?_⟩
 ·intro k hk;rw [List.length_append,List.length_singleton] at hk;by_cases hk2:k < gs.length
  ·exact (h.laid k hk2).snoc _ hk2
  ·obtain rfl:k=gs.length:=by omega
   have e2:∀ x:GC,(gs ++ [x]).take gs.length=gs:=λx=>by rw [z8c lR,List.take_length]
   refine ⟨?_,?_,?_,?_⟩
   ·rw [z3X,e2];exact ⟨r,i,hr,hi,rfl⟩
   ·rw [z3X,e2];exact h2
   ·rw [z3X,e2];intro c hc;rw [zgy] at hc;rw [zdY];exact h3 c (Int.ofNat_lt.1 hc)
   ·intro h0;rw [z3X,z6l (by omega)];exact h.last h0
 ·intro _;rw [List.length_append,List.length_singleton,Nat.add_sub_cancel,z3X];refine .inr ⟨rfl,?_⟩;show (i:Int)+1=((i+1:Nat):Int);omega
theorem z3g.zero (t:T):z3g t [] 0 0:=⟨z3Q.zero t,λ_ hk=>absurd hk (Nat.not_lt_zero _),λh=>absurd h (Nat.lt_irrefl _)⟩
theorem z3g.rowEnd {t:T} {gs:List GC} {r:Nat} (h:z3g t gs r (t.rows.getD r dR).cells.length):z3g t gs (r+1) 0:=by
 refine ⟨h.part.rowEnd,h.laid,λh0=>.inl ?_⟩
 rcases h.last h0 with h1 | ⟨h1,_⟩ <;> omega
theorem zcH {t:T} (hl:Low t) {r:Nat} (hr:r < t.rows.length) (h:z3g t (z0a t r) r 0):∀ i,i<=(t.rows.getD r dR).cells.length->z3g t (z1X (z03 t r) r (t.rows.getD r dR).cells (z0a t r) i) r i
 | 0,_=>h
 | i+1,hi=>z3g.next (zcH hl hr h i (by omega)) hl hr (by omega)
theorem zbm {t:T} (hl:Low t):∀ r,r<=t.rows.length->z3g t (z0a t r) r 0
 | 0,_=>z3g.zero t
 | r+1,hr=>(zcH hl (by omega) (zbm hl r (by omega)) _ lR).rowEnd
theorem z8K {t:T} (hl:Low t) {k:Nat} (hk:k < (zU t).length):zcG t (zU t) k:=(zbm hl _ lR).laid k hk
theorem z3Y {t:T} (hl:Low t) {a:GC} (ha:a ∈ zU t):z1z t.rows.length a:=((z6B hl _ lR).stands a ha).1
theorem z6V (m:Int) (a:GC) (gs:List GC):z0x m (a :: gs)=z0x (max m (a.col+a.cols)) gs:=rfl
theorem z3Z:∀ (gs:List GC) (m:Int),m<=z0x m gs
 | [],m=>Int.le_refl _
 | a :: gs,m=>by rw [z6V];exact Int.le_trans (Int.le_max_left _ _) (z3Z gs _)
theorem z7r:∀ {gs:List GC} {m:Int} {a:GC},a ∈ gs->a.col+a.cols<=z0x m gs
 | b :: gs,m,a,h=>by
  rw [z6V]
  rcases List.mem_cons.1 h with rfl | h
  ·exact Int.le_trans (Int.le_max_right _ _) (z3Z gs _)
  ·exact z7r h
theorem zbn:∀ {gs:List GC} {m B:Int},m<=B->(∀ a ∈ gs,a.col+a.cols<=B)->z0x m gs<=B
 | [],m,B,h,_=>h
 | a :: gs,m,B,h,h2=>by
  rw [z6V];exact zbn (Int.max_le.2 ⟨h,h2 a (by simp)⟩) (λb hb=>h2 b (by simp [hb]))
theorem z94 {t:T} (hl:Low t) (hc:t.cols.length<=8):1<=z0x (max 1 (t.cols.length:Int)) (zU t)/\z0x (max 1 (t.cols.length:Int)) (zU t)<=88/\(t.cols.length:Int)<=z0x (max 1 (t.cols.length:Int)) (zU t):=by
 have h1:=z3Z (zU t) (max 1 (t.cols.length:Int));have h2:z0x (max 1 (t.cols.length:Int)) (zU t)<=88:=zbn (by omega) (λa ha=>by have:=z3Y hl ha;unfold z1z at this;omega);omega
theorem z95 {t:T} (hl:Low t) {a:GC} (ha:a ∈ zU t):z18 t.rows.length (z0x (max 1 (t.cols.length:Int)) (zU t)) a=true:=by
 have h1:=z3Y hl ha;have h2:=z7r (m:=max 1 (t.cols.length:Int)) ha;unfold z1z at h1;simp only [z18,zM,Bool.and_eq_true,decide_eq_true_eq];omega
theorem zgz {t:T} (hl:Low t) (hr:1<=t.rows.length) (hc:t.cols.length<=8):okB ⟨t.rows.length,z0x (max 1 (t.cols.length:Int)) (zU t),zU t⟩=true:=by
 have hb:=z94 hl hc;have h8:=hl.rows;have hlen:=z7q hl t.rows.length;unfold okB;rw [Bool.and_eq_true];constructor
 ·refine z83 ?_ ?_ ?_
  ·simp [zM];omega
  ·simp [zM];omega
  ·show (z0a t t.rows.length).length<=40;omega
 ·refine List.all_eq_true.2 (λi hi=>?_);have hi:i < (zU t).length:=List.mem_range.1 hi;rw [Bool.and_eq_true];exact ⟨z95 hl (z2q hi),(z8K hl hi).free⟩
end
section
open Go.RowKit
def TA (w:World) (z:Nat) (ac ar:Option Addr) (cc cr:Nat) (t:T):Prop:=z09 w z (.slice ac t.cols.length cc) t.cols/\z05 w z (.slice ar t.rows.length cr) t.rows
theorem TA.kept {w w':World} {z:Nat} {ac ar:Option Addr} {cc cr:Nat} {t:T} (h:TA w z ac ar cc cr t) (hb:Below w.heap.size w w'):TA w' z ac ar cc cr t:=⟨h.1.kept hb,h.2.kept hb⟩
def St (w:World) (tb:Nat) (ac ar:Option Addr) (cc cr:Nat) (t:T) (W:World):Prop:=Below w.heap.size w W/\TA W w.heap.size ac ar cc cr t/\W.heap[tb]?=some (.cells #[.slice ac t.cols.length cc,int i64 t.head,int i64 t.foot,.slice ar t.rows.length cr,int i64 t.gap] 26)
theorem St.kept {w W W':World} {tb:Nat} {ac ar:Option Addr} {cc cr:Nat} {t:T} (h:St w tb ac ar cc cr t W) (hb:Below W.heap.size W W'):St w tb ac ar cc cr t W' :=
 ⟨h.1.trans (hb.mono h.1.size),h.2.1.kept hb,(hb.block tb (bL h.2.2)).trans h.2.2⟩
theorem St.at {w W:World} {tb:Nat} {ac ar:Option Addr} {cc cr:Nat} {t:T} (h:St w tb ac ar cc cr t W):(W.cell? ⟨tb,0,none⟩=some (.slice ac t.cols.length cc)/\W.cell? ⟨tb,1,none⟩=some (int i64 t.head)/\W.cell? ⟨tb,2,none⟩=some (int i64 t.foot)/\W.cell? ⟨tb,3,none⟩=some (.slice ar t.rows.length cr)/\W.cell? ⟨tb,4,none⟩=some (int i64 t.gap)):=(z2b h.2.2).1
theorem z73 {t:T} (hD:z0g t):∀ x ∈ (Z t).cells,GOk x:=by
 unfold Z
 split
 ·rename_i h
  have hl:=z3S h hD;exact λx hx=>(z3Y hl hx).gok hl.rows
 ·intro x hx
  cases hx
def SGr (w:World) (tb gb:Nat) (ac ar:Option Addr) (cc cr:Nat) (t:T) (ag:Option Addr) (cg:Nat) (W:World):Prop :=
 St w tb ac ar cc cr t W/\z1K W w.heap.size (.slice ag (Z t).cells.length cg) (Z t).cells/\W.heap[gb]?=some (.cells #[int i64 (Z t).rows,int i64 (Z t).cols,.slice ag (Z t).cells.length cg] 38)
theorem SGr.kept {w W W':World} {tb gb:Nat} {ac ar ag:Option Addr} {cc cr cg:Nat} {t:T} (h:SGr w tb gb ac ar cc cr t ag cg W) (hb:Below W.heap.size W W'):SGr w tb gb ac ar cc cr t ag cg W' :=
 ⟨h.1.kept hb,h.2.1.kept hb,(hb.block gb (bL h.2.2)).trans h.2.2⟩
theorem SGr.at {w W:World} {tb gb:Nat} {ac ar ag:Option Addr} {cc cr cg:Nat} {t:T} (h:SGr w tb gb ac ar cc cr t ag cg W):W.cell? ⟨gb,0,none⟩=some (int i64 (Z t).rows)/\W.cell? ⟨gb,1,none⟩=some (int i64 (Z t).cols)/\W.cell? ⟨gb,2,none⟩=some (.slice ag (Z t).cells.length cg) :=
 ⟨zf h.2.2,zf h.2.2,zf h.2.2⟩
theorem z5L {w:World} {base:Nat} {v:Value} {gs:List GC} (h:z9l w base v gs):∃ a cap,v=.slice a gs.length cap:=by
 rcases h.2 with ⟨rfl,hn⟩ | ⟨g,cap,cur,rfl,_⟩
 ·exact ⟨none,0,by rw [hn]⟩
 ·exact ⟨_,cap,rfl⟩
theorem z2z {t:T} (h:zF t=true):Z t=⟨t.rows.length,z0x (max 1 (t.cols.length:Int)) (zU t),zU t⟩:=by unfold Z;rw [if_pos h]
theorem zcI {t:T} (h:zF t=false):Z t=⟨0,0,[]⟩:=by unfold Z;rw [if_neg (by rw [h];simp)]
def SCe (w:World) (tb gb cb:Nat) (ac ar:Option Addr) (cc cr:Nat) (t:T) (ag:Option Addr) (cg:Nat) (x:GC) (W:World):Prop :=
 SGr w tb gb ac ar cc cr t ag cg W/\W.heap[cb]?=some (.cells #[int i64 x.row,int i64 x.col,int i64 x.rows,int i64 x.cols,int i64 x.ins] 51)
theorem SCe.kept {w W W':World} {tb gb cb:Nat} {ac ar ag:Option Addr} {cc cr cg:Nat} {t:T} {x:GC} (h:SCe w tb gb cb ac ar cc cr t ag cg x W) (hb:Below W.heap.size W W'):SCe w tb gb cb ac ar cc cr t ag cg x W' :=
 ⟨h.1.kept hb,(hb.block cb (bL h.2)).trans h.2⟩
theorem SCe.at {w W:World} {tb gb cb:Nat} {ac ar ag:Option Addr} {cc cr cg:Nat} {t:T} {x:GC} (h:SCe w tb gb cb ac ar cc cr t ag cg x W):W.cell? ⟨cb,0,none⟩=some (int i64 x.row)/\W.cell? ⟨cb,1,none⟩=some (int i64 x.col)/\W.cell? ⟨cb,2,none⟩=some (int i64 x.rows)/\W.cell? ⟨cb,3,none⟩=some (int i64 x.cols)/\W.cell? ⟨cb,4,none⟩=some (int i64 x.ins) :=
 ⟨zf h.2,zf h.2,zf h.2,zf h.2,zf h.2⟩
def zj3 (x:GC):Prop:=(0<=x.row/\x.row<=8)/\(0<=x.col/\x.col<=84)/\(1<=x.rows/\x.rows<=3)/\(1<=x.cols/\x.cols<=4)/\0<=x.ins/\x.ins<=4
theorem z1z.small {n:Nat} {a:GC} (hn:n<=8) (h:z1z n a):zj3 a:=by
 unfold z1z at h;unfold zj3;omega
theorem zif {w:World} {base:Nat} {e:TypeId} {n cap g:Nat} {xs:List Value} (h:w.ownsRow base e 1 (.slice (some ⟨g,0,none⟩) n cap) n xs):∀ j u,xs[j]?=some u->w.cell? ((⟨g,0,none⟩:Addr).add j)=some u:=by
 intro j u hj
 rcases h.2 with ⟨e,_⟩ | ⟨g',cap',cur,e,hb,hg,h1,h2,h3,h4⟩
 ·cases e
 ·simp only [Value.slice.injEq,Option.some.injEq,Addr.mk.injEq,and_true,true_and] at e;obtain ⟨rfl,rfl⟩:=e
  have hjn:j < n:=by
   have:=(List.getElem?_eq_some_iff.1 hj).1;rw [h.1] at this;omega
  rw [<-h4,List.getElem?_take_of_lt (by omega)] at hj;have e2:(⟨g,0,none⟩:Addr).add j=⟨g,j,none⟩:=(by simp [Addr.add];intro h;exact h.symm);rw [e2,zf hg,<-Array.getElem?_toList,hj]
theorem z2r {w w':World} {base:Nat} {e:TypeId} {sz:Nat} {v:Value} {m:Nat} {xs:List Value} (h:w.ownsRow base e sz v m xs) (hb:Below w.heap.size w w'):w'.ownsRow base e sz v m xs :=
 ⟨h.1,h.2.elim Or.inl (λ⟨g,cap,cur,hv,hg,hc,r⟩=>Or.inr ⟨g,cap,cur,hv,hg,(hb.block g (bL hc)).trans hc,r⟩)⟩
theorem zO.cell1 {w:World} {B:Nat} {us:List Value} {ls:List (List zk)} (h:zO w B us ls):∀ u ∈ us,u.oneCell'=true:=by
 intro u hu;obtain ⟨i,hi,rfl⟩:=List.mem_iff_getElem.1 hu;obtain ⟨a,c,e⟩:=(h.2 i (by rw [<-h.1];exact hi)).form;have e2:us.getD i (.slice none 0 0)=us[i]:=(by simp [List.getD,hi]);rw [<-e2,e];rfl
structure PH (w:World) (z:Nat) (ac ar:Option Addr) (cc cr:Nat) (t:T) (hs:List Int) (vh vb:Value) (bl:List Int) (W:World):Prop where
 below:Below w.heap.size w W
 box:W.heap[w.heap.size]?=some (.cells #[.slice ac t.cols.length cc,int i64 t.head,int i64 t.foot,.slice ar t.rows.length cr,int i64 t.gap] 26)
 ta:TA W z ac ar cc cr t
 hts:zA W vh hs
 bnd:zA W vb bl
theorem PH.kept {w:World} {z:Nat} {ac ar:Option Addr} {cc cr:Nat} {t:T} {hs:List Int} {vh vb:Value} {bl:List Int} {W W':World} (h:PH w z ac ar cc cr t hs vh vb bl W) (k:Below W.heap.size W W'):PH w z ac ar cc cr t hs vh vb bl W' :=
 ⟨zi h.below k,(k.block _ (bL h.box)).trans h.box,h.ta.kept k,h.hts.kept k,h.bnd.kept k⟩
theorem zcJ (ac ar:Option Addr) (cc cr:Nat) (t:T) (hD:z0g t) (htk:zF t=true) (hs:List Int) (hl:hs.length=t.rows.length) (hb:∀ x ∈ hs,0<=x/\x<=1000) (v:Value) (w:World) {z:Nat} (hc:z09 w z (.slice ac t.cols.length cc) t.cols) (hr:z05 w z (.slice ar t.rows.length cr) t.rows) (hv:zA w v hs) :
  Calls prog 40 #[.agg #[.slice ac t.cols.length cc,int i64 t.head,int i64 t.foot,.slice ar t.rows.length cr,int i64 t.gap],v] w λe w'=>∃ u us,e=.returned u/\w'.ownsRow w.heap.size 41 1 u us.length us/\zO w' w.heap.size us (z0B t hs)/\Below w.heap.size w w':=by
 obtain ⟨i0,hi0,hz0,hz1,hz2⟩:=info_parts z5i;obtain ⟨j0,hj0,hy0,hy1,hy2⟩:=info_parts z9T;obtain ⟨av,cv,rfl,_⟩:=hv.form;rw [hl] at hv |-;have HK0:=O (ze (Below.refl w.heap.size w) (.cells #[.slice ac t.cols.length cc,int i64 t.head,int i64 t.foot,.slice ar t.rows.length cr,int i64 t.gap] 26));have HX0:=O (zj w (.cells #[.slice ac t.cols.length cc,int i64 t.head,int i64 t.foot,.slice ar t.rows.length cr,int i64 t.gap] 26));have HT0:Hid (TA w z ac ar cc cr t):=⟨hc,hr⟩;have HV0:=O hv;have hs0:(w.alloc (.cells #[.slice ac t.cols.length cc,int i64 t.head,int i64 t.foot,.slice ar t.rows.length cr,int i64 t.gap] 26)).heap.size=w.heap.size+1:=(by simp);have hR8:=z0R htk;have HGk:=O (z73 hD);have KG:=O (λW (h:TA W z ac ar cc cr t)=>z6C ac ar cc cr t hD W h.1 h.2);have HGr:Hid ((Z t).rows=(t.rows.length:Int)):=O (by rw [z2z htk])
 have HFc:Hid (∀ row,z51 (Z t).cells row=z2f (Z t).cells row):=O (λrow=>by
  refine zi0 (R:=t.rows.length) (C:=z0x (max 1 (t.cols.length:Int)) (zU t)) (λa ha=>?_) row;rw [z2z htk] at ha;exact z95 (z3S htk hD) ha)
 have KP:=O (λW (q:Int) (h:TA W z ac ar cc cr t)=>z93 ac ar cc cr t q W h.1 h.2);have HB:=O hb;have HL:=O hl;clear hc hr hv hl hb;go_enter func40,ntmps40;go_upto_region 2 with fail
 generalize w.alloc (.cells #[.slice ac t.cols.length cc,int i64 t.head,int i64 t.foot,.slice ar t.rows.length cr,int i64 t.gap] 26)=W0 at HK0 HX0 hs0 |-;obtain ⟨b0,b1,b2,b3,b4⟩:=zL HX0.out;go_wp2_with fail
 refine (KG.out _ (HT0.out.kept HK0.out)).mono ?_;rintro e w1 ⟨vg,rfl,hO1,hb1⟩;obtain ⟨ag,cg,rfl⟩:=z5L hO1;rw [HGr.out];have HG1:=O (hO1.at HGk.out);have HX1:=O ((hb1.block w.heap.size (by omega)).trans HX0.out);have HK1:=O (zi HK0.out hb1);have hs1:w.heap.size < w1.heap.size:=(by have:=hb1.size;omega);clear hb1 hO1 b0 b1 b2 b3 b4 KG HX0 HK0;go_wp2_with fail
 refine (zcx t.rows.length (by omega) (Z t).cols ag cg (Z t).cells HFc.out w1 HG1.out).mono ?_;rintro e w2 ⟨vb,rfl,hI2,hb2⟩;obtain ⟨ab0,cb0,rfl⟩:=hI2.form;have hO2:=hI2.owns;have HX2:=O ((hb2.block w.heap.size hs1).trans HX1.out);have HK2:=O (zi HK1.out hb2);have hs2:w.heap.size < w2.heap.size:=(by have:=hb2.size;omega);have hs12:=hb2.size;have hbl:=z3e (Z t).cells t.rows.length;have HL2:=O (z5o (Z t).cells t.rows.length);have HL3:=O (λ(k:Nat)=>zcD (gs:=(Z t).cells) (R:=t.rows.length) (k:=k));have HL4:=O (λ(k:Nat)=>z3T (gs:=(Z t).cells) (R:=t.rows.length) (k:=k));have HPT:Hid (z0B t hs=z1h t hs (z0l (Z t).cells t.rows.length) (zQ (Z t).cells t.rows.length).length):=O rfl;have HPL:Hid (∀ k,(z1h t hs (z0l (Z t).cells t.rows.length) k).length<=1000 * k):=O (λk=>z89 HB.out _ k);generalize z0l (Z t).cells t.rows.length=L at HL2 HL3 HL4 HPT HPL;generalize zQ (Z t).cells t.rows.length=bs at hI2 hO2 hbl HL2 HL3 HPT;clear hb2 HX1 HK1 HG1 hI2 HFc;go_wp2_with (at_builtin;refine wpList_append_own _ rfl _ _ 27 rfl w1.heap.size 3 j0 (int i64 0) 1 8 underlying27 hj0 hy0 hy1 hy2 rfl (by decide) _ _ _ rfl (hO2.alloc _) ⟨w2.heap.size,0,none⟩ 1 1 [int i64 (t.rows.length:Int)] rfl rfl ?d1 ?d2 ?d3 ?d4 ?d5 ?_)
 case d1=>exact z0K (zj w2 (.cells #[int i64 (t.rows.length:Int)] 3))
 case d2=>simp [Value.oneCell']
 case d3=>unfold maxLen;omega
 case d4=>omega
 case d5=>simp;omega
 intro v5 w5 hown5 hgrow5 _;have hK5:Below w.heap.size w w5:=(ze HK2.out _).grown hgrow5 (by simp;omega) (λb hb=>by have:=(hO2.lt b hb).1;have:=HK2.out.size;omega);have hI5:zA w5 v5 (bs ++ [(t.rows.length:Int)]):=(zq.of_owns (B:=w1.heap.size) (l:=bs ++ [(t.rows.length:Int)]) (by simpa using hown5)).at;have hne5:some w.heap.size ≠ (Value.slice ab0 bs.length cb0).ownBlock:=λe=>by have:=(hO2.lt _ e.symm).1;omega
 have hX5:=(hgrow5.block w.heap.size (by simp;omega) hne5).trans ((bA hs2).trans HX2.out);have HP5:Hid (PH w z ac ar cc cr t hs (.slice av t.rows.length cv) v5 (bs ++ [(t.rows.length:Int)]) w5):=O ⟨hK5,hX5,HT0.out.kept hK5,HV0.out.kept hK5,hI5⟩;obtain ⟨g5,cap5,rfl⟩:=Joins.ownsRow_form hown5 (by omega)
 have hc5:bs.length+1<=cap5/\cap5<=9223372036854775807:=by
  obtain ⟨_,c,e,h1,h2,_⟩:=hI5;simp only [Value.slice.injEq] at e;obtain ⟨_,_,rfl⟩:=e;unfold maxLen at h2;rw [List.length_append,List.length_cons,List.length_nil] at h1;omega
 clear hK5 hI5 hne5 hX5 hown5 hgrow5 hO2 HK2 HX2 HT0 HV0 hs1;go_wp2_with fail
 go_loopw [5,23] (λo i W=>∃ (k:Nat) (us:List Value) (vo:Value),k<=bs.length/\i=int i64 (k:Int)/\o=vo/\Hid (W.ownsRow w5.heap.size 41 1 vo us.length us)/\Hid (zO W w5.heap.size us (z1h t hs L k))/\Hid (Below w5.heap.size w5 W)) (λ_ i _=>bs.length - (intOf i).toNat)
 case atStart=>exact ⟨0,[],_,nZ,rfl,rfl,⟨rfl,.inl ⟨rfl,rfl⟩⟩,zO.nil _ _,bR⟩
 case round =>
  obtain ⟨k,us,vo,hk,rfl,rfl,HO,HP,HBk⟩:=hrel
  have hub:us.length<=1000 * k:=by
   have:=HP.out.1;have:=HPL.out k;omega
  have HUl:=O HP.out.1;have HPr:=O (HP5.out.kept HBk.out);obtain ⟨ao,co,rfl,_⟩:=zP HO.out;by_cases hlt:k < bs.length
  case neg =>
   obtain rfl:k=bs.length:=by omega
   have hsz:=HP5.out.below.size;go_wp2;go_ret;exact ⟨_,us,rfl,z3O HO.out hsz,by rw [HPT.out];exact HP.out.base hsz,HPr.out.below⟩
  obtain ⟨s1,s2⟩:=HL4.out k (by rw [HL2.out];omega);have HA:=O (show L.getD k 0=L.getD k 0 from rfl);obtain ⟨a,ha⟩:∃ a,L.getD k 0=a:=⟨_,rfl⟩;obtain ⟨m,hm⟩:∃ m,L.getD (k+1) 0=a+m:=⟨L.getD (k+1) 0 - a,by omega⟩;have x1:=(HPr.out.bnd.get (i:=k) (by simp;omega));have x2:=(HPr.out.bnd.get (i:=k+1) (by simp;omega));rw [HL3.out k (by rw [HL2.out];omega),ha] at x1;rw [HL3.out (k+1) (by rw [HL2.out];omega),hm] at x2;rw [ha,hm] at s1;rw [hm] at s2;replace HA:=O ha;have HA2:=O hm;obtain ⟨gx,ox,cx,e',hz1,hz2,hz3,x1⟩:=x1;clear hz1 hz2 hz3;simp only [Value.slice.injEq,Option.some.injEq,Addr.mk.injEq,and_true] at e';obtain ⟨⟨rfl,rfl⟩,hz,rfl⟩:=e';clear hz;obtain ⟨gx,ox,cx,e',hz1,hz2,hz3,x2⟩:=x2;clear hz1 hz2 hz3;simp only [Value.slice.injEq,Option.some.injEq,Addr.mk.injEq,and_true] at e';obtain ⟨⟨rfl,rfl⟩,hz,rfl⟩:=e';clear hz;have hm1:1<=m:=(by omega);have hla:a+m<=hs.length:=(by rw [HL.out];exact s2);rw [Nat.zero_add] at x1 x2;obtain ⟨b0,b1,b2,b3,b4⟩:=zL HPr.out.box;have KQ:=O (KP.out wr (a:Int) HPr.out.ta);have HFA:=O (λ(h:¬ z0j t (a:Int)=1)=>zaL (hs:=hs) (b:=a+m) h);have HFB:=O (λ(h:z0j t (a:Int)=1) h2=>zaM (hs:=hs) (b:=a+m) h h2);have HFC:=O (λ(h:z0j t (a:Int)=1) h2=>z88 (hs:=hs) (b:=a+m) h h2);have hsub:a+m - a=m:=(by omega);rw [hsub] at HFB HFC;clear ha hm s1 hsub;by_cases hp:z0j t (a:Int)=1
  case neg =>
   have HS:=O (HFA.out hp);have hp2:(z0j t (a:Int) != 1)=true:=bne_iff_ne.2 hp;clear HFA HFB HFC;go_wp2_with fail
   refine KQ.out.mono ?_;rintro e w2 ⟨rfl,hb2⟩;have HO2:=O (z2r HO.out hb2)
   have HP2:Hid (zO w2 w5.heap.size us (z1h t hs L (k+1))):=O (by
    rw [z1h,HA.out,HA2.out,HS.out,List.append_nil];exact HP.out.kept hb2)
   have HB2:=O (zi HBk.out hb2);clear hb2 b0 b1 b2 b3 b4 x1 x2;go_wp2;go_roundw
   case rel=>exact ⟨k+1,us,_,by omega,by go_num,rfl,HO2,HP2,HB2⟩
   case measure=>simp [intOf];omega
  replace HFB:=O (HFB.out hp);replace HFC:=O (HFC.out hp);rw [hp] at KQ;clear hp HFA;go_wp2_with fail
  refine KQ.out.mono ?_;rintro e w2 ⟨rfl,hb2⟩;replace HO:=O (z2r HO.out hb2);replace HP:=O (HP.out.kept hb2);replace HBk:=O (zi HBk.out hb2);have hK2:=HPr.out.kept hb2;have hsz2:=HBk.out.size;clear hb2 b0 b1 b2 b3 b4 KQ HPr;have hx:=(hK2.bnd.get (i:=k+1) (by simp;omega));rw [HL3.out (k+1) (by rw [HL2.out];omega),HA2.out,Int.natCast_add] at hx;obtain ⟨gx,ox,cx,e',hz1,hz2,hz3,x3⟩:=hx;clear hz1 hz2 hz3;simp only [Value.slice.injEq,Option.some.injEq,Addr.mk.injEq,and_true] at e';obtain ⟨⟨rfl,rfl⟩,hz,rfl⟩:=e';clear hz x1 x2;rw [Nat.zero_add] at x3;have KW:=O (z7P hs a m hla (by have:=HL.out;omega) _ w2 hK2.hts);have HPk:=O hK2;have HLn:=O (z1b hs m a)
  have HEd:Hid ((zT hs a m).getD 0 dP=⟨(a:Int),0,hs.getD a 0⟩):=O (by
   obtain ⟨q,rfl⟩:∃ q,m=q+1:=⟨m - 1,by omega⟩
   rfl)
  have hya:0<=hs.getD a 0/\hs.getD a 0<=1000:=HB.out _ (by
   have h:a < hs.length:=(by omega);simp [List.getD,h])
  clear hK2;go_wp2_with fail
  refine KW.out.mono ?_;rintro e w3 ⟨ub,rfl,hU,hb3⟩;obtain ⟨ab,cb,rfl⟩:=hU.form;rw [HLn.out] at hU |-;have HO3:=O (z2r HO.out hb3);have HP3:=O (HP.out.kept hb3);have HB3:=O (zi HBk.out hb3);have hsz3:=HB3.out.size;have hK3:=HPk.out.kept hb3;have HU:=O (hU.base hsz2);obtain ⟨e0,e1,e2,e3,e4⟩:=zL hK3.box;obtain ⟨br,offr,capr,er,r1,r2,r3,ur,r4,r5,r6⟩:=hK3.ta.2.get (i:=a) (by have:=HL.out;omega);simp only [Value.slice.injEq] at er;obtain ⟨er,hz,rfl⟩:=er;clear hz r3 r4 r6;obtain ⟨bh,oh,ch,eh,q1,q2,q3,q4⟩:=hK3.hts.get (i:=a) (by omega);simp only [Value.slice.injEq] at eh;obtain ⟨eh,hz,rfl⟩:=eh;clear hz q3;obtain ⟨bb,ob,cbb,eb,p1,p2,p3,p4,p5,p6⟩:=At.get hU.at (i:=0) (by rw [HLn.out];omega);simp only [Value.slice.injEq] at eb;obtain ⟨eb,hz,rfl⟩:=eb;rw [HEd.out] at p4 p5 p6;rw [HLn.out] at p1;simp only [Nat.zero_mul,Nat.add_zero] at p4 p5 p6;subst er eh eb;clear hz p3 hb3 hU hK3 HO HP HBk HPk KW x3 HLn HEd HB;unfold maxLen at r2 q2 p2;have hln:=HL.out;generalize hs.getD a 0=y at q4 p6 HFB HFC hya;generalize (t.rows.getD a dR).whole=wh at r5 HFB HFC;rw [hln] at q1;clear hln;by_cases hm2:m=1
  ·subst hm2
   cases wh with
   | false =>
    by_cases h0:0 < y
    ·obtain ⟨n,rfl⟩:∃ n:Nat,y=n:=⟨y.toNat,by omega⟩;have HE:=O (HFB.out ⟨⟨rfl,rfl⟩,h0⟩);rw [Int.toNat_natCast] at HE;clear HFB HFC;go_wp2_with fail
     refine (zdQ (a:Int) n (by omega) w3).mono ?_;rintro e w6 ⟨v6,us6,rfl,hO6,hP6,hb6⟩;have HU6:=O (hP6.1.trans (zeX (a:Int) 0 n));obtain ⟨g6,cap6,rfl⟩:=Joins.ownsRow_form hO6 (by rw [HU6.out];omega);rw [HU6.out] at hO6 |-;have hO3':=z2r HO3.out hb6;have HP6':=O (HP3.out.kept hb6);have HB6:=O (zi HB3.out hb6);have HO6:=O hO6;have HP6:=O hP6;have hs6:=hb6.size;clear hb6 hP6 HO3 HP3 HB3;go_wp2_with (at_builtin;refine wpList_append_own _ rfl _ _ 30 rfl w5.heap.size 41 i0 _ 1 24 underlying30 hi0 hz0 hz1 hz2 rfl (by decide) _ _ _ rfl hO3' ⟨g6,0,none⟩ n cap6 us6 rfl (by rw [HU6.out];omega) ?c1 ?c2 ?c3 ?c4 ?c5 ?_)
     case c1=>exact zif HO6.out
     case c2=>exact HP6.out.cell1
     case c3=>unfold maxLen;omega
     case c4=>omega
     case c5=>omega
     intro v' w4 hown' hgrow' _;have HB4:=O (HB6.out.grown hgrow' (by omega) (λb hb=>(hO3'.lt b hb).1))
     have HP4:Hid (zO w4 w5.heap.size (us ++ us6) (z1h t hs L (k+1))):=O (by
      rw [z1h,HA.out,HA2.out,HE.out];exact (HP6'.out.grown hO3' hgrow').app ((HP6.out.base (by omega)).grown hO3' hgrow'))
     have HO4:Hid (w4.ownsRow w5.heap.size 41 1 v' (us ++ us6).length (us ++ us6)):=O (by rw [List.length_append,HU6.out];exact hown');obtain ⟨g',cap',rfl⟩:=Joins.ownsRow_form hown' (by omega);clear hown' hgrow' hO3' HB6 HP6 HP6' HO6 HU HE e0 e1 e2 e3 e4;go_wp2;go_roundw
     case rel=>exact ⟨k+1,_,_,by omega,by go_num,rfl,HO4,HP4,HB4⟩
     case measure=>simp [intOf];omega
    ·have HE:=O (HFC.out (λh=>h0 h.2));clear HFB HFC;go_wp2_with (at_builtin;refine wpList_append_own _ rfl _ _ 30 rfl w5.heap.size 41 i0 _ 1 24 underlying30 hi0 hz0 hz1 hz2 rfl (by decide) _ _ _ rfl (HO3.out.alloc _) ⟨w3.heap.size,0,none⟩ 1 1 [.slice (some ⟨bb,ob,none⟩) 1 cb] rfl rfl ?c1 ?c2 ?c3 ?c4 ?c5 ?_)
     case c1=>exact z0K (zj w3 (.cells #[.slice (some ⟨bb,ob,none⟩) 1 cb] 41))
     case c2=>simp [Value.oneCell']
     case c3=>unfold maxLen;omega
     case c4=>omega
     case c5=>simp;omega
     intro v' w4 hown' hgrow' _;have KA:=ze (Below.refl w3.heap.size w3) (.cells #[.slice (some ⟨bb,ob,none⟩) 1 cb] 41);have hOA:=HO3.out.alloc (.cells #[.slice (some ⟨bb,ob,none⟩) 1 cb] 41);have HB4:=O ((ze HB3.out (.cells #[.slice (some ⟨bb,ob,none⟩) 1 cb] 41)).grown hgrow' (by simp;omega) (λb hb=>(hOA.lt b hb).1))
     have HP4:Hid (zO w4 w5.heap.size (us ++ [.slice (some ⟨bb,ob,none⟩) 1 cb]) (z1h t hs L (k+1))):=O (by
      rw [z1h,HA.out,HA2.out,HE.out];exact ((HP3.out.kept KA).grown hOA hgrow').app (zO.one ((HU.out.kept KA).grown hOA hgrow')))
     have HO4:Hid (w4.ownsRow w5.heap.size 41 1 v' (us ++ [(Value.slice (some ⟨bb,ob,none⟩) 1 cb)]).length (us ++ [(Value.slice (some ⟨bb,ob,none⟩) 1 cb)])):=O (by rw [List.length_append];exact hown');obtain ⟨g',cap',rfl⟩:=Joins.ownsRow_form hown' (by omega);clear hown' hgrow' HO3 HB3 HP3 hOA KA HU HE e0 e1 e2 e3 e4;go_wp2;go_roundw
     case rel=>exact ⟨k+1,_,_,by omega,by go_num,rfl,HO4,HP4,HB4⟩
     case measure=>simp [intOf];omega
   | true =>
    have HE:=O (HFC.out (λh=>by cases h.1.2));clear HFB HFC;go_wp2_with (at_builtin;refine wpList_append_own _ rfl _ _ 30 rfl w5.heap.size 41 i0 _ 1 24 underlying30 hi0 hz0 hz1 hz2 rfl (by decide) _ _ _ rfl (HO3.out.alloc _) ⟨w3.heap.size,0,none⟩ 1 1 [.slice (some ⟨bb,ob,none⟩) 1 cb] rfl rfl ?c1 ?c2 ?c3 ?c4 ?c5 ?_)
    case c1=>exact z0K (zj w3 (.cells #[.slice (some ⟨bb,ob,none⟩) 1 cb] 41))
    case c2=>simp [Value.oneCell']
    case c3=>unfold maxLen;omega
    case c4=>omega
    case c5=>simp;omega
    intro v' w4 hown' hgrow' _;have KA:=ze (Below.refl w3.heap.size w3) (.cells #[.slice (some ⟨bb,ob,none⟩) 1 cb] 41);have hOA:=HO3.out.alloc (.cells #[.slice (some ⟨bb,ob,none⟩) 1 cb] 41);have HB4:=O ((ze HB3.out (.cells #[.slice (some ⟨bb,ob,none⟩) 1 cb] 41)).grown hgrow' (by simp;omega) (λb hb=>(hOA.lt b hb).1))
    have HP4:Hid (zO w4 w5.heap.size (us ++ [.slice (some ⟨bb,ob,none⟩) 1 cb]) (z1h t hs L (k+1))):=O (by
     rw [z1h,HA.out,HA2.out,HE.out];exact ((HP3.out.kept KA).grown hOA hgrow').app (zO.one ((HU.out.kept KA).grown hOA hgrow')))
    have HO4:Hid (w4.ownsRow w5.heap.size 41 1 v' (us ++ [(Value.slice (some ⟨bb,ob,none⟩) 1 cb)]).length (us ++ [(Value.slice (some ⟨bb,ob,none⟩) 1 cb)])):=O (by rw [List.length_append];exact hown');obtain ⟨g',cap',rfl⟩:=Joins.ownsRow_form hown' (by omega);clear hown' hgrow' HO3 HB3 HP3 hOA KA HU HE e0 e1 e2 e3 e4;go_wp2;go_roundw
    case rel=>exact ⟨k+1,_,_,by omega,by go_num,rfl,HO4,HP4,HB4⟩
    case measure=>simp [intOf];omega
  ·have HE:=O (HFC.out (λh=>hm2 h.1.1));have hme:((m:Int) == 1)=false:=beq_eq_false_iff_ne.2 (by omega);clear HFB HFC;go_wp2_with (at_builtin;refine wpList_append_own _ rfl _ _ 30 rfl w5.heap.size 41 i0 _ 1 24 underlying30 hi0 hz0 hz1 hz2 rfl (by decide) _ _ _ rfl (HO3.out.alloc _) ⟨w3.heap.size,0,none⟩ 1 1 [.slice (some ⟨bb,ob,none⟩) m cb] rfl rfl ?c1 ?c2 ?c3 ?c4 ?c5 ?_)
   case c1=>exact z0K (zj w3 (.cells #[.slice (some ⟨bb,ob,none⟩) m cb] 41))
   case c2=>simp [Value.oneCell']
   case c3=>unfold maxLen;omega
   case c4=>omega
   case c5=>simp;omega
   intro v' w4 hown' hgrow' _;have KA:=ze (Below.refl w3.heap.size w3) (.cells #[.slice (some ⟨bb,ob,none⟩) m cb] 41);have hOA:=HO3.out.alloc (.cells #[.slice (some ⟨bb,ob,none⟩) m cb] 41);have HB4:=O ((ze HB3.out (.cells #[.slice (some ⟨bb,ob,none⟩) m cb] 41)).grown hgrow' (by simp;omega) (λb hb=>(hOA.lt b hb).1))
   have HP4:Hid (zO w4 w5.heap.size (us ++ [.slice (some ⟨bb,ob,none⟩) m cb]) (z1h t hs L (k+1))):=O (by
    rw [z1h,HA.out,HA2.out,HE.out];exact ((HP3.out.kept KA).grown hOA hgrow').app (zO.one ((HU.out.kept KA).grown hOA hgrow')))
   have HO4:Hid (w4.ownsRow w5.heap.size 41 1 v' (us ++ [(Value.slice (some ⟨bb,ob,none⟩) m cb)]).length (us ++ [(Value.slice (some ⟨bb,ob,none⟩) m cb)])):=O (by rw [List.length_append];exact hown');obtain ⟨g',cap',rfl⟩:=Joins.ownsRow_form hown' (by omega);clear hown' hgrow' HO3 HB3 HP3 hOA KA HU HE e0 e1 e2 e3 e4;go_wp2;go_roundw
   case rel=>exact ⟨k+1,_,_,by omega,by go_num,rfl,HO4,HP4,HB4⟩
   case measure=>simp [intOf];omega
end
section

end
end Go.Proofs.YtggmjiddadjilahGreat
