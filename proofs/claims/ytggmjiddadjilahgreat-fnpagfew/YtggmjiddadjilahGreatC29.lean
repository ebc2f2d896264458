/-
  PROVED HERE: what the program's GrdBlocks answers at a grid that lies in memory, and that its answer owns its memory; nothing that was in memory is turned. Also: 6 more texts of the same proof.
-/
import Derived.Test.YtggmjiddadjilahGreatC19
import Derived.Test.YtggmjiddadjilahGreatC17
set_option maxRecDepth 1000000
set_option maxHeartbeats 40000000
namespace Go.Proofs.YtggmjiddadjilahGreat
section
open Go.RowKit
def z4h (row:Int) (x:GC):Bool:=decide (x.row < row) && z0I row x.row x.rows
def z22 (row:Int) (x:GC):Bool:=decide (x.row < row) && decide (row < x.row+x.rows)
theorem ziD {R C:Int} {x:GC} (h:z0W R C x=true) (row:Int):z4h row x=z22 row x:=by
 obtain ⟨e1,e2,e3,e4,h1,h2,h3,h4⟩:=z3Y h;rw [Bool.eq_iff_iff];simp [z4h,z22,z0I];omega
def z4P (gs:List GC) (row:Int):Bool:=gs.any (z4h row)
def z26 (gs:List GC) (row:Int):Bool:=gs.any (z22 row)
theorem zhh {R C:Int} {gs:List GC} (h:∀ a ∈ gs,z0W R C a=true) (row:Int):z4P gs row=z26 gs row:=by
 unfold z4P z26
 induction gs with
 | nil=>rfl
 | cons a t ih=>rw [List.any_cons,List.any_cons,ziD (h a (by simp)),ih (fun b hb=>h b (by simp [hb]))]
def zF (gs:List GC) (k:Nat):List Int:=((List.range k).filter (fun r:Nat=>!z26 gs (r:Int))).map (fun r=>((r:Nat):Int))
theorem z8H {gs:List GC} {k:Nat} (h:z26 gs k=false):zF gs (k+1)=zF gs k ++ [(k:Int)]:=by simp [zF,List.range_succ,h]
theorem z7N {gs:List GC} {k:Nat} (h:z26 gs k=true):zF gs (k+1)=zF gs k:=by simp [zF,List.range_succ,h]
theorem z35 (gs:List GC) (k:Nat):(zF gs k).length≤k:=by
 have:=List.length_filter_le (fun r:Nat=>!z26 gs (r:Int)) (List.range k)
 simpa [zF] using this
def z5X (g:G):List Int:=if okB g then zF g.cells g.rows.toNat else []
theorem zeD {g:G} (h:okB g=false):z5X g=[]:=by rw [z5X,if_neg (by rw [h];simp)]
theorem z9v {g:G} (h:okB g=true):z5X g=zF g.cells g.rows.toNat:=by rw [z5X,if_pos h]
theorem zfD {gs:List GC} {row:Int} {k:Nat} (hk:k < gs.length) (h:z4h row (gs.getD k dG)=true):z4P gs row=true:=by
 refine List.any_eq_true.2 ⟨gs[k],List.getElem_mem hk,?_⟩;have e:gs.getD k dG=gs[k]:=(by simp [List.getD,hk]);rw [← e];exact h
theorem zeE {gs:List GC} {row:Int} (h:∀ j,j < gs.length→z4h row (gs.getD j dG)=false):z4P gs row=false:=by
 cases hc:z4P gs row with
 | false=>rfl
 | true =>
  obtain ⟨x,hx,ho⟩:=List.any_eq_true.1 hc;obtain ⟨i,hi,rfl⟩:=List.mem_iff_getElem.1 hx;have:=h i hi;have e:gs.getD i dG=gs[i]:=(by simp [List.getD,hi]);rw [e,ho] at this
  cases this
theorem zbP (a b:Int) (ac:Option Addr) (cc:Nat) (gs:List GC) (row:Int) (hr:I64 row) (w:World) {z:Nat} (h:z1G w z (.slice ac gs.length cc) gs) :
  Calls Tryz.prog 77 #[.agg #[.int .i64 a,.int .i64 b,.slice ac gs.length cc],.int .i64 row] w fun e w'=>e=.returned (.bool (z4P gs row))∧Below w.heap.size w w':=by
 obtain ⟨_,_,_,hlen⟩:=At.form h;unfold maxLen at hlen;have H:=Hd h;clear h;go_enter Tryz.func77,Tryz.ntmps77;go_wp2_with fail
 go_loopw [10] (fun i W=>∃ k:Nat,k≤gs.length∧i=.int .i64 k∧Hid (∀ j,j < k→z4h row (gs.getD j dG)=false)∧Hid (Below w.heap.size w W)) (fun i _=>gs.length - (intOf i).toNat)
 case atStart=>exact ⟨0,Nat.zero_le _,rfl,fun j hj=>absurd hj (Nat.not_lt_zero _),ze (Below.refl _ _) _⟩
 case round =>
  obtain ⟨k,hk,rfl,HA,HB⟩:=hrel;by_cases hlt:k < gs.length
  ·obtain ⟨q,off,cap',e',hc1,hc2,hbl,hx,hs⟩:=At.get (H.out.kept HB.out) hlt;simp only [Value.slice.injEq,true_and] at e';obtain ⟨rfl,rfl⟩:=e';have HH:Hid (z4h row (gs.getD k dG)=true→z4P gs row=true):=fun hp=>zfD hlt hp
   have HN:Hid (z4h row (gs.getD k dG)=false→∀ j,j < k+1→z4h row (gs.getD j dG)=false):=fun hp j hj=>by
    rcases Nat.lt_or_eq_of_le (Nat.lt_succ_iff.1 hj) with h1 | rfl
    ·exact HA.out j h1
    ·exact hp
   generalize gs.getD k dG=x at hx hs HH HN;obtain ⟨x0,x1,x2,x3,x4⟩:=hx;obtain ⟨b0,b1,b2,b3,_⟩:=hs;have H1:=Hd (z8G row x.row x.rows hr b0 b2);unfold maxLen at hc2;clear b0 b1 b2 b3;by_cases h1:x.row < row
   ·cases h2:z0I row x.row x.rows with
    | false =>
     have HF:=Hd (HN.out (by simp only [z4h,h2,Bool.and_false]));rw [h2] at H1;clear HH HN HA;go_wp2_with fail
     refine (H1.out _).mono ?_;rintro e w1 ⟨rfl,rfl⟩;go_wp2;go_roundw
     case rel=>exact ⟨k+1,by omega,by go_num,HF,ze HB.out _⟩
     case measure=>simp [intOf];omega
    | true =>
     have HF:=Hd (HH.out (by simp only [z4h,h1,h2,decide_true,Bool.and_self]));rw [h2] at H1;clear HH HN HA;go_wp2_with fail
     refine (H1.out _).mono ?_;rintro e w1 ⟨rfl,rfl⟩;go_wp2;go_ret;exact ⟨zN HF.out.symm,ze HB.out _⟩
   ·have HF:=Hd (HN.out (by simp only [z4h,h1,decide_false,Bool.false_and]));clear HH HN HA;go_wp2;go_roundw
    case rel=>exact ⟨k+1,by omega,by go_num,HF,ze HB.out _⟩
    case measure=>simp [intOf];omega
  ·obtain rfl:k=gs.length:=by omega
   have HF:=Hd (zeE HA.out);clear HA;go_wp2;go_ret;exact ⟨zN HF.out.symm,HB.out⟩
theorem ze4 {w:World} {base n0 k:Nat} {e:TypeId} {v:Value} {xs:List Value} (h:w.ownsRow base e 1 v k xs) (hn:n0 < base):some n0 ≠ v.ownBlock:=by
 rcases h.2 with ⟨rfl,_⟩ | ⟨g,cap,cur,rfl,hb,_⟩
 ·simp [Value.ownBlock]
 ·simp [Value.ownBlock];omega
theorem zfE {w:World} {base j k:Nat} {e:TypeId} {v:Value} {xs:List Value} (h:w.ownsRow base e 1 v k xs) (hj:v.ownBlock=some j):base≤j:=by
 rcases h.2 with ⟨rfl,_⟩ | ⟨g,cap,cur,rfl,hb,_⟩
 ·simp [Value.ownBlock] at hj
 ·simp [Value.ownBlock] at hj;omega
theorem z9w:(Tryz.prog.info? 3).map (fun i=>(i.zero,i.size,i.bytes))=some (some (Value.int .i64 0),1,8):=by kernel_rfl
theorem z9x {w w':World} {base n k:Nat} {v:Value} {xs:List Value} (h:w.ownsRow base 3 1 v k xs) (hb:Below w.heap.size w w') (_:n≤base):w'.ownsRow base 3 1 v k xs:=by
 refine ⟨h.1,?_⟩
 rcases h.2 with h0 | ⟨g,cap,cur,hv,hbs,hg,r⟩
 ·exact .inl h0
 ·exact .inr ⟨g,cap,cur,hv,hbs,(hb.block g (bL hg)).trans hg,r⟩
theorem zca (Rn:Nat) (hR2:Rn≤1000) (C:Int) (ac:Option Addr) (cc:Nat) (gs:List GC) (hc:∀ row,z4P gs row=z26 gs row) (w:World) {z:Nat} (h:z1G w z (.slice ac gs.length cc) gs) :
  Calls Tryz.prog 42 #[.agg #[.int .i64 (Rn:Int),.int .i64 C,.slice ac gs.length cc]] w fun e w'=>∃ v,e=.returned v∧zo w' w.heap.size w'.heap.size v (zF gs Rn)∧Below w.heap.size w w':=by
 obtain ⟨_,_,_,hlen⟩:=At.form h;unfold maxLen at hlen;obtain ⟨i0,hi,hz0,hz1,hz2⟩:=info_parts z9w;obtain ⟨w1,hw1⟩:∃ w1,w.alloc (.cells #[.int .i64 (Rn:Int),.int .i64 C,.slice ac gs.length cc] 38)=w1:=⟨_,rfl⟩;have K1:Hid (Below w.heap.size w w1):=(by rw [Hid,← hw1];exact ze (Below.refl _ _) _);have X1:Hid (w1.heap[w.heap.size]?=some (.cells #[.int .i64 (Rn:Int),.int .i64 C,.slice ac gs.length cc] 38)):=(by rw [Hid,← hw1];exact zj _ _);have hs1:w.heap.size < w1.heap.size:=(by rw [← hw1];simp);have H:=Hd h;have HC:=Hd hc;clear h hc;go_enter Tryz.func42,Tryz.ntmps42;go_upto_region 2 with fail
 clear hw1;have g0:w1.cell? ⟨w.heap.size,0,none⟩=some (.int .i64 (Rn:Int)):=zf X1.out;go_wp2_with fail
 go_loopw [7,3] (fun i v W=>∃ (k:Nat) (vb:Value),k≤Rn∧i=.int .i64 k∧v=vb∧Hid (W.ownsRow w1.heap.size 3 1 vb (zF gs k).length ((zF gs k).map (Value.int .i64)))∧Hid (Below w.heap.size w W)∧Hid (W.heap[w.heap.size]?=some (.cells #[.int .i64 (Rn:Int),.int .i64 C,.slice ac gs.length cc] 38))∧w1.heap.size≤W.heap.size) (fun i _ _=>Rn - (intOf i).toNat)
 case atStart=>exact ⟨0,_,Nat.zero_le _,rfl,rfl,⟨by simp,.inl ⟨rfl,rfl⟩⟩,K1,X1,Nat.le_refl _⟩
 case round =>
  obtain ⟨k,vb,hk,rfl,rfl,HO,HB,HX,hsr⟩:=hrel;have g0':wr.cell? ⟨w.heap.size,0,none⟩=some (.int .i64 (Rn:Int)):=zf HX.out;have g1:wr.cell? ⟨w.heap.size,1,none⟩=some (.int .i64 C):=zf HX.out;have g2:wr.cell? ⟨w.heap.size,2,none⟩=some (.slice ac gs.length cc):=zf HX.out;by_cases hlt:k < Rn
  ·have KI:=Hd (zbP (Rn:Int) C ac cc gs (k:Int) ⟨by omega,by omega⟩ wr (H.out.kept HB.out));rw [HC.out] at KI;have hbl:=z35 gs k
   cases h1:z26 gs (k:Int) with
   | true =>
    have HS:=Hd (z7N h1);rw [h1] at KI;clear h1;go_wp2_with fail
    refine KI.out.mono ?_;rintro e w2 ⟨rfl,hb2⟩;have HO2:=Hd (z9x HO.out hb2 (Nat.le_refl _));have HB2:=Hd (zh HB.out hb2);have HX2:=Hd ((hb2.block w.heap.size (by omega)).trans HX.out);have hs2:=Nat.le_trans hsr hb2.size;clear hb2;go_wp2;go_roundw
    case rel=>exact ⟨k+1,_,by omega,by go_num,rfl,by rw [HS.out];exact HO2,HB2,HX2,hs2⟩
    case measure=>simp [intOf];omega
   | false =>
    have HS:=Hd (z8H h1);rw [h1] at KI;clear h1;go_wp2_with fail
    refine KI.out.mono ?_;rintro e w2 ⟨rfl,hb2⟩;have hO2:=z9x HO.out hb2 (Nat.le_refl _);have HB2:=Hd (zh HB.out hb2);have HX2:=Hd ((hb2.block w.heap.size (by omega)).trans HX.out);have hs2:=Nat.le_trans hsr hb2.size;clear hb2 HO;go_wp2_with (at_builtin;refine wpList_append_own _ rfl _ _ 27 rfl w1.heap.size 3 i0 (.int .i64 0) 1 8 Tryz.underlying27 hi hz0 hz1 hz2 rfl (by decide) _ _ _ rfl (hO2.alloc _) ⟨w2.heap.size,0,none⟩ 1 1 [.int .i64 (k:Int)] rfl rfl ?c1 ?c2 ?c3 ?c4 ?c5 ?_)
    case c1 =>
     intro i u hi
     match i,hi with
     | 0,hi=>simp at hi;subst hi;simp [Addr.add]
    case c2=>intro u hu;simp at hu;subst hu;rfl
    case c3=>unfold maxLen;omega
    case c4=>omega
    case c5=>simp;omega
    intro v' w5 hown' hgrow' _;have hne:=ze4 hO2 hs1;have HB5:Hid (Below w.heap.size w w5):=(ze HB2.out _).grown hgrow' (by simp;omega) (fun j e=>by have:=zfE hO2 e;omega);have HX5:Hid (w5.heap[w.heap.size]?=_):=Hd ((hgrow'.block w.heap.size (by simp;omega) hne).trans ((Below.heap_alloc _ _ _ (by omega)).trans HX2.out));have hs5:w1.heap.size≤w5.heap.size:=(by have:=hgrow'.size;simp at this;omega);have HO5:Hid (w5.ownsRow w1.heap.size 3 1 v' (zF gs (k+1)).length ((zF gs (k+1)).map (Value.int .i64))):=Hd (by rw [HS.out];simpa using hown');obtain ⟨g',cap',rfl⟩:=Joins.ownsRow_form hown' (by omega);clear hown' hgrow' hO2 hne;go_wp2;go_roundw
    case rel=>exact ⟨k+1,_,by omega,by go_num,rfl,HO5,HB5,HX5,hs5⟩
    case measure=>simp [intOf];omega
  ·obtain rfl:k=Rn:=by omega
   go_wp2;go_ret;refine ⟨_,rfl,?_,HB.out⟩;exact (zo.of_owns HO.out).base (by omega) (Nat.le_refl _)
def z05 (gs:List GC) (R:Nat):List Nat:=(List.range R).filter (fun r:Nat=>!z26 gs (r:Int)) ++ [R]
theorem zhu (gs:List GC) (R:Nat):(z05 gs R).map (fun r:Nat=>(r:Int))=zF gs R ++ [(R:Int)]:=by simp [z05,zF]
theorem z4s (gs:List GC) (R:Nat):(z05 gs R).length=(zF gs R).length+1:=by simp [z05,zF]
theorem z7P (gs:List GC) (R:Nat):(z05 gs R).Pairwise (· < ·):=by
 refine List.pairwise_append.2 ⟨List.Pairwise.filter _ List.pairwise_lt_range,by simp,fun a ha b hb=>?_⟩;rw [List.mem_filter,List.mem_range] at ha;rw [List.mem_singleton] at hb;omega
theorem ziJ {gs:List GC} {R x:Nat} (h:x ∈ z05 gs R):x≤R:=by
 rcases List.mem_append.1 h with h | h
 ·rw [List.mem_filter,List.mem_range] at h;omega
 ·rw [List.mem_singleton] at h;omega
theorem z3d {gs:List GC} {R k:Nat} (hk:k+1 < (z05 gs R).length):(z05 gs R).getD k 0 < (z05 gs R).getD (k+1) 0∧(z05 gs R).getD (k+1) 0≤R:=by
 have h1:(z05 gs R).getD k 0=(z05 gs R)[k]:=(by simp [List.getD,show k < (z05 gs R).length by omega]);have h2:(z05 gs R).getD (k+1) 0=(z05 gs R)[k+1]:=(by simp [List.getD,hk]);rw [h1,h2];exact ⟨List.pairwise_iff_getElem.1 (z7P gs R) k (k+1) (by omega) hk (by omega),ziJ (List.getElem_mem _)⟩
theorem zcg {gs:List GC} {R k:Nat} (hk:k < (z05 gs R).length):(zF gs R ++ [(R:Int)]).getD k 0=(((z05 gs R).getD k 0:Nat):Int):=by
 rw [← zhu];simp [List.getD,hk]
def z1a (t:T) (hs:List Int) (a b:Nat):List (List PgS) :=
 if z07 t (a:Int)=1 then (if (b - a=1∧(t.rows.getD a dR).whole=false)∧0 < hs.getD a 0 then z0e a 0 (hs.getD a 0).toNat else [zK hs a (b - a)]) else []
theorem zao {t:T} {hs:List Int} {a b:Nat} (h:¬ z07 t (a:Int)=1):z1a t hs a b=[]:=by rw [z1a,if_neg h]
theorem zap {t:T} {hs:List Int} {a b:Nat} (h:z07 t (a:Int)=1) (h2:(b - a=1∧(t.rows.getD a dR).whole=false)∧0 < hs.getD a 0):z1a t hs a b=z0e a 0 (hs.getD a 0).toNat:=by rw [z1a,if_pos h,if_pos h2]
theorem z7Q {t:T} {hs:List Int} {a b:Nat} (h:z07 t (a:Int)=1) (h2:¬ ((b - a=1∧(t.rows.getD a dR).whole=false)∧0 < hs.getD a 0)):z1a t hs a b=[zK hs a (b - a)]:=by rw [z1a,if_pos h,if_neg h2]
def z0Y (t:T) (hs:List Int) (L:List Nat):Nat→List (List PgS)
 | 0=>[]
 | k+1=>z0Y t hs L k ++ z1a t hs (L.getD k 0) (L.getD (k+1) 0)
def z0D (t:T) (hs:List Int):List (List PgS):=z0Y t hs (z05 (gOf t).cells t.rows.length) (zF (gOf t).cells t.rows.length).length
theorem zfZ {t:T} {hs:List Int} (hb:∀ x ∈ hs,0≤x∧x≤1000) (a b:Nat):(z1a t hs a b).length≤1000:=by
 unfold z1a
 split
 ·split
  ·rename_i h
   have hm:hs.getD a 0≤1000:=by
    by_cases ha:a < hs.length
    ·exact (hb _ (by simp [List.getD,ha])).2
    ·simp [List.getD,ha]
   rw [z0e,List.length_map,List.length_range];omega
  ·simp
 ·simp
theorem z7R {t:T} {hs:List Int} (hb:∀ x ∈ hs,0≤x∧x≤1000) (L:List Nat):∀ k,(z0Y t hs L k).length≤1000 * k
 | 0=>by simp [z0Y]
 | k+1=>by
  have:=z7R (t:=t) hb L k;have:=zfZ (t:=t) hb (L.getD k 0) (L.getD (k+1) 0);rw [z0Y,List.length_append];omega
end
section
theorem z67 {α:Type} {l:List α} {x d:α} {k:Nat} (h:k < l.length):(l ++ [x]).getD k d=l.getD k d:=by
 simp [List.getD,List.getElem?_append_left h]
theorem z3F {α:Type} {l:List α} {x d:α}:(l ++ [x]).getD l.length d=x:=by simp [List.getD]
theorem z7S {α:Type} {l:List α} {x:α} {k:Nat} (h:k≤l.length):(l ++ [x]).take k=l.take k:=by
 rw [List.take_append_of_le_length h]
theorem zdy (gs:List GC) (r i:Nat) (e:Int) (x:C) (c:Int):z1j (z1o gs r i e x) c=z1j (z4b r i e x) c:=by simp only [z1o,z1j]
theorem zg0 (gs:List GC) (r i:Nat) (e:Int) (x:C):(z1o gs r i e x).col=(z5p gs (z4b r i e x):Int):=by simp only [z1o,z1j]
structure zch (t:T) (gs:List GC) (k:Nat):Prop where
 ex:∃ r j:Nat,r < t.rows.length∧j < (t.rows.getD r dR).cells.length∧gs.getD k dG=z1o (gs.take k) r j (zU t r) ((t.rows.getD r dR).cells.getD j dC)
 free:z1d (gs.take k) (gs.getD k dG)=true
 first:∀ c:Nat,(c:Int) < (gs.getD k dG).col→z1d (gs.take k) (z1j (gs.getD k dG) c)=false
 after:0 < k→(gs.getD (k - 1) dG).row < (gs.getD k dG).row∨(gs.getD (k - 1) dG).row=(gs.getD k dG).row∧(gs.getD (k - 1) dG).ins+1=(gs.getD k dG).ins
theorem zch.snoc {t:T} {gs:List GC} {k:Nat} (x:GC) (hk:k < gs.length) (h:zch t gs k):zch t (gs ++ [x]) k:=by
 have e1:(gs ++ [x]).getD k dG=gs.getD k dG:=z67 hk;have e2:(gs ++ [x]).take k=gs.take k:=z7S (by omega);have e3:(gs ++ [x]).getD (k - 1) dG=gs.getD (k - 1) dG:=z67 (by omega);refine ⟨?_,?_,?_,?_⟩
 ·rw [e1,e2];exact h.ex
 ·rw [e1,e2];exact h.free
 ·rw [e1,e2];exact h.first
 ·rw [e1,e3];exact h.after
structure z38 (t:T) (gs:List GC) (r i:Nat):Prop where
 part:z3B t gs r i
 laid:∀ k,k < gs.length→zch t gs k
 last:0 < gs.length→(gs.getD (gs.length - 1) dG).row < r∨(gs.getD (gs.length - 1) dG).row=r∧(gs.getD (gs.length - 1) dG).ins+1=i
theorem z38.next {t:T} {gs:List GC} {r i:Nat} (h:z38 t gs r i) (hl:Low t) (hr:r < t.rows.length) (hi:i < (t.rows.getD r dR).cells.length) :
  z38 t (gs ++ [z1o gs r i (zU t r) ((t.rows.getD r dR).cells.getD i dC)]) r (i+1):=by
 obtain ⟨⟨h1,h2,h3,h4⟩,hp⟩:=h.part.next hl hr hi;refine ⟨hp,?_,?_⟩
 ·intro k hk;rw [List.length_append,List.length_singleton] at hk;by_cases hk2:k < gs.length
  ·exact (h.laid k hk2).snoc _ hk2
  ·obtain rfl:k=gs.length:=by omega
   have e2:∀ x:GC,(gs ++ [x]).take gs.length=gs:=fun x=>by rw [z7S (Nat.le_refl _),List.take_length]
   refine ⟨?_,?_,?_,?_⟩
   ·rw [z3F,e2];exact ⟨r,i,hr,hi,rfl⟩
   ·rw [z3F,e2];exact h2
   ·rw [z3F,e2];intro c hc;rw [zg0] at hc;rw [zdy];exact h3 c (Int.ofNat_lt.1 hc)
   ·intro h0;rw [z3F,z67 (by omega)];exact h.last h0
 ·intro _;rw [List.length_append,List.length_singleton,Nat.add_sub_cancel,z3F];refine .inr ⟨rfl,?_⟩;show (i:Int)+1=((i+1:Nat):Int);omega
theorem z38.zero (t:T):z38 t [] 0 0:=⟨z3B.zero t,fun _ hk=>absurd hk (Nat.not_lt_zero _),fun h=>absurd h (Nat.lt_irrefl _)⟩
theorem z38.rowEnd {t:T} {gs:List GC} {r:Nat} (h:z38 t gs r (t.rows.getD r dR).cells.length):z38 t gs (r+1) 0:=by
 refine ⟨h.part.rowEnd,h.laid,fun h0=>.inl ?_⟩
 rcases h.last h0 with h1 | ⟨h1,_⟩ <;> omega
theorem zci {t:T} (hl:Low t) {r:Nat} (hr:r < t.rows.length) (h:z38 t (zW t r) r 0):∀ i,i≤(t.rows.getD r dR).cells.length→z38 t (z1O (zU t r) r (t.rows.getD r dR).cells (zW t r) i) r i
 | 0,_=>h
 | i+1,hi=>z38.next (zci hl hr h i (by omega)) hl hr (by omega)
theorem zaX {t:T} (hl:Low t):∀ r,r≤t.rows.length→z38 t (zW t r) r 0
 | 0,_=>z38.zero t
 | r+1,hr=>(zci hl (by omega) (zaX hl r (by omega)) _ (Nat.le_refl _)).rowEnd
theorem z8s {t:T} (hl:Low t) {k:Nat} (hk:k < (zL t).length):zch t (zL t) k:=(zaX hl _ (Nat.le_refl _)).laid k hk
theorem z3G {t:T} (hl:Low t) {a:GC} (ha:a ∈ zL t):z1p t.rows.length a:=((z6l hl _ (Nat.le_refl _)).stands a ha).1
theorem z6I (m:Int) (a:GC) (gs:List GC):z0q m (a :: gs)=z0q (max m (a.col+a.cols)) gs:=rfl
theorem z3H:∀ (gs:List GC) (m:Int),m≤z0q m gs
 | [],m=>Int.le_refl _
 | a :: gs,m=>by rw [z6I];exact Int.le_trans (Int.le_max_left _ _) (z3H gs _)
theorem z7b:∀ {gs:List GC} {m:Int} {a:GC},a ∈ gs→a.col+a.cols≤z0q m gs
 | b :: gs,m,a,h=>by
  rw [z6I]
  rcases List.mem_cons.1 h with rfl | h
  ·exact Int.le_trans (Int.le_max_right _ _) (z3H gs _)
  ·exact z7b h
theorem zaY:∀ {gs:List GC} {m B:Int},m≤B→(∀ a ∈ gs,a.col+a.cols≤B)→z0q m gs≤B
 | [],m,B,h,_=>h
 | a :: gs,m,B,h,h2=>by
  rw [z6I];exact zaY (Int.max_le.2 ⟨h,h2 a (by simp)⟩) (fun b hb=>h2 b (by simp [hb]))
theorem z8L {t:T} (hl:Low t) (hc:t.cols.length≤8):1≤z0q (max 1 (t.cols.length:Int)) (zL t)∧z0q (max 1 (t.cols.length:Int)) (zL t)≤88∧(t.cols.length:Int)≤z0q (max 1 (t.cols.length:Int)) (zL t):=by
 have h1:=z3H (zL t) (max 1 (t.cols.length:Int));have h2:z0q (max 1 (t.cols.length:Int)) (zL t)≤88:=zaY (by omega) (fun a ha=>by have:=z3G hl ha;unfold z1p at this;omega);omega
theorem z8M {t:T} (hl:Low t) {a:GC} (ha:a ∈ zL t):z0W t.rows.length (z0q (max 1 (t.cols.length:Int)) (zL t)) a=true:=by
 have h1:=z3G hl ha;have h2:=z7b (m:=max 1 (t.cols.length:Int)) ha;unfold z1p at h1;simp only [z0W,inB,Bool.and_eq_true,decide_eq_true_eq];omega
theorem zg1 {t:T} (hl:Low t) (hr:1≤t.rows.length) (hc:t.cols.length≤8):okB ⟨t.rows.length,z0q (max 1 (t.cols.length:Int)) (zL t),zL t⟩=true:=by
 have hb:=z8L hl hc;have h8:=hl.rows;have hlen:=z79 hl t.rows.length;unfold okB;rw [Bool.and_eq_true];constructor
 ·refine z7M ?_ ?_ ?_
  ·simp [inB];omega
  ·simp [inB];omega
  ·show (zW t t.rows.length).length≤40;omega
 ·refine List.all_eq_true.2 (fun i hi=>?_);have hi:i < (zL t).length:=List.mem_range.1 hi;rw [Bool.and_eq_true];exact ⟨z8M hl (z2i hi),(z8s hl hi).free⟩
end
section
open Go.RowKit
def TA (w:World) (z:Nat) (ac ar:Option Addr) (cc cr:Nat) (t:T):Prop:=z08 w z (.slice ac t.cols.length cc) t.cols∧z00 w z (.slice ar t.rows.length cr) t.rows
theorem TA.kept {w w':World} {z:Nat} {ac ar:Option Addr} {cc cr:Nat} {t:T} (h:TA w z ac ar cc cr t) (hb:Below w.heap.size w w'):TA w' z ac ar cc cr t:=⟨h.1.kept hb,h.2.kept hb⟩
def St (w:World) (tb:Nat) (ac ar:Option Addr) (cc cr:Nat) (t:T) (W:World):Prop:=Below w.heap.size w W∧TA W w.heap.size ac ar cc cr t∧W.heap[tb]?=some (.cells #[.slice ac t.cols.length cc,.int .i64 t.head,.int .i64 t.foot,.slice ar t.rows.length cr,.int .i64 t.gap] 26)
theorem St.kept {w W W':World} {tb:Nat} {ac ar:Option Addr} {cc cr:Nat} {t:T} (h:St w tb ac ar cc cr t W) (hb:Below W.heap.size W W'):St w tb ac ar cc cr t W' :=
 ⟨h.1.trans (hb.mono h.1.size),h.2.1.kept hb,(hb.block tb (bL h.2.2)).trans h.2.2⟩
theorem St.at {w W:World} {tb:Nat} {ac ar:Option Addr} {cc cr:Nat} {t:T} (h:St w tb ac ar cc cr t W):(W.cell? ⟨tb,0,none⟩=some (.slice ac t.cols.length cc)∧W.cell? ⟨tb,1,none⟩=some (.int .i64 t.head)∧W.cell? ⟨tb,2,none⟩=some (.int .i64 t.foot)∧W.cell? ⟨tb,3,none⟩=some (.slice ar t.rows.length cr)∧W.cell? ⟨tb,4,none⟩=some (.int .i64 t.gap)):=(z23 h.2.2).1
theorem z6Q {t:T} (hD:z0f t):∀ x ∈ (gOf t).cells,GOk x:=by
 unfold gOf
 split
 ·rename_i h
  have hl:=z3E h hD;exact fun x hx=>(z3G hl hx).gok hl.rows
 ·intro x hx
  cases hx
def SGr (w:World) (tb gb:Nat) (ac ar:Option Addr) (cc cr:Nat) (t:T) (ag:Option Addr) (cg:Nat) (W:World):Prop :=
 St w tb ac ar cc cr t W∧z1G W w.heap.size (.slice ag (gOf t).cells.length cg) (gOf t).cells∧W.heap[gb]?=some (.cells #[.int .i64 (gOf t).rows,.int .i64 (gOf t).cols,.slice ag (gOf t).cells.length cg] 38)
theorem SGr.kept {w W W':World} {tb gb:Nat} {ac ar ag:Option Addr} {cc cr cg:Nat} {t:T} (h:SGr w tb gb ac ar cc cr t ag cg W) (hb:Below W.heap.size W W'):SGr w tb gb ac ar cc cr t ag cg W' :=
 ⟨h.1.kept hb,h.2.1.kept hb,(hb.block gb (bL h.2.2)).trans h.2.2⟩
theorem SGr.at {w W:World} {tb gb:Nat} {ac ar ag:Option Addr} {cc cr cg:Nat} {t:T} (h:SGr w tb gb ac ar cc cr t ag cg W):W.cell? ⟨gb,0,none⟩=some (.int .i64 (gOf t).rows)∧W.cell? ⟨gb,1,none⟩=some (.int .i64 (gOf t).cols)∧W.cell? ⟨gb,2,none⟩=some (.slice ag (gOf t).cells.length cg) :=
 ⟨zf h.2.2,zf h.2.2,zf h.2.2⟩
theorem z5y {w:World} {base:Nat} {v:Value} {gs:List GC} (h:z92 w base v gs):∃ a cap,v=.slice a gs.length cap:=by
 rcases h.2 with ⟨rfl,hn⟩ | ⟨g,cap,cur,rfl,_⟩
 ·exact ⟨none,0,by rw [hn]⟩
 ·exact ⟨_,cap,rfl⟩
theorem z2q {t:T} (h:zB t=true):gOf t=⟨t.rows.length,z0q (max 1 (t.cols.length:Int)) (zL t),zL t⟩:=by unfold gOf;rw [if_pos h]
theorem zcj {t:T} (h:zB t=false):gOf t=⟨0,0,[]⟩:=by unfold gOf;rw [if_neg (by rw [h];simp)]
def SCe (w:World) (tb gb cb:Nat) (ac ar:Option Addr) (cc cr:Nat) (t:T) (ag:Option Addr) (cg:Nat) (x:GC) (W:World):Prop :=
 SGr w tb gb ac ar cc cr t ag cg W∧W.heap[cb]?=some (.cells #[.int .i64 x.row,.int .i64 x.col,.int .i64 x.rows,.int .i64 x.cols,.int .i64 x.ins] 51)
theorem SCe.kept {w W W':World} {tb gb cb:Nat} {ac ar ag:Option Addr} {cc cr cg:Nat} {t:T} {x:GC} (h:SCe w tb gb cb ac ar cc cr t ag cg x W) (hb:Below W.heap.size W W'):SCe w tb gb cb ac ar cc cr t ag cg x W' :=
 ⟨h.1.kept hb,(hb.block cb (bL h.2)).trans h.2⟩
theorem SCe.at {w W:World} {tb gb cb:Nat} {ac ar ag:Option Addr} {cc cr cg:Nat} {t:T} {x:GC} (h:SCe w tb gb cb ac ar cc cr t ag cg x W):W.cell? ⟨cb,0,none⟩=some (.int .i64 x.row)∧W.cell? ⟨cb,1,none⟩=some (.int .i64 x.col)∧W.cell? ⟨cb,2,none⟩=some (.int .i64 x.rows)∧W.cell? ⟨cb,3,none⟩=some (.int .i64 x.cols)∧W.cell? ⟨cb,4,none⟩=some (.int .i64 x.ins) :=
 ⟨zf h.2,zf h.2,zf h.2,zf h.2,zf h.2⟩
def zin (x:GC):Prop:=(0≤x.row∧x.row≤8)∧(0≤x.col∧x.col≤84)∧(1≤x.rows∧x.rows≤3)∧(1≤x.cols∧x.cols≤4)∧0≤x.ins∧x.ins≤4
theorem z1p.small {n:Nat} {a:GC} (hn:n≤8) (h:z1p n a):zin a:=by
 unfold z1p at h;unfold zin;omega
structure Pos where
 row:Int
 line:Int
 seen:Bool
def z5b (hs:List Int) (p:Pos) (r:Int):Pos:=if p.seen=true∧r=p.row+1∧p.line=hs.getD p.row.toNat 0 then ⟨p.row+1,0,true⟩ else p
def okS (hs:List Int) (q:Pos) (s:PgS):Prop:=s.r=q.row∧s.f=q.line∧s.f≤s.t∧s.t≤hs.getD q.row.toNat 0∧¬ (s.f=s.t∧0 < hs.getD q.row.toNat 0)
def z4j (hs:List Int) (p:Pos) (s:PgS):Pos:=⟨(z5b hs p s.r).row,s.t,true⟩
def z1W (hs:List Int) (p:Pos) (l:List PgS):Pos:=l.foldl (z4j hs) p
def z1q (hs:List Int):Pos→List PgS→Prop
 | _,[]=>True
 | p,s :: l=>okS hs (z5b hs p s.r) s∧z1q hs (z4j hs p s) l
theorem z2L (hs:List Int) (p:Pos) (a b:List PgS):z1W hs p (a ++ b)=z1W hs (z1W hs p a) b:=by simp [z1W]
theorem z20 (hs:List Int):∀ (a:List PgS) (p:Pos) (b:List PgS),z1q hs p (a ++ b) ↔ z1q hs p a∧z1q hs (z1W hs p a) b
 | [],p,b=>by simp [z1q,z1W]
 | s :: a,p,b=>by
  rw [List.cons_append,z1q,z1q,z20 hs a,and_assoc];exact Iff.rfl
theorem z6R (hs:List Int) (p:Pos) (s:PgS):z1q hs p [s] ↔ okS hs (z5b hs p s.r) s:=by simp [z1q]
theorem z5Y (hs:List Int) (p:Pos) (s:PgS):z1W hs p [s]=z4j hs p s:=rfl
theorem z68 {hs:List Int}:∀ {l:List PgS} {p:Pos},z1q hs p l→∀ s ∈ l,s.f≤s.t
 | [],_,_,s,h=>by cases h
 | x :: l,p,h,s,hs'=>by
  rcases List.mem_cons.1 hs' with rfl | hm
  ·exact h.1.2.2.1
  ·exact z68 h.2 s hm
theorem z69:∀ {l:List PgS},(∀ s ∈ l,s.f≤s.t)→0≤hiS l
 | [],_=>by simp [hiS]
 | x :: l,h=>by
  have:=z69 (l:=l) (fun s hs=>h s (List.mem_cons_of_mem _ hs));have:=h x (by simp);have e:hiS (x :: l)=x.t - x.f+hiS l:=(by simp [hiS]);omega
theorem zg2 {hs:List Int} {p:Pos} {a:List PgS} {l s:PgS} (h:z1q hs p (a ++ [l] ++ [s])) (e:l.r=s.r) :
  l.t=s.f∧z1q hs p (a ++ [⟨l.r,l.f,s.t⟩])∧z1W hs p (a ++ [⟨l.r,l.f,s.t⟩])=z1W hs p (a ++ [l] ++ [s]):=by
 rw [z20,z20,z6R,z6R,z2L,z5Y] at h;obtain ⟨⟨h1,h2⟩,h3⟩:=h;rw [z20,z6R,z2L,z2L,z2L,z5Y,z5Y,z5Y];generalize z1W hs p a=q at h2 h3 ⊢;obtain ⟨a1,a2,a3,a4,a5⟩:=h2
 have e1:z5b hs (z4j hs q l) s.r=z4j hs q l:=by
  unfold z5b;rw [if_neg];rintro ⟨_,h,_⟩;rw [z4j] at h;simp only at h;rw [← a1] at h;omega
 rw [e1] at h3;obtain ⟨b1,b2,b3,b4,b5⟩:=h3;simp only [z4j] at b1 b2 b4 b5;refine ⟨b2.symm,⟨h1,⟨a1,a2,by simp only;omega,b4,?_⟩⟩,?_⟩
 ·rintro ⟨h4,h5⟩;simp only at h4;exact b5 ⟨by omega,h5⟩
 ·show (⟨(z5b hs q l.r).row,s.t,true⟩:Pos)=⟨(z5b hs (z4j hs q l) s.r).row,s.t,true⟩;rw [e1];rfl
theorem z6n (a:List PgS) (l s:PgS):z2g (a ++ [l]) s=if l.r=s.r then a ++ [⟨l.r,l.f,s.t⟩] else a ++ [l] ++ [s]:=by simp [z2g]
theorem zhv {hs:List Int} {p:Pos} {page:List PgS} {s:PgS} (h:z1q hs p (page ++ [s])) :
  z1q hs p (z2g page s)∧z1W hs p (z2g page s)=z1W hs p (page ++ [s])∧hiS (z2g page s)=hiS page+(s.t - s.f):=by
 rcases List.eq_nil_or_concat page with rfl | ⟨a,l,rfl⟩
 ·exact ⟨h,rfl,by simp [z2g,hiS]⟩
 ·rw [List.concat_eq_append] at h ⊢;rw [z6n];by_cases e:l.r=s.r
  ·rw [if_pos e];obtain ⟨h1,h2,h3⟩:=zg2 h e;refine ⟨h2,h3,?_⟩;rw [z1Z,z1Z,z33,z33];simp only;omega
  ·rw [if_neg e];exact ⟨h,rfl,by rw [z1Z,z33]⟩
theorem zck {hs:List Int} {p:Pos}:∀ {piece page:List PgS},z1q hs p (page ++ piece)→z1q hs p (z04 page piece)∧z1W hs p (z04 page piece)=z1W hs p (page ++ piece)∧hiS (z04 page piece)=hiS page+hiS piece
 | [],page,h=>by
  rw [List.append_nil] at h ⊢;exact ⟨h,rfl,by simp [z04,hiS]⟩
 | s :: l,page,h=>by
  have e:page ++ s :: l=page ++ [s] ++ l:=(by simp);rw [e,z20] at h;obtain ⟨h1,h2⟩:=h;obtain ⟨a1,a2,a3⟩:=zhv h1;rw [← a2] at h2;have h3:z1q hs p (z2g page s ++ l):=(z20 hs _ _ _).2 ⟨a1,h2⟩;obtain ⟨b1,b2,b3⟩:=zck h3;refine ⟨b1,?_,?_⟩
  ·show z1W hs p (z04 (z2g page s) l)=_;rw [b2,e,z2L,z2L,a2]
  ·show hiS (z04 (z2g page s) l)=_;have:hiS (s :: l)=s.t - s.f+hiS l:=(by simp [hiS]);omega
theorem zaZ {hs:List Int} {p:Pos}:∀ {ps:List (List PgS)} {page:List PgS},z1q hs p (page ++ ps.flatten)→z1q hs p (ps.foldl z04 page)∧z1W hs p (ps.foldl z04 page)=z1W hs p (page ++ ps.flatten)∧hiS (ps.foldl z04 page)=hiS page+hiS ps.flatten
 | [],page,h=>by
  rw [List.flatten_nil,List.append_nil] at h ⊢;exact ⟨h,rfl,by simp [hiS]⟩
 | x :: l,page,h=>by
  rw [List.flatten_cons,← List.append_assoc,z20] at h;obtain ⟨h1,h2⟩:=h;obtain ⟨a1,a2,a3⟩:=zck h1;rw [← a2] at h2;obtain ⟨b1,b2,b3⟩:=zaZ ((z20 hs _ _ _).2 ⟨a1,h2⟩);rw [List.foldl_cons];refine ⟨b1,?_,?_⟩
  ·rw [b2,z2L,List.flatten_cons,← List.append_assoc,z2L,a2]
  ·rw [b3,a3,List.flatten_cons,z1Z];omega
theorem zhw (page:List PgS) (s:PgS):(z2g page s).length≤page.length+1:=by
 rcases List.eq_nil_or_concat page with rfl | ⟨a,l,rfl⟩
 ·simp [z2g]
 ·rw [List.concat_eq_append,z6n]
  split <;> simp
theorem zcl:∀ (piece page:List PgS),(z04 page piece).length≤page.length+piece.length
 | [],page=>by simp [z04]
 | s :: l,page=>by
  have h1:=zcl l (z2g page s);have h2:=zhw page s;show (z04 (z2g page s) l).length≤_;rw [List.length_cons];omega
theorem zb0:∀ (ps:List (List PgS)) (page:List PgS),(ps.foldl z04 page).length≤page.length+ps.flatten.length
 | [],page=>by simp
 | x :: l,page=>by
  have h1:=zb0 l (z04 page x);have h2:=zcl x page;rw [List.foldl_cons,List.flatten_cons,List.length_append];omega
theorem z7T (r f:Int) (k:Nat):z0e r f (k+1)=z0e r f k ++ [[⟨r,f+k,f+k+1⟩]]:=by simp [z0e,List.range_succ]
def z4k (hs:List Int) (p:Pos) (a:Nat):Prop:=p=⟨a,0,false⟩∨(1≤a∧p=⟨(a:Int) - 1,hs.getD (a - 1) 0,true⟩)
theorem zg3 {hs:List Int} {p:Pos} {a:Nat} (h:z4k hs p a):(z5b hs p a).row=a∧(z5b hs p a).line=0:=by
 rcases h with rfl | ⟨h1,rfl⟩
 ·unfold z5b;simp
 ·unfold z5b;have e:((a:Int) - 1).toNat=a - 1:=(by omega);rw [if_pos ⟨rfl,by simp only;omega,by simp only [e]⟩];exact ⟨by simp only;omega,rfl⟩
theorem z8N {hs:List Int} {p:Pos} {a:Nat} (h:z4k hs p a) {t:Int} (h0:0≤t) (h1:t≤hs.getD a 0) (h2:¬ (0=t∧0 < hs.getD a 0)):z1q hs p [⟨a,0,t⟩]∧z1W hs p [⟨a,0,t⟩]=⟨a,t,true⟩:=by
 obtain ⟨e1,e2⟩:=zg3 h;refine ⟨(z6R hs _ _).2 ⟨e1.symm,e2.symm,h0,?_,?_⟩,?_⟩
 ·rw [e1,Int.toNat_natCast];exact h1
 ·rw [e1,Int.toNat_natCast];exact h2
 ·rw [z5Y,z4j];simp only [e1]
theorem zb1 {hs:List Int} (hb:∀ x ∈ hs,0≤x):∀ (n a:Nat) (p:Pos),z4k hs p a→z1q hs p (zK hs a n)∧z4k hs (z1W hs p (zK hs a n)) (a+n)
 | 0,a,p,h=>⟨trivial,h⟩
 | n+1,a,p,h=>by
  have h0:0≤hs.getD a 0:=by
   by_cases ha:a < hs.length
   ·exact hb _ (by simp [List.getD,ha])
   ·simp [List.getD,ha]
  obtain ⟨h1,h2⟩:=z8N h h0 (Int.le_refl _) (by omega);have hr:z4k hs ⟨(a:Int),hs.getD a 0,true⟩ (a+1):=.inr ⟨by omega,by simp⟩;obtain ⟨i1,i2⟩:=zb1 hb n (a+1) _ hr;rw [← h2] at i1 i2;rw [zK];have e:a+1+n=a+(n+1):=(by omega);rw [e] at i2;exact ⟨(z20 hs [_] p _).2 ⟨h1,i1⟩,i2⟩
theorem zb2 {hs:List Int} {a:Nat}:∀ (n:Nat) (f:Int),f+n≤hs.getD a 0→z1q hs ⟨a,f,true⟩ (z0e a f n).flatten∧z1W hs ⟨a,f,true⟩ (z0e a f n).flatten=⟨a,f+n,true⟩
 | 0,f,_=>by simp [z0e,z1q,z1W]
 | n+1,f,h=>by
  rw [z4e,List.flatten_cons]
  have e1:z5b hs ⟨a,f,true⟩ a=⟨a,f,true⟩:=by
   unfold z5b;rw [if_neg];rintro ⟨_,h,_⟩;simp only at h;omega
  have h1:z1q hs ⟨a,f,true⟩ [⟨a,f,f+1⟩]:=by
   rw [z6R];simp only;rw [e1];exact ⟨rfl,rfl,by simp only;omega,by show f+1≤hs.getD (a:Int).toNat 0;rw [Int.toNat_natCast];omega,by simp only;omega⟩
  have h2:z1W hs ⟨a,f,true⟩ [⟨a,f,f+1⟩]=⟨a,f+1,true⟩:=by
   rw [z5Y,z4j];simp only;rw [e1]
  obtain ⟨i1,i2⟩:=zb2 (hs:=hs) (a:=a) n (f+1) (by omega);rw [z20,z2L,h2,i2];refine ⟨⟨h1,i1⟩,?_⟩
  congr 1
  omega
theorem ziK {hs:List Int} {p:Pos} {a:Nat} (h:z4k hs p a) (h0:0 < hs.getD a 0):z1q hs p (z0e a 0 (hs.getD a 0).toNat).flatten∧z4k hs (z1W hs p (z0e a 0 (hs.getD a 0).toNat).flatten) (a+1):=by
 obtain ⟨m,hm⟩:∃ m:Nat,hs.getD a 0=((m+1:Nat):Int):=⟨(hs.getD a 0).toNat - 1,by omega⟩;have e:(hs.getD a 0).toNat=m+1:=(by omega);rw [e,z4e,List.flatten_cons];obtain ⟨h1,h2⟩:=z8N (t:=1) h (by omega) (by omega) (by omega);obtain ⟨i1,i2⟩:=zb2 (hs:=hs) (a:=a) m 1 (by omega);have e2:(0:Int)+1=1:=rfl;rw [e2,z20,z2L,h2,i2];refine ⟨⟨h1,i1⟩,.inr ⟨by omega,?_⟩⟩;have e3:a+1 - 1=a:=(by omega);rw [e3,hm]
 congr 1 <;> omega
theorem zjs {t:T} {hs:List Int} (hb:∀ x ∈ hs,0≤x) {a b:Nat} (hab:a < b) (hp:z07 t (a:Int)=1) {p:Pos} (h:z4k hs p a):z1q hs p (z1a t hs a b).flatten∧z4k hs (z1W hs p (z1a t hs a b).flatten) b:=by
 by_cases h2:(b - a=1∧(t.rows.getD a dR).whole=false)∧0 < hs.getD a 0
 ·rw [zap hp h2];have e:b=a+1:=(by omega);rw [e];exact ziK h h2.2
 ·rw [z7Q hp h2];have e:b=a+(b - a):=(by omega);have:=zb1 hb (b - a) a p h;rw [← e] at this;rw [List.flatten_cons,List.flatten_nil,List.append_nil];exact this
theorem z9F {t:T} (hD:z0f t) (hok:zB t=true) (q:Int) (hq:q=t.head∨q=(t.rows.length:Int) - t.foot):z26 (gOf t).cells q=false:=by
 have hl:=z3E hok hD;have hbb:=z0S hok
 have h3:t.foot≤(t.rows.length:Int) - t.head:=by
  simp only [zB,z25,inB,Bool.and_eq_true,decide_eq_true_eq] at hok;exact hok.2.1.2.2
 rw [z2q hok]
 cases hc:z26 (zL t) q with
 | false=>rfl
 | true =>
  exfalso
  obtain ⟨x,hx,ho⟩:=List.any_eq_true.1 hc;obtain ⟨k,hk,rfl⟩:=List.mem_iff_getElem.1 hx;obtain ⟨r,j,hr,hj,he⟩:=(z8s hl hk).ex;have e:(zL t).getD k dG=(zL t)[k]:=(by simp [List.getD,hk]);rw [e] at he;rw [he] at ho;simp only [z22,z1o,z1j,z4b,Bool.and_eq_true] at ho;unfold zU at ho;obtain ⟨h1,h2⟩:=ho;replace h1:=of_decide_eq_true h1;replace h2:=of_decide_eq_true h2
  rcases hq with rfl | rfl
  ·rw [if_pos h1] at h2;omega
  ·by_cases h4:(r:Int) < t.head
   ·rw [if_pos h4] at h2;omega
   ·rw [if_neg h4,if_neg (by omega)] at h2;omega
theorem zcm {t:T} (hok:zB t=true):∃ H E:Nat,t.head=H∧(t.rows.length:Int) - t.foot=E∧H≤E∧E≤t.rows.length∧1≤t.rows.length∧t.rows.length≤8:=by
 have hbb:=z0S hok
 have h3:t.foot≤(t.rows.length:Int) - t.head:=by
  simp only [zB,z25,inB,Bool.and_eq_true,decide_eq_true_eq] at hok;exact hok.2.1.2.2
 exact ⟨t.head.toNat,((t.rows.length:Int) - t.foot).toNat,by omega,by omega,by omega,by omega,hbb.1.1,hbb.1.2⟩
theorem z93 {gs:List GC} {R x:Nat} (hx:x≤R) (h:x < R→z26 gs (x:Int)=false):x ∈ z05 gs R:=by
 rcases Nat.lt_or_eq_of_le hx with h1 | rfl
 ·refine List.mem_append.2 (.inl (List.mem_filter.2 ⟨List.mem_range.2 h1,?_⟩));rw [h h1];rfl
 ·exact List.mem_append.2 (.inr (List.mem_singleton.2 rfl))
theorem zb3 {gs:List GC} {R k x:Nat} (hk:k+1 < (z05 gs R).length) (hx:x ∈ z05 gs R) (h:(z05 gs R).getD k 0 < x):(z05 gs R).getD (k+1) 0≤x:=by
 obtain ⟨j,hj,rfl⟩:=List.mem_iff_getElem.1 hx;have h1:(z05 gs R).getD k 0=(z05 gs R)[k]:=(by simp [List.getD,show k < (z05 gs R).length by omega]);have h2:(z05 gs R).getD (k+1) 0=(z05 gs R)[k+1]:=(by simp [List.getD,hk]);rw [h1] at h;rw [h2];have hp:=List.pairwise_iff_getElem.1 (z7P gs R)
 rcases Nat.lt_or_ge k j with h3 | h3
 ·rcases Nat.lt_or_eq_of_le (show k+1≤j by omega) with h4 | h4
  ·have:=hp (k+1) j hk hj h4;omega
  ·subst h4;exact Nat.le_refl _
 ·rcases Nat.lt_or_eq_of_le h3 with h4 | h4
  ·have:=hp j k hj (by omega) h4;omega
  ·subst h4;omega
theorem zeJ {t:T} (hD:z0f t) (hok:zB t=true):z26 (gOf t).cells 0=false:=by
 rw [z2q hok]
 cases hc:z26 (zL t) 0 with
 | false=>rfl
 | true =>
  exfalso
  obtain ⟨x,hx,ho⟩:=List.any_eq_true.1 hc;have:=(z3G (z3E hok hD) hx).1.1;simp only [z22,Bool.and_eq_true,decide_eq_true_eq] at ho;omega
theorem zeK {t:T} (hD:z0f t) (hok:zB t=true):(z05 (gOf t).cells t.rows.length).getD 0 0=0:=by
 have hb:=z0S hok;obtain ⟨n,hn⟩:∃ n,t.rows.length=n+1:=Nat.exists_eq_succ_of_ne_zero (by omega);have hm:(0:Nat) ∈ z05 (gOf t).cells t.rows.length:=z93 (by omega) (fun _=>zeJ hD hok);obtain ⟨j,hj,e⟩:=List.mem_iff_getElem.1 hm;have hl:0 < (z05 (gOf t).cells t.rows.length).length:=(by omega);have h1:(z05 (gOf t).cells t.rows.length).getD 0 0=(z05 (gOf t).cells t.rows.length)[0]:=(by simp [List.getD,hl]);rw [h1]
 rcases Nat.eq_zero_or_pos j with rfl | h2
 ·exact e
 ·have:=List.pairwise_iff_getElem.1 (z7P (gOf t).cells t.rows.length) 0 j hl hj h2;omega
theorem z6o (gs:List GC) (R:Nat):(z05 gs R).getD ((zF gs R).length) 0=R:=by
 have e:(zF gs R).length=((List.range R).filter (fun r:Nat=>!z26 gs (r:Int))).length:=(by simp [zF]);rw [e,z05];simp [List.getD]
def z3I (H E x:Nat):Nat:=max H (min x E)
theorem z7U {t:T} (hok:zB t=true) {H E:Nat} (hH:t.head=H) (hE:(t.rows.length:Int) - t.foot=E) {a:Nat} (ha:a < t.rows.length):z07 t (a:Int)=1 ↔ H≤a∧a < E:=by
 unfold z07;rw [if_pos ⟨hok,by unfold inB;exact decide_eq_true (by omega)⟩,hH,hE];by_cases h1:(a:Int) < (H:Int)
 ·rw [if_pos h1];constructor
  ·intro h;cases h
  ·intro h;omega
 ·rw [if_neg h1];by_cases h2:(E:Int)≤(a:Int)
  ·rw [if_pos h2];constructor
   ·intro h;cases h
   ·intro h;omega
  ·rw [if_neg h2];constructor
   ·intro _;omega
   ·intro _;rfl
theorem zb4 {t:T} (hD:z0f t) (hok:zB t=true) {hs:List Int} (hb:∀ x ∈ hs,0≤x) {H E:Nat} (hH:t.head=H) (hE:(t.rows.length:Int) - t.foot=E) (hHE:H≤E) (hER:E≤t.rows.length) :
  ∀ k,k < (z05 (gOf t).cells t.rows.length).length→z1q hs ⟨t.head,0,false⟩ (z0Y t hs (z05 (gOf t).cells t.rows.length) k).flatten∧z4k hs (z1W hs ⟨t.head,0,false⟩ (z0Y t hs (z05 (gOf t).cells t.rows.length) k).flatten) (z3I H E ((z05 (gOf t).cells t.rows.length).getD k 0))
 | 0,_=>by
  rw [z0Y,zeK hD hok,List.flatten_nil];refine ⟨trivial,.inl ?_⟩;rw [hH];show (⟨(H:Int),0,false⟩:Pos)=_
  congr 1
  unfold z3I;omega
 | k+1,hk=>by
  obtain ⟨h1,h2⟩:=zb4 hD hok hb hH hE hHE hER k (by omega);obtain ⟨s1,s2⟩:=z3d hk;have hmH:H ∈ z05 (gOf t).cells t.rows.length:=z93 (by omega) (fun _=>z9F hD hok _ (.inl hH.symm));have hmE:E ∈ z05 (gOf t).cells t.rows.length:=z93 hER (fun _=>z9F hD hok _ (.inr hE.symm));have nH:=zb3 hk hmH;have nE:=zb3 hk hmE;rw [z0Y,List.flatten_append,z20,z2L];generalize z1W hs ⟨t.head,0,false⟩ (z0Y t hs (z05 (gOf t).cells t.rows.length) k).flatten=q at h2 ⊢;generalize (z05 (gOf t).cells t.rows.length).getD k 0=a at s1 h2 nH nE ⊢;generalize (z05 (gOf t).cells t.rows.length).getD (k+1) 0=b at s1 s2 nH nE ⊢;have hp:=z7U hok hH hE (a:=a) (by omega);by_cases h3:z07 t (a:Int)=1
  ·have h4:=hp.1 h3;have e1:z3I H E a=a:=(by unfold z3I;omega)
   have e2:z3I H E b=b:=by
    have:=nE (by omega);unfold z3I;omega
   rw [e1] at h2;rw [e2];obtain ⟨i1,i2⟩:=zjs hb s1 h3 h2;exact ⟨⟨h1,i1⟩,i2⟩
  ·have e:z3I H E a=z3I H E b:=by
    have h4:¬ (H≤a∧a < E):=fun h=>h3 (hp.2 h);unfold z3I;omega
   rw [zao h3,List.flatten_nil,← e];exact ⟨⟨h1,trivial⟩,h2⟩
theorem zcn {t:T} (hD:z0f t) (hok:zB t=true) {hs:List Int} (hb:∀ x ∈ hs,0≤x) {H E:Nat} (hH:t.head=H) (hE:(t.rows.length:Int) - t.foot=E) (hHE:H≤E) (hER:E≤t.rows.length) :
  z1q hs ⟨t.head,0,false⟩ (z0D t hs).flatten∧z4k hs (z1W hs ⟨t.head,0,false⟩ (z0D t hs).flatten) E:=by
 have:=zb4 hD hok hb hH hE hHE hER (zF (gOf t).cells t.rows.length).length (by rw [z4s];omega);rw [z6o] at this;have e:z3I H E t.rows.length=E:=(by unfold z3I;omega);rw [e] at this;exact this
theorem zb5 {hs:List Int} (hb:∀ x ∈ hs,0≤x∧x≤1000):∀ n a,hiS (zK hs a n)≤1000 * n
 | 0,a=>by simp [zK,hiS]
 | n+1,a=>by
  have h0:hs.getD a 0≤1000:=by
   by_cases ha:a < hs.length
   ·exact (hb _ (by simp [List.getD,ha])).2
   ·simp [List.getD,ha]
  have:=zb5 hb n (a+1);have e:hiS (zK hs a (n+1))=hs.getD a 0 - 0+hiS (zK hs (a+1) n):=(by simp [zK,hiS]);omega
theorem z94 (r f:Int):∀ n,hiS (z0e r f n).flatten=n
 | 0=>by simp [z0e,hiS]
 | n+1=>by
  rw [z7T,List.flatten_append,z1Z,z94 r f n,List.flatten_cons,List.flatten_nil,List.append_nil,z33];simp only;omega
theorem zb6 (r f:Int):∀ n,(z0e r f n).flatten.length=n
 | 0=>rfl
 | n+1=>by
  rw [z7T,List.flatten_append,List.length_append,zb6 r f n];rfl
theorem zk6 {t:T} {hs:List Int} (hb:∀ x ∈ hs,0≤x∧x≤1000) {a b:Nat} (hab:a < b):hiS (z1a t hs a b).flatten≤1000 * ((b:Int) - a)∧(z1a t hs a b).flatten.length≤1000 * (b - a):=by
 unfold z1a
 split
 ·split
  ·have hm:hs.getD a 0≤1000:=by
    by_cases ha:a < hs.length
    ·exact (hb _ (by simp [List.getD,ha])).2
    ·simp [List.getD,ha]
   rw [z94,zb6];omega
  ·have:=zb5 hb (b - a) a;rw [List.flatten_cons,List.flatten_nil,List.append_nil,z1N];omega
 ·simp [hiS];omega
theorem zco {t:T} {hs:List Int} (hb:∀ x ∈ hs,0≤x∧x≤1000) {gs:List GC} {R:Nat}:∀ k,k < (z05 gs R).length→hiS (z0Y t hs (z05 gs R) k).flatten≤1000 * (z05 gs R).getD k 0∧(z0Y t hs (z05 gs R) k).flatten.length≤1000 * (z05 gs R).getD k 0
 | 0,_=>by
  simp [z0Y,hiS];omega
 | k+1,hk=>by
  have ih:=zco (t:=t) hb (gs:=gs) (R:=R) k (by omega);obtain ⟨s1,_⟩:=z3d hk;have h1:=zk6 (t:=t) hb s1;rw [z0Y,List.flatten_append,z1Z,List.length_append];omega
theorem zeb {t:T} {hs:List Int} (hb:∀ x ∈ hs,0≤x∧x≤1000):hiS (z0D t hs).flatten≤1000 * t.rows.length∧(z0D t hs).flatten.length≤1000 * t.rows.length:=by
 have:=zco (t:=t) hb (gs:=(gOf t).cells) (R:=t.rows.length) (zF (gOf t).cells t.rows.length).length (by rw [z4s];omega);rw [z6o] at this;exact this
theorem z5I {t:T} (hD:z0f t) (hok:zB t=true) {hs:List Int} (hb:∀ x ∈ hs,0≤x∧x≤1000) {A B C:List (List PgS)} (h:z0D t hs=A ++ B ++ C) :
  (0≤hiS (B.foldl z04 [])∧hiS (B.foldl z04 [])≤1000000)∧(B.foldl z04 []).length≤50000∧hiS (B.foldl z04 [])=hiS B.flatten:=by
 obtain ⟨H,E,hH,hE,h1,h2,h3,h4⟩:=zcm hok;have hr:=(zcn hD hok (fun x hx=>(hb x hx).1) hH hE h1 h2).1;have hh:=zeb (t:=t) hb;rw [h,List.flatten_append,List.flatten_append] at hr hh;rw [z20,z20] at hr;obtain ⟨⟨r1,r2⟩,r3⟩:=hr;have n1:=z69 (z68 r1);have n2:=z69 (z68 r2);have n3:=z69 (z68 r3);rw [z1Z,z1Z,List.length_append,List.length_append] at hh;have r4:=zaZ (page:=[]) (by simpa using r2);have l4:=zb0 B [];rw [r4.2.2];simp only [List.length_nil] at l4;have e0:hiS []=0:=rfl;omega
theorem zg4 {t:T} (hD:z0f t) (hok:zB t=true) {hs:List Int} (hb:∀ x ∈ hs,0≤x∧x≤1000) {p:List PgS} (hp:p ∈ z0D t hs):(0≤hiS p∧hiS p≤1000000)∧p.length≤50000:=by
 obtain ⟨A,C,e⟩:=List.append_of_mem hp;obtain ⟨H,E,hH,hE,h1,h2,h3,h4⟩:=zcm hok;have hr:=(zcn hD hok (fun x hx=>(hb x hx).1) hH hE h1 h2).1;have hh:=zeb (t:=t) hb;rw [e,List.flatten_append,List.flatten_cons] at hr hh;rw [z20,z20] at hr;obtain ⟨r1,r2,r3⟩:=hr;have n1:=z69 (z68 r1);have n2:=z69 (z68 r2);have n3:=z69 (z68 r3);rw [z1Z,z1Z,List.length_append,List.length_append] at hh;omega
def z3y (rm:List Int) (st:List (List (List PgS)) × List (List PgS)) (p:List PgS):List (List (List PgS)) × List (List PgS) :=
 if z13 (st.2.foldl z04 []) p (zG rm st.1.length) then (st.1,st.2 ++ [p]) else (st.1 ++ [st.2],[p])
def z1Q (g:List (List PgS)):List PgS:=g.foldl z04 []
theorem zeL (rm:List Int) (st:List (List (List PgS)) × List (List PgS)) (p:List PgS):zQ rm (st.1.map z1Q,z1Q st.2) p=((z3y rm st p).1.map z1Q,z1Q (z3y rm st p).2):=by
 unfold zQ z3y;simp only [List.length_map];show (if z13 (st.2.foldl z04 []) p (zG rm st.1.length)=true then _ else _)=_
 split
 ·simp [z1Q]
 ·simp [z1Q]
theorem zio (rm:List Int):∀ (ps:List (List PgS)) (st:List (List (List PgS)) × List (List PgS)),ps.foldl (zQ rm) (st.1.map z1Q,z1Q st.2)=((ps.foldl (z3y rm) st).1.map z1Q,z1Q (ps.foldl (z3y rm) st).2)
 | [],st=>rfl
 | p :: ps,st=>by
  rw [List.foldl_cons,List.foldl_cons,zeL,zio rm ps]
def z95 (rm:List Int) (ps:List (List PgS)):List (List (List PgS)):=(ps.foldl (z3y rm) ([],[])).1 ++ [(ps.foldl (z3y rm) ([],[])).2]
theorem zcp (rm:List Int) (ps:List (List PgS)):z3V rm ps=(z95 rm ps).map z1Q:=by
 have:=zio rm ps ([],[]);unfold z3V z95;simp only [List.map_append,List.map_cons,List.map_nil];show (ps.foldl (zQ rm) ([].map z1Q,z1Q [])).1 ++ [(ps.foldl (zQ rm) ([].map z1Q,z1Q [])).2]=_;rw [this]
structure GI (rm:List Int) (ps:List (List PgS)) (st:List (List (List PgS)) × List (List PgS)):Prop where
 flat:(st.1 ++ [st.2]).flatten=ps
 ne:ps ≠ []→∀ g ∈ st.1 ++ [st.2],g ≠ []
 only:ps=[]→st.1=[]
 fit:∀ i,i < st.1.length→(st.1.getD i []).length≤1∨hiS (st.1.getD i []).flatten≤zG rm i
 fit2:st.2.length≤1∨hiS st.2.flatten≤zG rm st.1.length
 full:∀ i,i < st.1.length→zG rm i < hiS (st.1.getD i []).flatten+hiS (((st.1 ++ [st.2]).getD (i+1) []).headD [])
theorem zec (page:List PgS) (s:PgS):z2g page s ≠ []:=by
 rcases List.eq_nil_or_concat page with rfl | ⟨a,l,rfl⟩
 ·simp [z2g]
 ·rw [List.concat_eq_append,z6n]
  split <;> simp
theorem zaq:∀ {piece page:List PgS},page ≠ []→z04 page piece ≠ []
 | [],_,h=>h
 | s :: l,page,_=>zaq (piece:=l) (zec page s)
theorem z96 {piece page:List PgS} (h:piece ≠ []):z04 page piece ≠ []:=by
 cases piece with
 | nil=>exact absurd rfl h
 | cons s l=>exact zaq (piece:=l) (zec page s)
theorem zcq:∀ {g:List (List PgS)} {page:List PgS},page ≠ []→g.foldl z04 page ≠ []
 | [],_,h=>h
 | _ :: g,_,h=>zcq (g:=g) (zaq h)
theorem z9G {g:List (List PgS)} (h:∀ p ∈ g,p ≠ []):z1Q g=[] ↔ g=[]:=by
 constructor
 ·intro e
  cases g with
  | nil=>rfl
  | cons p g =>
   exact absurd e (zcq (g:=g) (z96 (h p (by simp))))
 ·rintro rfl;rfl
theorem z5J {α:Type} {a b:List α} {d:α} {i:Nat} (h:i < a.length):(a ++ b).getD i d=a.getD i d:=by
 rw [List.getD_eq_getElem?_getD,List.getElem?_append_left h,← List.getD_eq_getElem?_getD]
theorem z4R {α:Type} {a:List α} {x d:α}:(a ++ [x]).getD a.length d=x:=by simp [List.getD]
theorem zeM {α:Type} {a:List α} {x y d:α}:(a ++ [x] ++ [y]).getD (a.length+1) d=y:=by
 have:a.length+1=(a ++ [x]).length:=(by simp);rw [this,z4R]
theorem GI.step {rm:List Int} {ps:List (List PgS)} {st:List (List (List PgS)) × List (List PgS)} (h:GI rm ps st) {p:List PgS} (hall:∀ q ∈ ps,q ≠ []) (hmer:hiS (z1Q st.2)=hiS st.2.flatten):GI rm (ps ++ [p]) (z3y rm st p):=by
 obtain ⟨done,cur⟩:=st
 have hcur:∀ q ∈ cur,q ≠ []:=fun q hq=>hall q (by
  rw [← h.flat];simp only [List.flatten_append,List.mem_append]
  right
  simpa using hq)
 have hmn:=z9G hcur;unfold z3y;simp only at hmer hmn ⊢;by_cases hc:cur=[]
 ·subst hc
  have hps:ps=[]:=by
   cases ps with
   | nil=>rfl
   | cons a l=>exact absurd rfl (h.ne (by simp) [] (by simp))
  have hd:=h.only hps;simp only at hd;subst hd hps;rw [if_pos (by rfl)];refine ⟨by simp,?_,by simp,by simp,.inl (by simp),by simp⟩;intro _ g hg;simp only [List.nil_append,List.mem_singleton] at hg;rw [hg];simp
 ·have hne:(cur.foldl z04 []).isEmpty=false:=by
   have h2:z1Q cur ≠ []:=fun e=>hc (hmn.1 e);unfold z1Q at h2
   cases hx:cur.foldl z04 [] with
   | nil=>exact absurd hx h2
   | cons a l=>rfl
  have hps:ps ≠ []:=by
   intro e;have:=h.flat;rw [e] at this;simp only [List.flatten_append,List.append_eq_nil_iff] at this;exact hc (by simpa using this.2)
  have hfl:=h.flat;have hne2:=h.ne hps;by_cases ht:z13 (cur.foldl z04 []) p (zG rm done.length)=true
  ·rw [if_pos ht];have ht2:=ht;unfold z13 at ht2;rw [hne,Bool.false_or,decide_eq_true_eq] at ht2;have e1:hiS (cur.foldl z04 [])=hiS cur.flatten:=hmer;refine ⟨?_,fun _ g hg=>?_,fun e=>by simp at e,h.fit,.inr ?_,fun i hi=>?_⟩
   ·rw [← hfl];simp
   ·rcases List.mem_append.1 hg with h1 | h1
    ·exact hne2 g (List.mem_append.2 (.inl h1))
    ·rw [List.mem_singleton.1 h1];simp
   ·simp only [List.flatten_append,z1Z,List.flatten_cons,List.flatten_nil,List.append_nil];omega
   ·have hf:=h.full i hi;simp only at hf hi ⊢
    rcases Nat.lt_or_eq_of_le (show i+1≤done.length by omega) with h1 | h1
    ·rw [z5J h1] at hf ⊢;exact hf
    ·rw [h1,z4R] at hf ⊢
     cases cur with
     | nil=>exact absurd rfl hc
     | cons a l=>exact hf
  ·rw [if_neg ht];have ht2:=ht;unfold z13 at ht2;rw [hne,Bool.false_or,decide_eq_true_eq] at ht2;have e1:hiS (cur.foldl z04 [])=hiS cur.flatten:=hmer;have hf2:=h.fit2;refine ⟨?_,fun _ g hg=>?_,fun e=>by simp at e,fun i hi=>?_,.inl (by simp),fun i hi=>?_⟩
   ·simp only at hfl ⊢;rw [List.flatten_append,hfl];simp
   ·rcases List.mem_append.1 hg with h1 | h1
    ·exact hne2 g h1
    ·rw [List.mem_singleton.1 h1];simp
   ·simp only [List.length_append,List.length_cons,List.length_nil] at hi ⊢
    rcases Nat.lt_or_eq_of_le (show i≤done.length by omega) with h1 | h1
    ·rw [z5J h1];exact h.fit i h1
    ·subst h1;rw [z4R];exact hf2
   ·simp only [List.length_append,List.length_cons,List.length_nil] at hi ⊢
    rcases Nat.lt_or_eq_of_le (show i≤done.length by omega) with h1 | h1
    ·have hf:=h.full i h1;simp only at hf;rw [z5J h1,z5J (by simp;omega)];exact hf
    ·subst h1;rw [z4R,zeM];simp only [List.headD_cons];omega
theorem zcr {rm:List Int}:∀ {ps:List (List PgS)},(∀ q ∈ ps,q ≠ [])→(∀ A B C,ps=A ++ B ++ C→hiS (B.foldl z04 [])=hiS B.flatten)→GI rm ps (ps.foldl (z3y rm) ([],[])):=by
 suffices h:∀ (n:Nat) (ps:List (List PgS)),ps.length=n→(∀ q ∈ ps,q ≠ [])→(∀ A B C,ps=A ++ B ++ C→hiS (B.foldl z04 [])=hiS B.flatten)→GI rm ps (ps.foldl (z3y rm) ([],[])) from fun {ps}=>h ps.length ps rfl
 intro n
 induction n with
 | zero =>
  intro ps hl _ _;have:ps=[]:=List.eq_nil_of_length_eq_zero hl;subst this;exact ⟨by simp,fun h=>absurd rfl h,fun _=>rfl,fun i hi=>absurd hi (Nat.not_lt_zero i),.inl (by simp),fun i hi=>absurd hi (Nat.not_lt_zero i)⟩
 | succ n ih =>
  intro ps hl hne hm
  rcases List.eq_nil_or_concat ps with rfl | ⟨a,p,rfl⟩
  ·cases hl
  ·rw [List.concat_eq_append] at hl hne hm ⊢;rw [List.foldl_append,List.foldl_cons,List.foldl_nil];have hG:=ih a (by simpa using hl) (fun q hq=>hne q (List.mem_append.2 (.inl hq))) (fun A B C e=>hm A B (C ++ [p]) (by rw [e];simp));refine hG.step (fun q hq=>hne q (List.mem_append.2 (.inl hq))) ?_;refine hm ((a.foldl (z3y rm) ([],[])).1.flatten) _ [p] ?_;have:=hG.flat;rw [List.flatten_append] at this;simp only [List.flatten_cons,List.flatten_nil,List.append_nil] at this;rw [this]
theorem zg5 {t:T} {hs:List Int} {gs:List GC} {R:Nat}:∀ k,k < (z05 gs R).length→∀ p ∈ z0Y t hs (z05 gs R) k,p ≠ []
 | 0,_,p,hp=>by simp [z0Y] at hp
 | k+1,hk,p,hp=>by
  obtain ⟨s1,_⟩:=z3d hk;rw [z0Y] at hp
  rcases List.mem_append.1 hp with h1 | h1
  ·exact zg5 k (by omega) p h1
  ·unfold z1a at h1
   split at h1
   ·split at h1
    ·rw [z0e,List.mem_map] at h1;obtain ⟨i,_,rfl⟩:=h1;simp
    ·rw [List.mem_singleton] at h1;subst h1;intro e;have:=z1N hs ((z05 gs R).getD (k+1) 0 - (z05 gs R).getD k 0) ((z05 gs R).getD k 0);rw [e,List.length_nil] at this;omega
   ·cases h1
theorem zar {t:T} {hs:List Int}:∀ p ∈ z0D t hs,p ≠ []:=zg5 _ (by rw [z4s];omega)
theorem zdz {t:T} (hD:z0f t) (hok:zB t=true) {hs:List Int} (hb:∀ x ∈ hs,0≤x∧x≤1000) (rm:List Int):GI rm (z0D t hs) ((z0D t hs).foldl (z3y rm) ([],[])) :=
 zcr zar (fun _ _ _ e=>(z5I hD hok hb e).2.2)
end
end Go.Proofs.YtggmjiddadjilahGreat
