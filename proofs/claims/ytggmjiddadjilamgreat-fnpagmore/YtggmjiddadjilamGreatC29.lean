/-
  PROVED HERE: what the program's GrdBlocks answers at a grid that lies in memory, and that its answer owns its memory; nothing that was in memory is turned. Also: 6 more texts of the same proof.
-/
import Derived.Test.YtggmjiddadjilamGreatC19
import Derived.Test.YtggmjiddadjilamGreatC17
set_option maxRecDepth 1000000
set_option maxHeartbeats 40000000
namespace Go.Proofs.YtggmjiddadjilamGreat
section
open Go.RowKit
def z4h (row:Int) (x:GC):Bool:=decide (x.row < row) && z0H row x.row x.rows
def z22 (row:Int) (x:GC):Bool:=decide (x.row < row) && decide (row < x.row+x.rows)
theorem ziz {R C:Int} {x:GC} (h:z0U R C x=true) (row:Int):z4h row x=z22 row x:=by
 obtain ⟨e1,e2,e3,e4,h1,h2,h3,h4⟩:=z3Y h;rw [Bool.eq_iff_iff];simp [z4h,z22,z0H];omega
def z4N (gs:List GC) (row:Int):Bool:=gs.any (z4h row)
def z26 (gs:List GC) (row:Int):Bool:=gs.any (z22 row)
theorem zhc {R C:Int} {gs:List GC} (h:∀ a ∈ gs,z0U R C a=true) (row:Int):z4N gs row=z26 gs row:=by
 unfold z4N z26
 induction gs with
 | nil=>rfl
 | cons a t ih=>rw [List.any_cons,List.any_cons,ziz (h a (by simp)),ih (fun b hb=>h b (by simp [hb]))]
def zG (gs:List GC) (k:Nat):List Int:=((List.range k).filter (fun r:Nat=>!z26 gs (r:Int))).map (fun r=>((r:Nat):Int))
theorem z8H {gs:List GC} {k:Nat} (h:z26 gs k=false):zG gs (k+1)=zG gs k ++ [(k:Int)]:=by simp [zG,List.range_succ,h]
theorem z7K {gs:List GC} {k:Nat} (h:z26 gs k=true):zG gs (k+1)=zG gs k:=by simp [zG,List.range_succ,h]
theorem z38 (gs:List GC) (k:Nat):(zG gs k).length≤k:=by
 have:=List.length_filter_le (fun r:Nat=>!z26 gs (r:Int)) (List.range k)
 simpa [zG] using this
def z5X (g:G):List Int:=if okB g then zG g.cells g.rows.toNat else []
theorem zeB {g:G} (h:okB g=false):z5X g=[]:=by rw [z5X,if_neg (by rw [h];simp)]
theorem z9w {g:G} (h:okB g=true):z5X g=zG g.cells g.rows.toNat:=by rw [z5X,if_pos h]
theorem zfB {gs:List GC} {row:Int} {k:Nat} (hk:k < gs.length) (h:z4h row (gs.getD k dG)=true):z4N gs row=true:=by
 refine List.any_eq_true.2 ⟨gs[k],List.getElem_mem hk,?_⟩;have e:gs.getD k dG=gs[k]:=(by simp [List.getD,hk]);rw [← e];exact h
theorem zeC {gs:List GC} {row:Int} (h:∀ j,j < gs.length→z4h row (gs.getD j dG)=false):z4N gs row=false:=by
 cases hc:z4N gs row with
 | false=>rfl
 | true =>
  obtain ⟨x,hx,ho⟩:=List.any_eq_true.1 hc;obtain ⟨i,hi,rfl⟩:=List.mem_iff_getElem.1 hx;have:=h i hi;have e:gs.getD i dG=gs[i]:=(by simp [List.getD,hi]);rw [e,ho] at this
  cases this
theorem zbP (a b:Int) (ac:Option Addr) (cc:Nat) (gs:List GC) (row:Int) (hr:I64 row) (w:World) {z:Nat} (h:z1I w z (.slice ac gs.length cc) gs) :
  Calls Tryz.prog 118 #[.agg #[.int .i64 a,.int .i64 b,.slice ac gs.length cc],.int .i64 row] w fun e w'=>e=.returned (.bool (z4N gs row))∧Below w.heap.size w w':=by
 obtain ⟨_,_,_,hlen⟩:=At.form h;unfold maxLen at hlen;have H:=Hd h;clear h;go_enter Tryz.func118,Tryz.ntmps118;go_wp2_with fail
 go_loopw [10] (fun i W=>∃ k:Nat,k≤gs.length∧i=.int .i64 k∧Hid (∀ j,j < k→z4h row (gs.getD j dG)=false)∧Hid (Below w.heap.size w W)) (fun i _=>gs.length - (intOf i).toNat)
 case atStart=>exact ⟨0,Nat.zero_le _,rfl,fun j hj=>absurd hj (Nat.not_lt_zero _),ze (Below.refl _ _) _⟩
 case round =>
  obtain ⟨k,hk,rfl,HA,HB⟩:=hrel;by_cases hlt:k < gs.length
  ·obtain ⟨q,off,cap',e',hc1,hc2,hbl,hx,hs⟩:=At.get (H.out.kept HB.out) hlt;simp only [Value.slice.injEq,true_and] at e';obtain ⟨rfl,rfl⟩:=e';have HH:Hid (z4h row (gs.getD k dG)=true→z4N gs row=true):=fun hp=>zfB hlt hp
   have HN:Hid (z4h row (gs.getD k dG)=false→∀ j,j < k+1→z4h row (gs.getD j dG)=false):=fun hp j hj=>by
    rcases Nat.lt_or_eq_of_le (Nat.lt_succ_iff.1 hj) with h1 | rfl
    ·exact HA.out j h1
    ·exact hp
   generalize gs.getD k dG=x at hx hs HH HN;obtain ⟨x0,x1,x2,x3,x4⟩:=hx;obtain ⟨b0,b1,b2,b3,_⟩:=hs;have H1:=Hd (z8G row x.row x.rows hr b0 b2);unfold maxLen at hc2;clear b0 b1 b2 b3;by_cases h1:x.row < row
   ·cases h2:z0H row x.row x.rows with
    | false =>
     have HF:=Hd (HN.out (by simp only [z4h,h2,Bool.and_false]));rw [h2] at H1;clear HH HN HA;go_wp2_with fail
     refine (H1.out _).mono ?_;rintro e w1 ⟨rfl,rfl⟩;go_wp2;go_roundw
     case rel=>exact ⟨k+1,by omega,by go_num,HF,ze HB.out _⟩
     case measure=>simp [intOf];omega
    | true =>
     have HF:=Hd (HH.out (by simp only [z4h,h1,h2,decide_true,Bool.and_self]));rw [h2] at H1;clear HH HN HA;go_wp2_with fail
     refine (H1.out _).mono ?_;rintro e w1 ⟨rfl,rfl⟩;go_wp2;go_ret;exact ⟨zN HF.out.symm,ze HB.out _⟩
   ·have HF:=Hd (HN.out (by simp only [z4h,h1,decide_false,Bool.false_and]));clear HH HN HA;go_wp2;go_roundw
    case rel=>exact ⟨k+1,by omega,by go_num,HF,ze HB.out _⟩
    case measure=>simp [intOf];omega
  ·obtain rfl:k=gs.length:=by omega
   have HF:=Hd (zeC HA.out);clear HA;go_wp2;go_ret;exact ⟨zN HF.out.symm,HB.out⟩
theorem ze2 {w:World} {base n0 k:Nat} {e:TypeId} {v:Value} {xs:List Value} (h:w.ownsRow base e 1 v k xs) (hn:n0 < base):some n0 ≠ v.ownBlock:=by
 rcases h.2 with ⟨rfl,_⟩ | ⟨g,cap,cur,rfl,hb,_⟩
 ·simp [Value.ownBlock]
 ·simp [Value.ownBlock];omega
theorem zfC {w:World} {base j k:Nat} {e:TypeId} {v:Value} {xs:List Value} (h:w.ownsRow base e 1 v k xs) (hj:v.ownBlock=some j):base≤j:=by
 rcases h.2 with ⟨rfl,_⟩ | ⟨g,cap,cur,rfl,hb,_⟩
 ·simp [Value.ownBlock] at hj
 ·simp [Value.ownBlock] at hj;omega
theorem z9x:(Tryz.prog.info? 3).map (fun i=>(i.zero,i.size,i.bytes))=some (some (Value.int .i64 0),1,8):=by kernel_rfl
theorem z9y {w w':World} {base n k:Nat} {v:Value} {xs:List Value} (h:w.ownsRow base 3 1 v k xs) (hb:Below w.heap.size w w') (_:n≤base):w'.ownsRow base 3 1 v k xs:=by
 refine ⟨h.1,?_⟩
 rcases h.2 with h0 | ⟨g,cap,cur,hv,hbs,hg,r⟩
 ·exact .inl h0
 ·exact .inr ⟨g,cap,cur,hv,hbs,(hb.block g (bL hg)).trans hg,r⟩
theorem zca (Rn:Nat) (hR2:Rn≤1000) (C:Int) (ac:Option Addr) (cc:Nat) (gs:List GC) (hc:∀ row,z4N gs row=z26 gs row) (w:World) {z:Nat} (h:z1I w z (.slice ac gs.length cc) gs) :
  Calls Tryz.prog 85 #[.agg #[.int .i64 (Rn:Int),.int .i64 C,.slice ac gs.length cc]] w fun e w'=>∃ v,e=.returned v∧zq w' w.heap.size w'.heap.size v (zG gs Rn)∧Below w.heap.size w w':=by
 obtain ⟨_,_,_,hlen⟩:=At.form h;unfold maxLen at hlen;obtain ⟨i0,hi,hz0,hz1,hz2⟩:=info_parts z9x;obtain ⟨w1,hw1⟩:∃ w1,w.alloc (.cells #[.int .i64 (Rn:Int),.int .i64 C,.slice ac gs.length cc] 63)=w1:=⟨_,rfl⟩;have K1:Hid (Below w.heap.size w w1):=(by rw [Hid,← hw1];exact ze (Below.refl _ _) _);have X1:Hid (w1.heap[w.heap.size]?=some (.cells #[.int .i64 (Rn:Int),.int .i64 C,.slice ac gs.length cc] 63)):=(by rw [Hid,← hw1];exact zj _ _);have hs1:w.heap.size < w1.heap.size:=(by rw [← hw1];simp);have H:=Hd h;have HC:=Hd hc;clear h hc;go_enter Tryz.func85,Tryz.ntmps85;go_upto_region 2 with fail
 clear hw1;have g0:w1.cell? ⟨w.heap.size,0,none⟩=some (.int .i64 (Rn:Int)):=zf X1.out;go_wp2_with fail
 go_loopw [7,3] (fun i v W=>∃ (k:Nat) (vb:Value),k≤Rn∧i=.int .i64 k∧v=vb∧Hid (W.ownsRow w1.heap.size 3 1 vb (zG gs k).length ((zG gs k).map (Value.int .i64)))∧Hid (Below w.heap.size w W)∧Hid (W.heap[w.heap.size]?=some (.cells #[.int .i64 (Rn:Int),.int .i64 C,.slice ac gs.length cc] 63))∧w1.heap.size≤W.heap.size) (fun i _ _=>Rn - (intOf i).toNat)
 case atStart=>exact ⟨0,_,Nat.zero_le _,rfl,rfl,⟨by simp,.inl ⟨rfl,rfl⟩⟩,K1,X1,Nat.le_refl _⟩
 case round =>
  obtain ⟨k,vb,hk,rfl,rfl,HO,HB,HX,hsr⟩:=hrel;have g0':wr.cell? ⟨w.heap.size,0,none⟩=some (.int .i64 (Rn:Int)):=zf HX.out;have g1:wr.cell? ⟨w.heap.size,1,none⟩=some (.int .i64 C):=zf HX.out;have g2:wr.cell? ⟨w.heap.size,2,none⟩=some (.slice ac gs.length cc):=zf HX.out;by_cases hlt:k < Rn
  ·have KI:=Hd (zbP (Rn:Int) C ac cc gs (k:Int) ⟨by omega,by omega⟩ wr (H.out.kept HB.out));rw [HC.out] at KI;have hbl:=z38 gs k
   cases h1:z26 gs (k:Int) with
   | true =>
    have HS:=Hd (z7K h1);rw [h1] at KI;clear h1;go_wp2_with fail
    refine KI.out.mono ?_;rintro e w2 ⟨rfl,hb2⟩;have HO2:=Hd (z9y HO.out hb2 (Nat.le_refl _));have HB2:=Hd (zh HB.out hb2);have HX2:=Hd ((hb2.block w.heap.size (by omega)).trans HX.out);have hs2:=Nat.le_trans hsr hb2.size;clear hb2;go_wp2;go_roundw
    case rel=>exact ⟨k+1,_,by omega,by go_num,rfl,by rw [HS.out];exact HO2,HB2,HX2,hs2⟩
    case measure=>simp [intOf];omega
   | false =>
    have HS:=Hd (z8H h1);rw [h1] at KI;clear h1;go_wp2_with fail
    refine KI.out.mono ?_;rintro e w2 ⟨rfl,hb2⟩;have hO2:=z9y HO.out hb2 (Nat.le_refl _);have HB2:=Hd (zh HB.out hb2);have HX2:=Hd ((hb2.block w.heap.size (by omega)).trans HX.out);have hs2:=Nat.le_trans hsr hb2.size;clear hb2 HO;go_wp2_with (at_builtin;refine wpList_append_own _ rfl _ _ 36 rfl w1.heap.size 3 i0 (.int .i64 0) 1 8 Tryz.underlying36 hi hz0 hz1 hz2 rfl (by decide) _ _ _ rfl (hO2.alloc _) ⟨w2.heap.size,0,none⟩ 1 1 [.int .i64 (k:Int)] rfl rfl ?c1 ?c2 ?c3 ?c4 ?c5 ?_)
    case c1 =>
     intro i u hi
     match i,hi with
     | 0,hi=>simp at hi;subst hi;simp [Addr.add]
    case c2=>intro u hu;simp at hu;subst hu;rfl
    case c3=>unfold maxLen;omega
    case c4=>omega
    case c5=>simp;omega
    intro v' w5 hown' hgrow' _;have hne:=ze2 hO2 hs1;have HB5:Hid (Below w.heap.size w w5):=(ze HB2.out _).grown hgrow' (by simp;omega) (fun j e=>by have:=zfC hO2 e;omega);have HX5:Hid (w5.heap[w.heap.size]?=_):=Hd ((hgrow'.block w.heap.size (by simp;omega) hne).trans ((Below.heap_alloc _ _ _ (by omega)).trans HX2.out));have hs5:w1.heap.size≤w5.heap.size:=(by have:=hgrow'.size;simp at this;omega);have HO5:Hid (w5.ownsRow w1.heap.size 3 1 v' (zG gs (k+1)).length ((zG gs (k+1)).map (Value.int .i64))):=Hd (by rw [HS.out];simpa using hown');obtain ⟨g',cap',rfl⟩:=Joins.ownsRow_form hown' (by omega);clear hown' hgrow' hO2 hne;go_wp2;go_roundw
    case rel=>exact ⟨k+1,_,by omega,by go_num,rfl,HO5,HB5,HX5,hs5⟩
    case measure=>simp [intOf];omega
  ·obtain rfl:k=Rn:=by omega
   go_wp2;go_ret;refine ⟨_,rfl,?_,HB.out⟩;exact (zq.of_owns HO.out).base (by omega) (Nat.le_refl _)
def z0a (gs:List GC) (R:Nat):List Nat:=(List.range R).filter (fun r:Nat=>!z26 gs (r:Int)) ++ [R]
theorem zhp (gs:List GC) (R:Nat):(z0a gs R).map (fun r:Nat=>(r:Int))=zG gs R ++ [(R:Int)]:=by simp [z0a,zG]
theorem z58 (gs:List GC) (R:Nat):(z0a gs R).length=(zG gs R).length+1:=by simp [z0a,zG]
theorem z7M (gs:List GC) (R:Nat):(z0a gs R).Pairwise (· < ·):=by
 refine List.pairwise_append.2 ⟨List.Pairwise.filter _ List.pairwise_lt_range,by simp,fun a ha b hb=>?_⟩;rw [List.mem_filter,List.mem_range] at ha;rw [List.mem_singleton] at hb;omega
theorem ziF {gs:List GC} {R x:Nat} (h:x ∈ z0a gs R):x≤R:=by
 rcases List.mem_append.1 h with h | h
 ·rw [List.mem_filter,List.mem_range] at h;omega
 ·rw [List.mem_singleton] at h;omega
theorem z3F {gs:List GC} {R k:Nat} (hk:k+1 < (z0a gs R).length):(z0a gs R).getD k 0 < (z0a gs R).getD (k+1) 0∧(z0a gs R).getD (k+1) 0≤R:=by
 have h1:(z0a gs R).getD k 0=(z0a gs R)[k]:=(by simp [List.getD,show k < (z0a gs R).length by omega]);have h2:(z0a gs R).getD (k+1) 0=(z0a gs R)[k+1]:=(by simp [List.getD,hk]);rw [h1,h2];exact ⟨List.pairwise_iff_getElem.1 (z7M gs R) k (k+1) (by omega) hk (by omega),ziF (List.getElem_mem _)⟩
theorem zcg {gs:List GC} {R k:Nat} (hk:k < (z0a gs R).length):(zG gs R ++ [(R:Int)]).getD k 0=(((z0a gs R).getD k 0:Nat):Int):=by
 rw [← zhp];simp [List.getD,hk]
def z1p (t:T) (hs:List Int) (a b:Nat):List (List PgS) :=
 if z06 t (a:Int)=1 then (if (b - a=1∧(t.rows.getD a dR).whole=false)∧0 < hs.getD a 0 then z0f a 0 (hs.getD a 0).toNat else [zK hs a (b - a)]) else []
theorem zap {t:T} {hs:List Int} {a b:Nat} (h:¬ z06 t (a:Int)=1):z1p t hs a b=[]:=by rw [z1p,if_neg h]
theorem zaq {t:T} {hs:List Int} {a b:Nat} (h:z06 t (a:Int)=1) (h2:(b - a=1∧(t.rows.getD a dR).whole=false)∧0 < hs.getD a 0):z1p t hs a b=z0f a 0 (hs.getD a 0).toNat:=by rw [z1p,if_pos h,if_pos h2]
theorem z7N {t:T} {hs:List Int} {a b:Nat} (h:z06 t (a:Int)=1) (h2:¬ ((b - a=1∧(t.rows.getD a dR).whole=false)∧0 < hs.getD a 0)):z1p t hs a b=[zK hs a (b - a)]:=by rw [z1p,if_pos h,if_neg h2]
def z18 (t:T) (hs:List Int) (L:List Nat):Nat→List (List PgS)
 | 0=>[]
 | k+1=>z18 t hs L k ++ z1p t hs (L.getD k 0) (L.getD (k+1) 0)
def z0X (t:T) (hs:List Int):List (List PgS):=z18 t hs (z0a (gOf t).cells t.rows.length) (zG (gOf t).cells t.rows.length).length
theorem zfX {t:T} {hs:List Int} (hb:∀ x ∈ hs,0≤x∧x≤1000) (a b:Nat):(z1p t hs a b).length≤1000:=by
 unfold z1p
 split
 ·split
  ·rename_i h
   have hm:hs.getD a 0≤1000:=by
    by_cases ha:a < hs.length
    ·exact (hb _ (by simp [List.getD,ha])).2
    ·simp [List.getD,ha]
   rw [z0f,List.length_map,List.length_range];omega
  ·simp
 ·simp
theorem z7O {t:T} {hs:List Int} (hb:∀ x ∈ hs,0≤x∧x≤1000) (L:List Nat):∀ k,(z18 t hs L k).length≤1000 * k
 | 0=>by simp [z18]
 | k+1=>by
  have:=z7O (t:=t) hb L k;have:=zfX (t:=t) hb (L.getD k 0) (L.getD (k+1) 0);rw [z18,List.length_append];omega
end
section
theorem z67 {α:Type} {l:List α} {x d:α} {k:Nat} (h:k < l.length):(l ++ [x]).getD k d=l.getD k d:=by
 simp [List.getD,List.getElem?_append_left h]
theorem z3G {α:Type} {l:List α} {x d:α}:(l ++ [x]).getD l.length d=x:=by simp [List.getD]
theorem z7P {α:Type} {l:List α} {x:α} {k:Nat} (h:k≤l.length):(l ++ [x]).take k=l.take k:=by
 rw [List.take_append_of_le_length h]
theorem zdv (gs:List GC) (r i:Nat) (e:Int) (x:C) (c:Int):z1h (z1n gs r i e x) c=z1h (z4b r i e x) c:=by simp only [z1n,z1h]
theorem zfY (gs:List GC) (r i:Nat) (e:Int) (x:C):(z1n gs r i e x).col=(z5n gs (z4b r i e x):Int):=by simp only [z1n,z1h]
structure zch (t:T) (gs:List GC) (k:Nat):Prop where
 ex:∃ r j:Nat,r < t.rows.length∧j < (t.rows.getD r dR).cells.length∧gs.getD k dG=z1n (gs.take k) r j (zV t r) ((t.rows.getD r dR).cells.getD j dC)
 free:z1c (gs.take k) (gs.getD k dG)=true
 first:∀ c:Nat,(c:Int) < (gs.getD k dG).col→z1c (gs.take k) (z1h (gs.getD k dG) c)=false
 after:0 < k→(gs.getD (k - 1) dG).row < (gs.getD k dG).row∨(gs.getD (k - 1) dG).row=(gs.getD k dG).row∧(gs.getD (k - 1) dG).ins+1=(gs.getD k dG).ins
theorem zch.snoc {t:T} {gs:List GC} {k:Nat} (x:GC) (hk:k < gs.length) (h:zch t gs k):zch t (gs ++ [x]) k:=by
 have e1:(gs ++ [x]).getD k dG=gs.getD k dG:=z67 hk;have e2:(gs ++ [x]).take k=gs.take k:=z7P (by omega);have e3:(gs ++ [x]).getD (k - 1) dG=gs.getD (k - 1) dG:=z67 (by omega);refine ⟨?_,?_,?_,?_⟩
 ·rw [e1,e2];exact h.ex
 ·rw [e1,e2];exact h.free
 ·rw [e1,e2];exact h.first
 ·rw [e1,e3];exact h.after
structure z3b (t:T) (gs:List GC) (r i:Nat):Prop where
 part:z3B t gs r i
 laid:∀ k,k < gs.length→zch t gs k
 last:0 < gs.length→(gs.getD (gs.length - 1) dG).row < r∨(gs.getD (gs.length - 1) dG).row=r∧(gs.getD (gs.length - 1) dG).ins+1=i
theorem z3b.next {t:T} {gs:List GC} {r i:Nat} (h:z3b t gs r i) (hl:Low t) (hr:r < t.rows.length) (hi:i < (t.rows.getD r dR).cells.length) :
  z3b t (gs ++ [z1n gs r i (zV t r) ((t.rows.getD r dR).cells.getD i dC)]) r (i+1):=by
 obtain ⟨⟨h1,h2,h3,h4⟩,hp⟩:=h.part.next hl hr hi;refine ⟨hp,?_,?_⟩
 ·intro k hk;rw [List.length_append,List.length_singleton] at hk;by_cases hk2:k < gs.length
  ·exact (h.laid k hk2).snoc _ hk2
  ·obtain rfl:k=gs.length:=by omega
   have e2:∀ x:GC,(gs ++ [x]).take gs.length=gs:=fun x=>by rw [z7P (Nat.le_refl _),List.take_length]
   refine ⟨?_,?_,?_,?_⟩
   ·rw [z3G,e2];exact ⟨r,i,hr,hi,rfl⟩
   ·rw [z3G,e2];exact h2
   ·rw [z3G,e2];intro c hc;rw [zfY] at hc;rw [zdv];exact h3 c (Int.ofNat_lt.1 hc)
   ·intro h0;rw [z3G,z67 (by omega)];exact h.last h0
 ·intro _;rw [List.length_append,List.length_singleton,Nat.add_sub_cancel,z3G];refine .inr ⟨rfl,?_⟩;show (i:Int)+1=((i+1:Nat):Int);omega
theorem z3b.zero (t:T):z3b t [] 0 0:=⟨z3B.zero t,fun _ hk=>absurd hk (Nat.not_lt_zero _),fun h=>absurd h (Nat.lt_irrefl _)⟩
theorem z3b.rowEnd {t:T} {gs:List GC} {r:Nat} (h:z3b t gs r (t.rows.getD r dR).cells.length):z3b t gs (r+1) 0:=by
 refine ⟨h.part.rowEnd,h.laid,fun h0=>.inl ?_⟩
 rcases h.last h0 with h1 | ⟨h1,_⟩ <;> omega
theorem zci {t:T} (hl:Low t) {r:Nat} (hr:r < t.rows.length) (h:z3b t (zX t r) r 0):∀ i,i≤(t.rows.getD r dR).cells.length→z3b t (z1P (zV t r) r (t.rows.getD r dR).cells (zX t r) i) r i
 | 0,_=>h
 | i+1,hi=>z3b.next (zci hl hr h i (by omega)) hl hr (by omega)
theorem zaX {t:T} (hl:Low t):∀ r,r≤t.rows.length→z3b t (zX t r) r 0
 | 0,_=>z3b.zero t
 | r+1,hr=>(zci hl (by omega) (zaX hl r (by omega)) _ (Nat.le_refl _)).rowEnd
theorem z8s {t:T} (hl:Low t) {k:Nat} (hk:k < (zL t).length):zch t (zL t) k:=(zaX hl _ (Nat.le_refl _)).laid k hk
theorem z3H {t:T} (hl:Low t) {a:GC} (ha:a ∈ zL t):z1o t.rows.length a:=((z6j hl _ (Nat.le_refl _)).stands a ha).1
theorem z6F (m:Int) (a:GC) (gs:List GC):z0q m (a :: gs)=z0q (max m (a.col+a.cols)) gs:=rfl
theorem z3I:∀ (gs:List GC) (m:Int),m≤z0q m gs
 | [],m=>Int.le_refl _
 | a :: gs,m=>by rw [z6F];exact Int.le_trans (Int.le_max_left _ _) (z3I gs _)
theorem z78:∀ {gs:List GC} {m:Int} {a:GC},a ∈ gs→a.col+a.cols≤z0q m gs
 | b :: gs,m,a,h=>by
  rw [z6F]
  rcases List.mem_cons.1 h with rfl | h
  ·exact Int.le_trans (Int.le_max_right _ _) (z3I gs _)
  ·exact z78 h
theorem zaY:∀ {gs:List GC} {m B:Int},m≤B→(∀ a ∈ gs,a.col+a.cols≤B)→z0q m gs≤B
 | [],m,B,h,_=>h
 | a :: gs,m,B,h,h2=>by
  rw [z6F];exact zaY (Int.max_le.2 ⟨h,h2 a (by simp)⟩) (fun b hb=>h2 b (by simp [hb]))
theorem z8L {t:T} (hl:Low t) (hc:t.cols.length≤8):1≤z0q (max 1 (t.cols.length:Int)) (zL t)∧z0q (max 1 (t.cols.length:Int)) (zL t)≤88∧(t.cols.length:Int)≤z0q (max 1 (t.cols.length:Int)) (zL t):=by
 have h1:=z3I (zL t) (max 1 (t.cols.length:Int));have h2:z0q (max 1 (t.cols.length:Int)) (zL t)≤88:=zaY (by omega) (fun a ha=>by have:=z3H hl ha;unfold z1o at this;omega);omega
theorem z8M {t:T} (hl:Low t) {a:GC} (ha:a ∈ zL t):z0U t.rows.length (z0q (max 1 (t.cols.length:Int)) (zL t)) a=true:=by
 have h1:=z3H hl ha;have h2:=z78 (m:=max 1 (t.cols.length:Int)) ha;unfold z1o at h1;simp only [z0U,inB,Bool.and_eq_true,decide_eq_true_eq];omega
theorem zfZ {t:T} (hl:Low t) (hr:1≤t.rows.length) (hc:t.cols.length≤8):okB ⟨t.rows.length,z0q (max 1 (t.cols.length:Int)) (zL t),zL t⟩=true:=by
 have hb:=z8L hl hc;have h8:=hl.rows;have hlen:=z76 hl t.rows.length;unfold okB;rw [Bool.and_eq_true];constructor
 ·refine z7J ?_ ?_ ?_
  ·simp [inB];omega
  ·simp [inB];omega
  ·show (zX t t.rows.length).length≤40;omega
 ·refine List.all_eq_true.2 (fun i hi=>?_);have hi:i < (zL t).length:=List.mem_range.1 hi;rw [Bool.and_eq_true];exact ⟨z8M hl (z2i hi),(z8s hl hi).free⟩
end
section
open Go.RowKit
def TA (w:World) (z:Nat) (ac ar:Option Addr) (cc cr:Nat) (t:T):Prop:=z07 w z (.slice ac t.cols.length cc) t.cols∧z01 w z (.slice ar t.rows.length cr) t.rows
theorem TA.kept {w w':World} {z:Nat} {ac ar:Option Addr} {cc cr:Nat} {t:T} (h:TA w z ac ar cc cr t) (hb:Below w.heap.size w w'):TA w' z ac ar cc cr t:=⟨h.1.kept hb,h.2.kept hb⟩
def St (w:World) (tb:Nat) (ac ar:Option Addr) (cc cr:Nat) (t:T) (W:World):Prop:=Below w.heap.size w W∧TA W w.heap.size ac ar cc cr t∧W.heap[tb]?=some (.cells #[.slice ac t.cols.length cc,.int .i64 t.head,.int .i64 t.foot,.slice ar t.rows.length cr,.int .i64 t.gap] 26)
theorem St.kept {w W W':World} {tb:Nat} {ac ar:Option Addr} {cc cr:Nat} {t:T} (h:St w tb ac ar cc cr t W) (hb:Below W.heap.size W W'):St w tb ac ar cc cr t W' :=
 ⟨h.1.trans (hb.mono h.1.size),h.2.1.kept hb,(hb.block tb (bL h.2.2)).trans h.2.2⟩
theorem St.at {w W:World} {tb:Nat} {ac ar:Option Addr} {cc cr:Nat} {t:T} (h:St w tb ac ar cc cr t W):(W.cell? ⟨tb,0,none⟩=some (.slice ac t.cols.length cc)∧W.cell? ⟨tb,1,none⟩=some (.int .i64 t.head)∧W.cell? ⟨tb,2,none⟩=some (.int .i64 t.foot)∧W.cell? ⟨tb,3,none⟩=some (.slice ar t.rows.length cr)∧W.cell? ⟨tb,4,none⟩=some (.int .i64 t.gap)):=(z23 h.2.2).1
theorem z6N {t:T} (hD:z0g t):∀ x ∈ (gOf t).cells,GOk x:=by
 unfold gOf
 split
 ·rename_i h
  have hl:=z3E h hD;exact fun x hx=>(z3H hl hx).gok hl.rows
 ·intro x hx
  cases hx
def SGr (w:World) (tb gb:Nat) (ac ar:Option Addr) (cc cr:Nat) (t:T) (ag:Option Addr) (cg:Nat) (W:World):Prop :=
 St w tb ac ar cc cr t W∧z1I W w.heap.size (.slice ag (gOf t).cells.length cg) (gOf t).cells∧W.heap[gb]?=some (.cells #[.int .i64 (gOf t).rows,.int .i64 (gOf t).cols,.slice ag (gOf t).cells.length cg] 63)
theorem SGr.kept {w W W':World} {tb gb:Nat} {ac ar ag:Option Addr} {cc cr cg:Nat} {t:T} (h:SGr w tb gb ac ar cc cr t ag cg W) (hb:Below W.heap.size W W'):SGr w tb gb ac ar cc cr t ag cg W' :=
 ⟨h.1.kept hb,h.2.1.kept hb,(hb.block gb (bL h.2.2)).trans h.2.2⟩
theorem SGr.at {w W:World} {tb gb:Nat} {ac ar ag:Option Addr} {cc cr cg:Nat} {t:T} (h:SGr w tb gb ac ar cc cr t ag cg W):W.cell? ⟨gb,0,none⟩=some (.int .i64 (gOf t).rows)∧W.cell? ⟨gb,1,none⟩=some (.int .i64 (gOf t).cols)∧W.cell? ⟨gb,2,none⟩=some (.slice ag (gOf t).cells.length cg) :=
 ⟨zf h.2.2,zf h.2.2,zf h.2.2⟩
theorem z5w {w:World} {base:Nat} {v:Value} {gs:List GC} (h:z91 w base v gs):∃ a cap,v=.slice a gs.length cap:=by
 rcases h.2 with ⟨rfl,hn⟩ | ⟨g,cap,cur,rfl,_⟩
 ·exact ⟨none,0,by rw [hn]⟩
 ·exact ⟨_,cap,rfl⟩
theorem z2q {t:T} (h:zC t=true):gOf t=⟨t.rows.length,z0q (max 1 (t.cols.length:Int)) (zL t),zL t⟩:=by unfold gOf;rw [if_pos h]
theorem zcj {t:T} (h:zC t=false):gOf t=⟨0,0,[]⟩:=by unfold gOf;rw [if_neg (by rw [h];simp)]
def SCe (w:World) (tb gb cb:Nat) (ac ar:Option Addr) (cc cr:Nat) (t:T) (ag:Option Addr) (cg:Nat) (x:GC) (W:World):Prop :=
 SGr w tb gb ac ar cc cr t ag cg W∧W.heap[cb]?=some (.cells #[.int .i64 x.row,.int .i64 x.col,.int .i64 x.rows,.int .i64 x.cols,.int .i64 x.ins] 112)
theorem SCe.kept {w W W':World} {tb gb cb:Nat} {ac ar ag:Option Addr} {cc cr cg:Nat} {t:T} {x:GC} (h:SCe w tb gb cb ac ar cc cr t ag cg x W) (hb:Below W.heap.size W W'):SCe w tb gb cb ac ar cc cr t ag cg x W' :=
 ⟨h.1.kept hb,(hb.block cb (bL h.2)).trans h.2⟩
theorem SCe.at {w W:World} {tb gb cb:Nat} {ac ar ag:Option Addr} {cc cr cg:Nat} {t:T} {x:GC} (h:SCe w tb gb cb ac ar cc cr t ag cg x W):W.cell? ⟨cb,0,none⟩=some (.int .i64 x.row)∧W.cell? ⟨cb,1,none⟩=some (.int .i64 x.col)∧W.cell? ⟨cb,2,none⟩=some (.int .i64 x.rows)∧W.cell? ⟨cb,3,none⟩=some (.int .i64 x.cols)∧W.cell? ⟨cb,4,none⟩=some (.int .i64 x.ins) :=
 ⟨zf h.2,zf h.2,zf h.2,zf h.2,zf h.2⟩
def zii (x:GC):Prop:=(0≤x.row∧x.row≤8)∧(0≤x.col∧x.col≤84)∧(1≤x.rows∧x.rows≤3)∧(1≤x.cols∧x.cols≤4)∧0≤x.ins∧x.ins≤4
theorem z1o.small {n:Nat} {a:GC} (hn:n≤8) (h:z1o n a):zii a:=by
 unfold z1o at h;unfold zii;omega
structure Pos where
 row:Int
 line:Int
 seen:Bool
def z59 (hs:List Int) (p:Pos) (r:Int):Pos:=if p.seen=true∧r=p.row+1∧p.line=hs.getD p.row.toNat 0 then ⟨p.row+1,0,true⟩ else p
def okS (hs:List Int) (q:Pos) (s:PgS):Prop:=s.r=q.row∧s.f=q.line∧s.f≤s.t∧s.t≤hs.getD q.row.toNat 0∧¬ (s.f=s.t∧0 < hs.getD q.row.toNat 0)
def z4i (hs:List Int) (p:Pos) (s:PgS):Pos:=⟨(z59 hs p s.r).row,s.t,true⟩
def z1X (hs:List Int) (p:Pos) (l:List PgS):Pos:=l.foldl (z4i hs) p
def z1q (hs:List Int):Pos→List PgS→Prop
 | _,[]=>True
 | p,s :: l=>okS hs (z59 hs p s.r) s∧z1q hs (z4i hs p s) l
theorem z2L (hs:List Int) (p:Pos) (a b:List PgS):z1X hs p (a ++ b)=z1X hs (z1X hs p a) b:=by simp [z1X]
theorem z20 (hs:List Int):∀ (a:List PgS) (p:Pos) (b:List PgS),z1q hs p (a ++ b) ↔ z1q hs p a∧z1q hs (z1X hs p a) b
 | [],p,b=>by simp [z1q,z1X]
 | s :: a,p,b=>by
  rw [List.cons_append,z1q,z1q,z20 hs a,and_assoc];exact Iff.rfl
theorem z6O (hs:List Int) (p:Pos) (s:PgS):z1q hs p [s] ↔ okS hs (z59 hs p s.r) s:=by simp [z1q]
theorem z5Y (hs:List Int) (p:Pos) (s:PgS):z1X hs p [s]=z4i hs p s:=rfl
theorem z5x {hs:List Int}:∀ {l:List PgS} {p:Pos},z1q hs p l→∀ s ∈ l,s.f≤s.t
 | [],_,_,s,h=>by cases h
 | x :: l,p,h,s,hs'=>by
  rcases List.mem_cons.1 hs' with rfl | hm
  ·exact h.1.2.2.1
  ·exact z5x h.2 s hm
theorem z5y:∀ {l:List PgS},(∀ s ∈ l,s.f≤s.t)→0≤hiS l
 | [],_=>by simp [hiS]
 | x :: l,h=>by
  have:=z5y (l:=l) (fun s hs=>h s (List.mem_cons_of_mem _ hs));have:=h x (by simp);have e:hiS (x :: l)=x.t - x.f+hiS l:=(by simp [hiS]);omega
theorem zg0 {hs:List Int} {p:Pos} {a:List PgS} {l s:PgS} (h:z1q hs p (a ++ [l] ++ [s])) (e:l.r=s.r) :
  l.t=s.f∧z1q hs p (a ++ [⟨l.r,l.f,s.t⟩])∧z1X hs p (a ++ [⟨l.r,l.f,s.t⟩])=z1X hs p (a ++ [l] ++ [s]):=by
 rw [z20,z20,z6O,z6O,z2L,z5Y] at h;obtain ⟨⟨h1,h2⟩,h3⟩:=h;rw [z20,z6O,z2L,z2L,z2L,z5Y,z5Y,z5Y];generalize z1X hs p a=q at h2 h3 ⊢;obtain ⟨a1,a2,a3,a4,a5⟩:=h2
 have e1:z59 hs (z4i hs q l) s.r=z4i hs q l:=by
  unfold z59;rw [if_neg];rintro ⟨_,h,_⟩;rw [z4i] at h;simp only at h;rw [← a1] at h;omega
 rw [e1] at h3;obtain ⟨b1,b2,b3,b4,b5⟩:=h3;simp only [z4i] at b1 b2 b4 b5;refine ⟨b2.symm,⟨h1,⟨a1,a2,by simp only;omega,b4,?_⟩⟩,?_⟩
 ·rintro ⟨h4,h5⟩;simp only at h4;exact b5 ⟨by omega,h5⟩
 ·show (⟨(z59 hs q l.r).row,s.t,true⟩:Pos)=⟨(z59 hs (z4i hs q l) s.r).row,s.t,true⟩;rw [e1];rfl
theorem z6l (a:List PgS) (l s:PgS):z2g (a ++ [l]) s=if l.r=s.r then a ++ [⟨l.r,l.f,s.t⟩] else a ++ [l] ++ [s]:=by simp [z2g]
theorem zhq {hs:List Int} {p:Pos} {page:List PgS} {s:PgS} (h:z1q hs p (page ++ [s])) :
  z1q hs p (z2g page s)∧z1X hs p (z2g page s)=z1X hs p (page ++ [s])∧hiS (z2g page s)=hiS page+(s.t - s.f):=by
 rcases List.eq_nil_or_concat page with rfl | ⟨a,l,rfl⟩
 ·exact ⟨h,rfl,by simp [z2g,hiS]⟩
 ·rw [List.concat_eq_append] at h ⊢;rw [z6l];by_cases e:l.r=s.r
  ·rw [if_pos e];obtain ⟨h1,h2,h3⟩:=zg0 h e;refine ⟨h2,h3,?_⟩;rw [z1Q,z1Q,z36,z36];simp only;omega
  ·rw [if_neg e];exact ⟨h,rfl,by rw [z1Q,z36]⟩
theorem zck {hs:List Int} {p:Pos}:∀ {piece page:List PgS},z1q hs p (page ++ piece)→z1q hs p (zT page piece)∧z1X hs p (zT page piece)=z1X hs p (page ++ piece)∧hiS (zT page piece)=hiS page+hiS piece
 | [],page,h=>by
  rw [List.append_nil] at h ⊢;exact ⟨h,rfl,by simp [zT,hiS]⟩
 | s :: l,page,h=>by
  have e:page ++ s :: l=page ++ [s] ++ l:=(by simp);rw [e,z20] at h;obtain ⟨h1,h2⟩:=h;obtain ⟨a1,a2,a3⟩:=zhq h1;rw [← a2] at h2;have h3:z1q hs p (z2g page s ++ l):=(z20 hs _ _ _).2 ⟨a1,h2⟩;obtain ⟨b1,b2,b3⟩:=zck h3;refine ⟨b1,?_,?_⟩
  ·show z1X hs p (zT (z2g page s) l)=_;rw [b2,e,z2L,z2L,a2]
  ·show hiS (zT (z2g page s) l)=_;have:hiS (s :: l)=s.t - s.f+hiS l:=(by simp [hiS]);omega
theorem zaZ {hs:List Int} {p:Pos}:∀ {ps:List (List PgS)} {page:List PgS},z1q hs p (page ++ ps.flatten)→z1q hs p (ps.foldl zT page)∧z1X hs p (ps.foldl zT page)=z1X hs p (page ++ ps.flatten)∧hiS (ps.foldl zT page)=hiS page+hiS ps.flatten
 | [],page,h=>by
  rw [List.flatten_nil,List.append_nil] at h ⊢;exact ⟨h,rfl,by simp [hiS]⟩
 | x :: l,page,h=>by
  rw [List.flatten_cons,← List.append_assoc,z20] at h;obtain ⟨h1,h2⟩:=h;obtain ⟨a1,a2,a3⟩:=zck h1;rw [← a2] at h2;obtain ⟨b1,b2,b3⟩:=zaZ ((z20 hs _ _ _).2 ⟨a1,h2⟩);rw [List.foldl_cons];refine ⟨b1,?_,?_⟩
  ·rw [b2,z2L,List.flatten_cons,← List.append_assoc,z2L,a2]
  ·rw [b3,a3,List.flatten_cons,z1Q];omega
theorem zhr (page:List PgS) (s:PgS):(z2g page s).length≤page.length+1:=by
 rcases List.eq_nil_or_concat page with rfl | ⟨a,l,rfl⟩
 ·simp [z2g]
 ·rw [List.concat_eq_append,z6l]
  split <;> simp
theorem zcl:∀ (piece page:List PgS),(zT page piece).length≤page.length+piece.length
 | [],page=>by simp [zT]
 | s :: l,page=>by
  have h1:=zcl l (z2g page s);have h2:=zhr page s;show (zT (z2g page s) l).length≤_;rw [List.length_cons];omega
theorem zb0:∀ (ps:List (List PgS)) (page:List PgS),(ps.foldl zT page).length≤page.length+ps.flatten.length
 | [],page=>by simp
 | x :: l,page=>by
  have h1:=zb0 l (zT page x);have h2:=zcl x page;rw [List.foldl_cons,List.flatten_cons,List.length_append];omega
theorem z7Q (r f:Int) (k:Nat):z0f r f (k+1)=z0f r f k ++ [[⟨r,f+k,f+k+1⟩]]:=by simp [z0f,List.range_succ]
def z4j (hs:List Int) (p:Pos) (a:Nat):Prop:=p=⟨a,0,false⟩∨(1≤a∧p=⟨(a:Int) - 1,hs.getD (a - 1) 0,true⟩)
theorem zg1 {hs:List Int} {p:Pos} {a:Nat} (h:z4j hs p a):(z59 hs p a).row=a∧(z59 hs p a).line=0:=by
 rcases h with rfl | ⟨h1,rfl⟩
 ·unfold z59;simp
 ·unfold z59;have e:((a:Int) - 1).toNat=a - 1:=(by omega);rw [if_pos ⟨rfl,by simp only;omega,by simp only [e]⟩];exact ⟨by simp only;omega,rfl⟩
theorem z8N {hs:List Int} {p:Pos} {a:Nat} (h:z4j hs p a) {t:Int} (h0:0≤t) (h1:t≤hs.getD a 0) (h2:¬ (0=t∧0 < hs.getD a 0)):z1q hs p [⟨a,0,t⟩]∧z1X hs p [⟨a,0,t⟩]=⟨a,t,true⟩:=by
 obtain ⟨e1,e2⟩:=zg1 h;refine ⟨(z6O hs _ _).2 ⟨e1.symm,e2.symm,h0,?_,?_⟩,?_⟩
 ·rw [e1,Int.toNat_natCast];exact h1
 ·rw [e1,Int.toNat_natCast];exact h2
 ·rw [z5Y,z4i];simp only [e1]
theorem zb1 {hs:List Int} (hb:∀ x ∈ hs,0≤x):∀ (n a:Nat) (p:Pos),z4j hs p a→z1q hs p (zK hs a n)∧z4j hs (z1X hs p (zK hs a n)) (a+n)
 | 0,a,p,h=>⟨trivial,h⟩
 | n+1,a,p,h=>by
  have h0:0≤hs.getD a 0:=by
   by_cases ha:a < hs.length
   ·exact hb _ (by simp [List.getD,ha])
   ·simp [List.getD,ha]
  obtain ⟨h1,h2⟩:=z8N h h0 (Int.le_refl _) (by omega);have hr:z4j hs ⟨(a:Int),hs.getD a 0,true⟩ (a+1):=.inr ⟨by omega,by simp⟩;obtain ⟨i1,i2⟩:=zb1 hb n (a+1) _ hr;rw [← h2] at i1 i2;rw [zK];have e:a+1+n=a+(n+1):=(by omega);rw [e] at i2;exact ⟨(z20 hs [_] p _).2 ⟨h1,i1⟩,i2⟩
theorem zb2 {hs:List Int} {a:Nat}:∀ (n:Nat) (f:Int),f+n≤hs.getD a 0→z1q hs ⟨a,f,true⟩ (z0f a f n).flatten∧z1X hs ⟨a,f,true⟩ (z0f a f n).flatten=⟨a,f+n,true⟩
 | 0,f,_=>by simp [z0f,z1q,z1X]
 | n+1,f,h=>by
  rw [z4e,List.flatten_cons]
  have e1:z59 hs ⟨a,f,true⟩ a=⟨a,f,true⟩:=by
   unfold z59;rw [if_neg];rintro ⟨_,h,_⟩;simp only at h;omega
  have h1:z1q hs ⟨a,f,true⟩ [⟨a,f,f+1⟩]:=by
   rw [z6O];simp only;rw [e1];exact ⟨rfl,rfl,by simp only;omega,by show f+1≤hs.getD (a:Int).toNat 0;rw [Int.toNat_natCast];omega,by simp only;omega⟩
  have h2:z1X hs ⟨a,f,true⟩ [⟨a,f,f+1⟩]=⟨a,f+1,true⟩:=by
   rw [z5Y,z4i];simp only;rw [e1]
  obtain ⟨i1,i2⟩:=zb2 (hs:=hs) (a:=a) n (f+1) (by omega);rw [z20,z2L,h2,i2];refine ⟨⟨h1,i1⟩,?_⟩
  congr 1
  omega
theorem ziG {hs:List Int} {p:Pos} {a:Nat} (h:z4j hs p a) (h0:0 < hs.getD a 0):z1q hs p (z0f a 0 (hs.getD a 0).toNat).flatten∧z4j hs (z1X hs p (z0f a 0 (hs.getD a 0).toNat).flatten) (a+1):=by
 obtain ⟨m,hm⟩:∃ m:Nat,hs.getD a 0=((m+1:Nat):Int):=⟨(hs.getD a 0).toNat - 1,by omega⟩;have e:(hs.getD a 0).toNat=m+1:=(by omega);rw [e,z4e,List.flatten_cons];obtain ⟨h1,h2⟩:=z8N (t:=1) h (by omega) (by omega) (by omega);obtain ⟨i1,i2⟩:=zb2 (hs:=hs) (a:=a) m 1 (by omega);have e2:(0:Int)+1=1:=rfl;rw [e2,z20,z2L,h2,i2];refine ⟨⟨h1,i1⟩,.inr ⟨by omega,?_⟩⟩;have e3:a+1 - 1=a:=(by omega);rw [e3,hm]
 congr 1 <;> omega
theorem zjo {t:T} {hs:List Int} (hb:∀ x ∈ hs,0≤x) {a b:Nat} (hab:a < b) (hp:z06 t (a:Int)=1) {p:Pos} (h:z4j hs p a):z1q hs p (z1p t hs a b).flatten∧z4j hs (z1X hs p (z1p t hs a b).flatten) b:=by
 by_cases h2:(b - a=1∧(t.rows.getD a dR).whole=false)∧0 < hs.getD a 0
 ·rw [zaq hp h2];have e:b=a+1:=(by omega);rw [e];exact ziG h h2.2
 ·rw [z7N hp h2];have e:b=a+(b - a):=(by omega);have:=zb1 hb (b - a) a p h;rw [← e] at this;rw [List.flatten_cons,List.flatten_nil,List.append_nil];exact this
theorem z9G {t:T} (hD:z0g t) (hok:zC t=true) (q:Int) (hq:q=t.head∨q=(t.rows.length:Int) - t.foot):z26 (gOf t).cells q=false:=by
 have hl:=z3E hok hD;have hbb:=z0Q hok
 have h3:t.foot≤(t.rows.length:Int) - t.head:=by
  simp only [zC,z25,inB,Bool.and_eq_true,decide_eq_true_eq] at hok;exact hok.2.1.2.2
 rw [z2q hok]
 cases hc:z26 (zL t) q with
 | false=>rfl
 | true =>
  exfalso
  obtain ⟨x,hx,ho⟩:=List.any_eq_true.1 hc;obtain ⟨k,hk,rfl⟩:=List.mem_iff_getElem.1 hx;obtain ⟨r,j,hr,hj,he⟩:=(z8s hl hk).ex;have e:(zL t).getD k dG=(zL t)[k]:=(by simp [List.getD,hk]);rw [e] at he;rw [he] at ho;simp only [z22,z1n,z1h,z4b,Bool.and_eq_true] at ho;unfold zV at ho;obtain ⟨h1,h2⟩:=ho;replace h1:=of_decide_eq_true h1;replace h2:=of_decide_eq_true h2
  rcases hq with rfl | rfl
  ·rw [if_pos h1] at h2;omega
  ·by_cases h4:(r:Int) < t.head
   ·rw [if_pos h4] at h2;omega
   ·rw [if_neg h4,if_neg (by omega)] at h2;omega
theorem zcm {t:T} (hok:zC t=true):∃ H E:Nat,t.head=H∧(t.rows.length:Int) - t.foot=E∧H≤E∧E≤t.rows.length∧1≤t.rows.length∧t.rows.length≤8:=by
 have hbb:=z0Q hok
 have h3:t.foot≤(t.rows.length:Int) - t.head:=by
  simp only [zC,z25,inB,Bool.and_eq_true,decide_eq_true_eq] at hok;exact hok.2.1.2.2
 exact ⟨t.head.toNat,((t.rows.length:Int) - t.foot).toNat,by omega,by omega,by omega,by omega,hbb.1.1,hbb.1.2⟩
theorem z92 {gs:List GC} {R x:Nat} (hx:x≤R) (h:x < R→z26 gs (x:Int)=false):x ∈ z0a gs R:=by
 rcases Nat.lt_or_eq_of_le hx with h1 | rfl
 ·refine List.mem_append.2 (.inl (List.mem_filter.2 ⟨List.mem_range.2 h1,?_⟩));rw [h h1];rfl
 ·exact List.mem_append.2 (.inr (List.mem_singleton.2 rfl))
theorem zb3 {gs:List GC} {R k x:Nat} (hk:k+1 < (z0a gs R).length) (hx:x ∈ z0a gs R) (h:(z0a gs R).getD k 0 < x):(z0a gs R).getD (k+1) 0≤x:=by
 obtain ⟨j,hj,rfl⟩:=List.mem_iff_getElem.1 hx;have h1:(z0a gs R).getD k 0=(z0a gs R)[k]:=(by simp [List.getD,show k < (z0a gs R).length by omega]);have h2:(z0a gs R).getD (k+1) 0=(z0a gs R)[k+1]:=(by simp [List.getD,hk]);rw [h1] at h;rw [h2];have hp:=List.pairwise_iff_getElem.1 (z7M gs R)
 rcases Nat.lt_or_ge k j with h3 | h3
 ·rcases Nat.lt_or_eq_of_le (show k+1≤j by omega) with h4 | h4
  ·have:=hp (k+1) j hk hj h4;omega
  ·subst h4;exact Nat.le_refl _
 ·rcases Nat.lt_or_eq_of_le h3 with h4 | h4
  ·have:=hp j k hj (by omega) h4;omega
  ·subst h4;omega
theorem zeH {t:T} (hD:z0g t) (hok:zC t=true):z26 (gOf t).cells 0=false:=by
 rw [z2q hok]
 cases hc:z26 (zL t) 0 with
 | false=>rfl
 | true =>
  exfalso
  obtain ⟨x,hx,ho⟩:=List.any_eq_true.1 hc;have:=(z3H (z3E hok hD) hx).1.1;simp only [z22,Bool.and_eq_true,decide_eq_true_eq] at ho;omega
theorem zeI {t:T} (hD:z0g t) (hok:zC t=true):(z0a (gOf t).cells t.rows.length).getD 0 0=0:=by
 have hb:=z0Q hok;obtain ⟨n,hn⟩:∃ n,t.rows.length=n+1:=Nat.exists_eq_succ_of_ne_zero (by omega);have hm:(0:Nat) ∈ z0a (gOf t).cells t.rows.length:=z92 (by omega) (fun _=>zeH hD hok);obtain ⟨j,hj,e⟩:=List.mem_iff_getElem.1 hm;have hl:0 < (z0a (gOf t).cells t.rows.length).length:=(by omega);have h1:(z0a (gOf t).cells t.rows.length).getD 0 0=(z0a (gOf t).cells t.rows.length)[0]:=(by simp [List.getD,hl]);rw [h1]
 rcases Nat.eq_zero_or_pos j with rfl | h2
 ·exact e
 ·have:=List.pairwise_iff_getElem.1 (z7M (gOf t).cells t.rows.length) 0 j hl hj h2;omega
theorem z7R (gs:List GC) (R:Nat):(z0a gs R).getD ((zG gs R).length) 0=R:=by
 have e:(zG gs R).length=((List.range R).filter (fun r:Nat=>!z26 gs (r:Int))).length:=(by simp [zG]);rw [e,z0a];simp [List.getD]
def z3J (H E x:Nat):Nat:=max H (min x E)
theorem zg2 {t:T} (hok:zC t=true) {H E:Nat} (hH:t.head=H) (hE:(t.rows.length:Int) - t.foot=E) {a:Nat} (ha:a < t.rows.length):z06 t (a:Int)=1 ↔ H≤a∧a < E:=by
 unfold z06;rw [if_pos ⟨hok,by unfold inB;exact decide_eq_true (by omega)⟩,hH,hE];by_cases h1:(a:Int) < (H:Int)
 ·rw [if_pos h1];constructor
  ·intro h;cases h
  ·intro h;omega
 ·rw [if_neg h1];by_cases h2:(E:Int)≤(a:Int)
  ·rw [if_pos h2];constructor
   ·intro h;cases h
   ·intro h;omega
  ·rw [if_neg h2];constructor
   ·intro _;omega
   ·intro _;rfl
theorem zb4 {t:T} (hD:z0g t) (hok:zC t=true) {hs:List Int} (hb:∀ x ∈ hs,0≤x) {H E:Nat} (hH:t.head=H) (hE:(t.rows.length:Int) - t.foot=E) (hHE:H≤E) (hER:E≤t.rows.length) :
  ∀ k,k < (z0a (gOf t).cells t.rows.length).length→z1q hs ⟨t.head,0,false⟩ (z18 t hs (z0a (gOf t).cells t.rows.length) k).flatten∧z4j hs (z1X hs ⟨t.head,0,false⟩ (z18 t hs (z0a (gOf t).cells t.rows.length) k).flatten) (z3J H E ((z0a (gOf t).cells t.rows.length).getD k 0))
 | 0,_=>by
  rw [z18,zeI hD hok,List.flatten_nil];refine ⟨trivial,.inl ?_⟩;rw [hH];show (⟨(H:Int),0,false⟩:Pos)=_
  congr 1
  unfold z3J;omega
 | k+1,hk=>by
  obtain ⟨h1,h2⟩:=zb4 hD hok hb hH hE hHE hER k (by omega);obtain ⟨s1,s2⟩:=z3F hk;have hmH:H ∈ z0a (gOf t).cells t.rows.length:=z92 (by omega) (fun _=>z9G hD hok _ (.inl hH.symm));have hmE:E ∈ z0a (gOf t).cells t.rows.length:=z92 hER (fun _=>z9G hD hok _ (.inr hE.symm));have nH:=zb3 hk hmH;have nE:=zb3 hk hmE;rw [z18,List.flatten_append,z20,z2L];generalize z1X hs ⟨t.head,0,false⟩ (z18 t hs (z0a (gOf t).cells t.rows.length) k).flatten=q at h2 ⊢;generalize (z0a (gOf t).cells t.rows.length).getD k 0=a at s1 h2 nH nE ⊢;generalize (z0a (gOf t).cells t.rows.length).getD (k+1) 0=b at s1 s2 nH nE ⊢;have hp:=zg2 hok hH hE (a:=a) (by omega);by_cases h3:z06 t (a:Int)=1
  ·have h4:=hp.1 h3;have e1:z3J H E a=a:=(by unfold z3J;omega)
   have e2:z3J H E b=b:=by
    have:=nE (by omega);unfold z3J;omega
   rw [e1] at h2;rw [e2];obtain ⟨i1,i2⟩:=zjo hb s1 h3 h2;exact ⟨⟨h1,i1⟩,i2⟩
  ·have e:z3J H E a=z3J H E b:=by
    have h4:¬ (H≤a∧a < E):=fun h=>h3 (hp.2 h);unfold z3J;omega
   rw [zap h3,List.flatten_nil,← e];exact ⟨⟨h1,trivial⟩,h2⟩
theorem z93 {t:T} (hD:z0g t) (hok:zC t=true) {hs:List Int} (hb:∀ x ∈ hs,0≤x) {H E:Nat} (hH:t.head=H) (hE:(t.rows.length:Int) - t.foot=E) (hHE:H≤E) (hER:E≤t.rows.length) :
  z1q hs ⟨t.head,0,false⟩ (z0X t hs).flatten∧z4j hs (z1X hs ⟨t.head,0,false⟩ (z0X t hs).flatten) E:=by
 have:=zb4 hD hok hb hH hE hHE hER (zG (gOf t).cells t.rows.length).length (by rw [z58];omega);rw [z7R] at this;have e:z3J H E t.rows.length=E:=(by unfold z3J;omega);rw [e] at this;exact this
theorem zb5 {hs:List Int} (hb:∀ x ∈ hs,0≤x∧x≤1000):∀ n a,hiS (zK hs a n)≤1000 * n
 | 0,a=>by simp [zK,hiS]
 | n+1,a=>by
  have h0:hs.getD a 0≤1000:=by
   by_cases ha:a < hs.length
   ·exact (hb _ (by simp [List.getD,ha])).2
   ·simp [List.getD,ha]
  have:=zb5 hb n (a+1);have e:hiS (zK hs a (n+1))=hs.getD a 0 - 0+hiS (zK hs (a+1) n):=(by simp [zK,hiS]);omega
theorem z94 (r f:Int):∀ n,hiS (z0f r f n).flatten=n
 | 0=>by simp [z0f,hiS]
 | n+1=>by
  rw [z7Q,List.flatten_append,z1Q,z94 r f n,List.flatten_cons,List.flatten_nil,List.append_nil,z36];simp only;omega
theorem zb6 (r f:Int):∀ n,(z0f r f n).flatten.length=n
 | 0=>rfl
 | n+1=>by
  rw [z7Q,List.flatten_append,List.length_append,zb6 r f n];rfl
theorem zk2 {t:T} {hs:List Int} (hb:∀ x ∈ hs,0≤x∧x≤1000) {a b:Nat} (hab:a < b):hiS (z1p t hs a b).flatten≤1000 * ((b:Int) - a)∧(z1p t hs a b).flatten.length≤1000 * (b - a):=by
 unfold z1p
 split
 ·split
  ·have hm:hs.getD a 0≤1000:=by
    by_cases ha:a < hs.length
    ·exact (hb _ (by simp [List.getD,ha])).2
    ·simp [List.getD,ha]
   rw [z94,zb6];omega
  ·have:=zb5 hb (b - a) a;rw [List.flatten_cons,List.flatten_nil,List.append_nil,z1O];omega
 ·simp [hiS];omega
theorem zcn {t:T} {hs:List Int} (hb:∀ x ∈ hs,0≤x∧x≤1000) {gs:List GC} {R:Nat}:∀ k,k < (z0a gs R).length→hiS (z18 t hs (z0a gs R) k).flatten≤1000 * (z0a gs R).getD k 0∧(z18 t hs (z0a gs R) k).flatten.length≤1000 * (z0a gs R).getD k 0
 | 0,_=>by
  simp [z18,hiS];omega
 | k+1,hk=>by
  have ih:=zcn (t:=t) hb (gs:=gs) (R:=R) k (by omega);obtain ⟨s1,_⟩:=z3F hk;have h1:=zk2 (t:=t) hb s1;rw [z18,List.flatten_append,z1Q,List.length_append];omega
theorem ze9 {t:T} {hs:List Int} (hb:∀ x ∈ hs,0≤x∧x≤1000):hiS (z0X t hs).flatten≤1000 * t.rows.length∧(z0X t hs).flatten.length≤1000 * t.rows.length:=by
 have:=zcn (t:=t) hb (gs:=(gOf t).cells) (R:=t.rows.length) (zG (gOf t).cells t.rows.length).length (by rw [z58];omega);rw [z7R] at this;exact this
theorem z5I {t:T} (hD:z0g t) (hok:zC t=true) {hs:List Int} (hb:∀ x ∈ hs,0≤x∧x≤1000) {A B C:List (List PgS)} (h:z0X t hs=A ++ B ++ C) :
  (0≤hiS (B.foldl zT [])∧hiS (B.foldl zT [])≤1000000)∧(B.foldl zT []).length≤50000∧hiS (B.foldl zT [])=hiS B.flatten:=by
 obtain ⟨H,E,hH,hE,h1,h2,h3,h4⟩:=zcm hok;have hr:=(z93 hD hok (fun x hx=>(hb x hx).1) hH hE h1 h2).1;have hh:=ze9 (t:=t) hb;rw [h,List.flatten_append,List.flatten_append] at hr hh;rw [z20,z20] at hr;obtain ⟨⟨r1,r2⟩,r3⟩:=hr;have n1:=z5y (z5x r1);have n2:=z5y (z5x r2);have n3:=z5y (z5x r3);rw [z1Q,z1Q,List.length_append,List.length_append] at hh;have r4:=zaZ (page:=[]) (by simpa using r2);have l4:=zb0 B [];rw [r4.2.2];simp only [List.length_nil] at l4;have e0:hiS []=0:=rfl;omega
theorem zg3 {t:T} (hD:z0g t) (hok:zC t=true) {hs:List Int} (hb:∀ x ∈ hs,0≤x∧x≤1000) {p:List PgS} (hp:p ∈ z0X t hs):(0≤hiS p∧hiS p≤1000000)∧p.length≤50000:=by
 obtain ⟨A,C,e⟩:=List.append_of_mem hp;obtain ⟨H,E,hH,hE,h1,h2,h3,h4⟩:=zcm hok;have hr:=(z93 hD hok (fun x hx=>(hb x hx).1) hH hE h1 h2).1;have hh:=ze9 (t:=t) hb;rw [e,List.flatten_append,List.flatten_cons] at hr hh;rw [z20,z20] at hr;obtain ⟨r1,r2,r3⟩:=hr;have n1:=z5y (z5x r1);have n2:=z5y (z5x r2);have n3:=z5y (z5x r3);rw [z1Q,z1Q,List.length_append,List.length_append] at hh;omega
def z2Y (rm:List Int) (st:List (List (List PgS)) × List (List PgS)) (p:List PgS):List (List (List PgS)) × List (List PgS) :=
 if z0B (st.2.foldl zT []) p (zD rm st.1.length) then (st.1,st.2 ++ [p]) else (st.1 ++ [st.2],[p])
def z1F (g:List (List PgS)):List PgS:=g.foldl zT []
theorem zeJ (rm:List Int) (st:List (List (List PgS)) × List (List PgS)) (p:List PgS):zQ rm (st.1.map z1F,z1F st.2) p=((z2Y rm st p).1.map z1F,z1F (z2Y rm st p).2):=by
 unfold zQ z2Y;simp only [List.length_map];show (if z0B (st.2.foldl zT []) p (zD rm st.1.length)=true then _ else _)=_
 split
 ·simp [z1F]
 ·simp [z1F]
theorem zij (rm:List Int):∀ (ps:List (List PgS)) (st:List (List (List PgS)) × List (List PgS)),ps.foldl (zQ rm) (st.1.map z1F,z1F st.2)=((ps.foldl (z2Y rm) st).1.map z1F,z1F (ps.foldl (z2Y rm) st).2)
 | [],st=>rfl
 | p :: ps,st=>by
  rw [List.foldl_cons,List.foldl_cons,zeJ,zij rm ps]
def z95 (rm:List Int) (ps:List (List PgS)):List (List (List PgS)):=(ps.foldl (z2Y rm) ([],[])).1 ++ [(ps.foldl (z2Y rm) ([],[])).2]
theorem z7S (rm:List Int) (ps:List (List PgS)):z4x rm ps=(z95 rm ps).map z1F:=by
 have:=zij rm ps ([],[]);unfold z4x z95;simp only [List.map_append,List.map_cons,List.map_nil];show (ps.foldl (zQ rm) ([].map z1F,z1F [])).1 ++ [(ps.foldl (zQ rm) ([].map z1F,z1F [])).2]=_;rw [this]
structure GI (rm:List Int) (ps:List (List PgS)) (st:List (List (List PgS)) × List (List PgS)):Prop where
 flat:(st.1 ++ [st.2]).flatten=ps
 ne:ps ≠ []→∀ g ∈ st.1 ++ [st.2],g ≠ []
 only:ps=[]→st.1=[]
 fit:∀ i,i < st.1.length→(st.1.getD i []).length≤1∨hiS (st.1.getD i []).flatten≤zD rm i
 fit2:st.2.length≤1∨hiS st.2.flatten≤zD rm st.1.length
 full:∀ i,i < st.1.length→zD rm i < hiS (st.1.getD i []).flatten+hiS (((st.1 ++ [st.2]).getD (i+1) []).headD [])
theorem zea (page:List PgS) (s:PgS):z2g page s ≠ []:=by
 rcases List.eq_nil_or_concat page with rfl | ⟨a,l,rfl⟩
 ·simp [z2g]
 ·rw [List.concat_eq_append,z6l]
  split <;> simp
theorem zar:∀ {piece page:List PgS},page ≠ []→zT page piece ≠ []
 | [],_,h=>h
 | s :: l,page,_=>zar (piece:=l) (zea page s)
theorem z96 {piece page:List PgS} (h:piece ≠ []):zT page piece ≠ []:=by
 cases piece with
 | nil=>exact absurd rfl h
 | cons s l=>exact zar (piece:=l) (zea page s)
theorem zco:∀ {g:List (List PgS)} {page:List PgS},page ≠ []→g.foldl zT page ≠ []
 | [],_,h=>h
 | _ :: g,_,h=>zco (g:=g) (zar h)
theorem z9H {g:List (List PgS)} (h:∀ p ∈ g,p ≠ []):z1F g=[] ↔ g=[]:=by
 constructor
 ·intro e
  cases g with
  | nil=>rfl
  | cons p g =>
   exact absurd e (zco (g:=g) (z96 (h p (by simp))))
 ·rintro rfl;rfl
theorem z5J {α:Type} {a b:List α} {d:α} {i:Nat} (h:i < a.length):(a ++ b).getD i d=a.getD i d:=by
 rw [List.getD_eq_getElem?_getD,List.getElem?_append_left h,← List.getD_eq_getElem?_getD]
theorem z4P {α:Type} {a:List α} {x d:α}:(a ++ [x]).getD a.length d=x:=by simp [List.getD]
theorem zeK {α:Type} {a:List α} {x y d:α}:(a ++ [x] ++ [y]).getD (a.length+1) d=y:=by
 have:a.length+1=(a ++ [x]).length:=(by simp);rw [this,z4P]
theorem GI.step {rm:List Int} {ps:List (List PgS)} {st:List (List (List PgS)) × List (List PgS)} (h:GI rm ps st) {p:List PgS} (hall:∀ q ∈ ps,q ≠ []) (hmer:hiS (z1F st.2)=hiS st.2.flatten):GI rm (ps ++ [p]) (z2Y rm st p):=by
 obtain ⟨done,cur⟩:=st
 have hcur:∀ q ∈ cur,q ≠ []:=fun q hq=>hall q (by
  rw [← h.flat];simp only [List.flatten_append,List.mem_append]
  right
  simpa using hq)
 have hmn:=z9H hcur;unfold z2Y;simp only at hmer hmn ⊢;by_cases hc:cur=[]
 ·subst hc
  have hps:ps=[]:=by
   cases ps with
   | nil=>rfl
   | cons a l=>exact absurd rfl (h.ne (by simp) [] (by simp))
  have hd:=h.only hps;simp only at hd;subst hd hps;rw [if_pos (by rfl)];refine ⟨by simp,?_,by simp,by simp,.inl (by simp),by simp⟩;intro _ g hg;simp only [List.nil_append,List.mem_singleton] at hg;rw [hg];simp
 ·have hne:(cur.foldl zT []).isEmpty=false:=by
   have h2:z1F cur ≠ []:=fun e=>hc (hmn.1 e);unfold z1F at h2
   cases hx:cur.foldl zT [] with
   | nil=>exact absurd hx h2
   | cons a l=>rfl
  have hps:ps ≠ []:=by
   intro e;have:=h.flat;rw [e] at this;simp only [List.flatten_append,List.append_eq_nil_iff] at this;exact hc (by simpa using this.2)
  have hfl:=h.flat;have hne2:=h.ne hps;by_cases ht:z0B (cur.foldl zT []) p (zD rm done.length)=true
  ·rw [if_pos ht];have ht2:=ht;unfold z0B at ht2;rw [hne,Bool.false_or,decide_eq_true_eq] at ht2;have e1:hiS (cur.foldl zT [])=hiS cur.flatten:=hmer;refine ⟨?_,fun _ g hg=>?_,fun e=>by simp at e,h.fit,.inr ?_,fun i hi=>?_⟩
   ·rw [← hfl];simp
   ·rcases List.mem_append.1 hg with h1 | h1
    ·exact hne2 g (List.mem_append.2 (.inl h1))
    ·rw [List.mem_singleton.1 h1];simp
   ·simp only [List.flatten_append,z1Q,List.flatten_cons,List.flatten_nil,List.append_nil];omega
   ·have hf:=h.full i hi;simp only at hf hi ⊢
    rcases Nat.lt_or_eq_of_le (show i+1≤done.length by omega) with h1 | h1
    ·rw [z5J h1] at hf ⊢;exact hf
    ·rw [h1,z4P] at hf ⊢
     cases cur with
     | nil=>exact absurd rfl hc
     | cons a l=>exact hf
  ·rw [if_neg ht];have ht2:=ht;unfold z0B at ht2;rw [hne,Bool.false_or,decide_eq_true_eq] at ht2;have e1:hiS (cur.foldl zT [])=hiS cur.flatten:=hmer;have hf2:=h.fit2;refine ⟨?_,fun _ g hg=>?_,fun e=>by simp at e,fun i hi=>?_,.inl (by simp),fun i hi=>?_⟩
   ·simp only at hfl ⊢;rw [List.flatten_append,hfl];simp
   ·rcases List.mem_append.1 hg with h1 | h1
    ·exact hne2 g h1
    ·rw [List.mem_singleton.1 h1];simp
   ·simp only [List.length_append,List.length_cons,List.length_nil] at hi ⊢
    rcases Nat.lt_or_eq_of_le (show i≤done.length by omega) with h1 | h1
    ·rw [z5J h1];exact h.fit i h1
    ·subst h1;rw [z4P];exact hf2
   ·simp only [List.length_append,List.length_cons,List.length_nil] at hi ⊢
    rcases Nat.lt_or_eq_of_le (show i≤done.length by omega) with h1 | h1
    ·have hf:=h.full i h1;simp only at hf;rw [z5J h1,z5J (by simp;omega)];exact hf
    ·subst h1;rw [z4P,zeK];simp only [List.headD_cons];omega
theorem z7T {rm:List Int}:∀ {ps:List (List PgS)},(∀ q ∈ ps,q ≠ [])→(∀ A B C,ps=A ++ B ++ C→hiS (B.foldl zT [])=hiS B.flatten)→GI rm ps (ps.foldl (z2Y rm) ([],[])):=by
 suffices h:∀ (n:Nat) (ps:List (List PgS)),ps.length=n→(∀ q ∈ ps,q ≠ [])→(∀ A B C,ps=A ++ B ++ C→hiS (B.foldl zT [])=hiS B.flatten)→GI rm ps (ps.foldl (z2Y rm) ([],[])) from fun {ps}=>h ps.length ps rfl
 intro n
 induction n with
 | zero =>
  intro ps hl _ _;have:ps=[]:=List.eq_nil_of_length_eq_zero hl;subst this;exact ⟨by simp,fun h=>absurd rfl h,fun _=>rfl,fun i hi=>absurd hi (Nat.not_lt_zero i),.inl (by simp),fun i hi=>absurd hi (Nat.not_lt_zero i)⟩
 | succ n ih =>
  intro ps hl hne hm
  rcases List.eq_nil_or_concat ps with rfl | ⟨a,p,rfl⟩
  ·cases hl
  ·rw [List.concat_eq_append] at hl hne hm ⊢;rw [List.foldl_append,List.foldl_cons,List.foldl_nil];have hG:=ih a (by simpa using hl) (fun q hq=>hne q (List.mem_append.2 (.inl hq))) (fun A B C e=>hm A B (C ++ [p]) (by rw [e];simp));refine hG.step (fun q hq=>hne q (List.mem_append.2 (.inl hq))) ?_;refine hm ((a.foldl (z2Y rm) ([],[])).1.flatten) _ [p] ?_;have:=hG.flat;rw [List.flatten_append] at this;simp only [List.flatten_cons,List.flatten_nil,List.append_nil] at this;rw [this]
theorem zg4 {t:T} {hs:List Int} {gs:List GC} {R:Nat}:∀ k,k < (z0a gs R).length→∀ p ∈ z18 t hs (z0a gs R) k,p ≠ []
 | 0,_,p,hp=>by simp [z18] at hp
 | k+1,hk,p,hp=>by
  obtain ⟨s1,_⟩:=z3F hk;rw [z18] at hp
  rcases List.mem_append.1 hp with h1 | h1
  ·exact zg4 k (by omega) p h1
  ·unfold z1p at h1
   split at h1
   ·split at h1
    ·rw [z0f,List.mem_map] at h1;obtain ⟨i,_,rfl⟩:=h1;simp
    ·rw [List.mem_singleton] at h1;subst h1;intro e;have:=z1O hs ((z0a gs R).getD (k+1) 0 - (z0a gs R).getD k 0) ((z0a gs R).getD k 0);rw [e,List.length_nil] at this;omega
   ·cases h1
theorem zeb {t:T} {hs:List Int}:∀ p ∈ z0X t hs,p ≠ []:=zg4 _ (by rw [z58];omega)
end
end Go.Proofs.YtggmjiddadjilamGreat
