/-
  PROVED HERE: what the program's GrdBlocks answers at a grid that lies in memory, and that its answer owns its memory; nothing that was in memory is turned. Also: 7 more texts of the same proof.
-/
import Derived.Test.YtggmjiddadjilahGreatE18
import Derived.Test.YtggmjiddadjilahGreatE17
set_option maxRecDepth 1000000
set_option maxHeartbeats 40000000
namespace Go.Proofs.YtggmjiddadjilahGreat
section
open Go.RowKit
def z4k (row:Int) (x:GC):Bool:=decide (x.row < row) && z0J row x.row x.rows
def z1X (row:Int) (x:GC):Bool:=decide (x.row < row) && decide (row < x.row+x.rows)
theorem ziO {R C:Int} {x:GC} (h:z0X R C x=true) (row:Int):z4k row x=z1X row x:=by
 obtain ⟨e1,e2,e3,e4,h1,h2,h3,h4⟩:=z3Y h;rw [Bool.eq_iff_iff];simp [z4k,z1X,z0J];omega
def z4T (gs:List GC) (row:Int):Bool:=gs.any (z4k row)
def z1x (gs:List GC) (row:Int):Bool:=gs.any (z1X row)
theorem zhr {R C:Int} {gs:List GC} (h:∀ a ∈ gs,z0X R C a=true) (row:Int):z4T gs row=z1x gs row:=by
 unfold z4T z1x
 induction gs with
 | nil=>rfl
 | cons a t ih=>rw [List.any_cons,List.any_cons,ziO (h a (by simp)),ih (fun b hb=>h b (by simp [hb]))]
def zG (gs:List GC) (k:Nat):List Int:=((List.range k).filter (fun r:Nat=>!z1x gs (r:Int))).map (fun r=>((r:Nat):Int))
theorem z8Q {gs:List GC} {k:Nat} (h:z1x gs k=false):zG gs (k+1)=zG gs k ++ [(k:Int)]:=by simp [zG,List.range_succ,h]
theorem z7W {gs:List GC} {k:Nat} (h:z1x gs k=true):zG gs (k+1)=zG gs k:=by simp [zG,List.range_succ,h]
theorem z36 (gs:List GC) (k:Nat):(zG gs k).length≤k:=by
 have:=List.length_filter_le (fun r:Nat=>!z1x gs (r:Int)) (List.range k)
 simpa [zG] using this
def z64 (g:G):List Int:=if okB g then zG g.cells g.rows.toNat else []
theorem zeL {g:G} (h:okB g=false):z64 g=[]:=by rw [z64,if_neg (by rw [h];simp)]
theorem z9C {g:G} (h:okB g=true):z64 g=zG g.cells g.rows.toNat:=by rw [z64,if_pos h]
theorem zfL {gs:List GC} {row:Int} {k:Nat} (hk:k < gs.length) (h:z4k row (gs.getD k dG)=true):z4T gs row=true:=by
 refine List.any_eq_true.2 ⟨gs[k],List.getElem_mem hk,?_⟩;have e:gs.getD k dG=gs[k]:=(by simp [List.getD,hk]);rw [← e];exact h
theorem zeM {gs:List GC} {row:Int} (h:∀ j,j < gs.length→z4k row (gs.getD j dG)=false):z4T gs row=false:=by
 cases hc:z4T gs row with
 | false=>rfl
 | true =>
  obtain ⟨x,hx,ho⟩:=List.any_eq_true.1 hc;obtain ⟨i,hi,rfl⟩:=List.mem_iff_getElem.1 hx;have:=h i hi;have e:gs.getD i dG=gs[i]:=(by simp [List.getD,hi]);rw [e,ho] at this
  cases this
theorem zbU (a b:Int) (ac:Option Addr) (cc:Nat) (gs:List GC) (row:Int) (hr:I64 row) (w:World) {z:Nat} (h:z1J w z (.slice ac gs.length cc) gs) :
  Calls Tryz.prog 77 #[.agg #[.int .i64 a,.int .i64 b,.slice ac gs.length cc],.int .i64 row] w fun e w'=>e=.returned (.bool (z4T gs row))∧Below w.heap.size w w':=by
 obtain ⟨_,_,_,hlen⟩:=At.form h;unfold maxLen at hlen;have H:=Hd h;clear h;go_enter Tryz.func77,Tryz.ntmps77;go_wp2_with fail
 go_loopw [10] (fun i W=>∃ k:Nat,k≤gs.length∧i=.int .i64 k∧Hid (∀ j,j < k→z4k row (gs.getD j dG)=false)∧Hid (Below w.heap.size w W)) (fun i _=>gs.length - (intOf i).toNat)
 case atStart=>exact ⟨0,Nat.zero_le _,rfl,fun j hj=>absurd hj (Nat.not_lt_zero _),ze (Below.refl _ _) _⟩
 case round =>
  obtain ⟨k,hk,rfl,HA,HB⟩:=hrel;by_cases hlt:k < gs.length
  ·obtain ⟨q,off,cap',e',hc1,hc2,hbl,hx,hs⟩:=At.get (H.out.kept HB.out) hlt;simp only [Value.slice.injEq,true_and] at e';obtain ⟨rfl,rfl⟩:=e';have HH:Hid (z4k row (gs.getD k dG)=true→z4T gs row=true):=fun hp=>zfL hlt hp
   have HN:Hid (z4k row (gs.getD k dG)=false→∀ j,j < k+1→z4k row (gs.getD j dG)=false):=fun hp j hj=>by
    rcases Nat.lt_or_eq_of_le (Nat.lt_succ_iff.1 hj) with h1 | rfl
    ·exact HA.out j h1
    ·exact hp
   generalize gs.getD k dG=x at hx hs HH HN;obtain ⟨x0,x1,x2,x3,x4⟩:=hx;obtain ⟨b0,b1,b2,b3,_⟩:=hs;have H1:=Hd (z8P row x.row x.rows hr b0 b2);unfold maxLen at hc2;clear b0 b1 b2 b3;by_cases h1:x.row < row
   ·cases h2:z0J row x.row x.rows with
    | false =>
     have HF:=Hd (HN.out (by simp only [z4k,h2,Bool.and_false]));rw [h2] at H1;clear HH HN HA;go_wp2_with fail
     refine (H1.out _).mono ?_;rintro e w1 ⟨rfl,rfl⟩;go_wp2;go_roundw
     case rel=>exact ⟨k+1,by omega,by go_num,HF,ze HB.out _⟩
     case measure=>simp [intOf];omega
    | true =>
     have HF:=Hd (HH.out (by simp only [z4k,h1,h2,decide_true,Bool.and_self]));rw [h2] at H1;clear HH HN HA;go_wp2_with fail
     refine (H1.out _).mono ?_;rintro e w1 ⟨rfl,rfl⟩;go_wp2;go_ret;exact ⟨zN HF.out.symm,ze HB.out _⟩
   ·have HF:=Hd (HN.out (by simp only [z4k,h1,decide_false,Bool.false_and]));clear HH HN HA;go_wp2;go_roundw
    case rel=>exact ⟨k+1,by omega,by go_num,HF,ze HB.out _⟩
    case measure=>simp [intOf];omega
  ·obtain rfl:k=gs.length:=by omega
   have HF:=Hd (zeM HA.out);clear HA;go_wp2;go_ret;exact ⟨zN HF.out.symm,HB.out⟩
theorem zeb {w:World} {base n0 k:Nat} {e:TypeId} {v:Value} {xs:List Value} (h:w.ownsRow base e 1 v k xs) (hn:n0 < base):some n0 ≠ v.ownBlock:=by
 rcases h.2 with ⟨rfl,_⟩ | ⟨g,cap,cur,rfl,hb,_⟩
 ·simp [Value.ownBlock]
 ·simp [Value.ownBlock];omega
theorem zfM {w:World} {base j k:Nat} {e:TypeId} {v:Value} {xs:List Value} (h:w.ownsRow base e 1 v k xs) (hj:v.ownBlock=some j):base≤j:=by
 rcases h.2 with ⟨rfl,_⟩ | ⟨g,cap,cur,rfl,hb,_⟩
 ·simp [Value.ownBlock] at hj
 ·simp [Value.ownBlock] at hj;omega
theorem z9D:(Tryz.prog.info? 3).map (fun i=>(i.zero,i.size,i.bytes))=some (some (Value.int .i64 0),1,8):=by kernel_rfl
theorem z9E {w w':World} {base n k:Nat} {v:Value} {xs:List Value} (h:w.ownsRow base 3 1 v k xs) (hb:Below w.heap.size w w') (_:n≤base):w'.ownsRow base 3 1 v k xs:=by
 refine ⟨h.1,?_⟩
 rcases h.2 with h0 | ⟨g,cap,cur,hv,hbs,hg,r⟩
 ·exact .inl h0
 ·exact .inr ⟨g,cap,cur,hv,hbs,(hb.block g (bL hg)).trans hg,r⟩
theorem zcf (Rn:Nat) (hR2:Rn≤1000) (C:Int) (ac:Option Addr) (cc:Nat) (gs:List GC) (hc:∀ row,z4T gs row=z1x gs row) (w:World) {z:Nat} (h:z1J w z (.slice ac gs.length cc) gs) :
  Calls Tryz.prog 42 #[.agg #[.int .i64 (Rn:Int),.int .i64 C,.slice ac gs.length cc]] w fun e w'=>∃ v,e=.returned v∧zq w' w.heap.size w'.heap.size v (zG gs Rn)∧Below w.heap.size w w':=by
 obtain ⟨_,_,_,hlen⟩:=At.form h;unfold maxLen at hlen;obtain ⟨i0,hi,hz0,hz1,hz2⟩:=info_parts z9D;obtain ⟨w1,hw1⟩:∃ w1,w.alloc (.cells #[.int .i64 (Rn:Int),.int .i64 C,.slice ac gs.length cc] 38)=w1:=⟨_,rfl⟩;have K1:Hid (Below w.heap.size w w1):=(by rw [Hid,← hw1];exact ze (Below.refl _ _) _);have X1:Hid (w1.heap[w.heap.size]?=some (.cells #[.int .i64 (Rn:Int),.int .i64 C,.slice ac gs.length cc] 38)):=(by rw [Hid,← hw1];exact zj _ _);have hs1:w.heap.size < w1.heap.size:=(by rw [← hw1];simp);have H:=Hd h;have HC:=Hd hc;clear h hc;go_enter Tryz.func42,Tryz.ntmps42;go_upto_region 2 with fail
 clear hw1;have g0:w1.cell? ⟨w.heap.size,0,none⟩=some (.int .i64 (Rn:Int)):=zf X1.out;go_wp2_with fail
 go_loopw [7,3] (fun i v W=>∃ (k:Nat) (vb:Value),k≤Rn∧i=.int .i64 k∧v=vb∧Hid (W.ownsRow w1.heap.size 3 1 vb (zG gs k).length ((zG gs k).map (Value.int .i64)))∧Hid (Below w.heap.size w W)∧Hid (W.heap[w.heap.size]?=some (.cells #[.int .i64 (Rn:Int),.int .i64 C,.slice ac gs.length cc] 38))∧w1.heap.size≤W.heap.size) (fun i _ _=>Rn - (intOf i).toNat)
 case atStart=>exact ⟨0,_,Nat.zero_le _,rfl,rfl,⟨by simp,.inl ⟨rfl,rfl⟩⟩,K1,X1,Nat.le_refl _⟩
 case round =>
  obtain ⟨k,vb,hk,rfl,rfl,HO,HB,HX,hsr⟩:=hrel;have g0':wr.cell? ⟨w.heap.size,0,none⟩=some (.int .i64 (Rn:Int)):=zf HX.out;have g1:wr.cell? ⟨w.heap.size,1,none⟩=some (.int .i64 C):=zf HX.out;have g2:wr.cell? ⟨w.heap.size,2,none⟩=some (.slice ac gs.length cc):=zf HX.out;by_cases hlt:k < Rn
  ·have KI:=Hd (zbU (Rn:Int) C ac cc gs (k:Int) ⟨by omega,by omega⟩ wr (H.out.kept HB.out));rw [HC.out] at KI;have hbl:=z36 gs k
   cases h1:z1x gs (k:Int) with
   | true =>
    have HS:=Hd (z7W h1);rw [h1] at KI;clear h1;go_wp2_with fail
    refine KI.out.mono ?_;rintro e w2 ⟨rfl,hb2⟩;have HO2:=Hd (z9E HO.out hb2 (Nat.le_refl _));have HB2:=Hd (zh HB.out hb2);have HX2:=Hd ((hb2.block w.heap.size (by omega)).trans HX.out);have hs2:=Nat.le_trans hsr hb2.size;clear hb2;go_wp2;go_roundw
    case rel=>exact ⟨k+1,_,by omega,by go_num,rfl,by rw [HS.out];exact HO2,HB2,HX2,hs2⟩
    case measure=>simp [intOf];omega
   | false =>
    have HS:=Hd (z8Q h1);rw [h1] at KI;clear h1;go_wp2_with fail
    refine KI.out.mono ?_;rintro e w2 ⟨rfl,hb2⟩;have hO2:=z9E HO.out hb2 (Nat.le_refl _);have HB2:=Hd (zh HB.out hb2);have HX2:=Hd ((hb2.block w.heap.size (by omega)).trans HX.out);have hs2:=Nat.le_trans hsr hb2.size;clear hb2 HO;go_wp2_with (at_builtin;refine wpList_append_own _ rfl _ _ 27 rfl w1.heap.size 3 i0 (.int .i64 0) 1 8 Tryz.underlying27 hi hz0 hz1 hz2 rfl (by decide) _ _ _ rfl (hO2.alloc _) ⟨w2.heap.size,0,none⟩ 1 1 [.int .i64 (k:Int)] rfl rfl ?c1 ?c2 ?c3 ?c4 ?c5 ?_)
    case c1 =>
     intro i u hi
     match i,hi with
     | 0,hi=>simp at hi;subst hi;simp [Addr.add]
    case c2=>intro u hu;simp at hu;subst hu;rfl
    case c3=>unfold maxLen;omega
    case c4=>omega
    case c5=>simp;omega
    intro v' w5 hown' hgrow' _;have hne:=zeb hO2 hs1;have HB5:Hid (Below w.heap.size w w5):=(ze HB2.out _).grown hgrow' (by simp;omega) (fun j e=>by have:=zfM hO2 e;omega);have HX5:Hid (w5.heap[w.heap.size]?=_):=Hd ((hgrow'.block w.heap.size (by simp;omega) hne).trans ((Below.heap_alloc _ _ _ (by omega)).trans HX2.out));have hs5:w1.heap.size≤w5.heap.size:=(by have:=hgrow'.size;simp at this;omega);have HO5:Hid (w5.ownsRow w1.heap.size 3 1 v' (zG gs (k+1)).length ((zG gs (k+1)).map (Value.int .i64))):=Hd (by rw [HS.out];simpa using hown');obtain ⟨g',cap',rfl⟩:=Joins.ownsRow_form hown' (by omega);clear hown' hgrow' hO2 hne;go_wp2;go_roundw
    case rel=>exact ⟨k+1,_,by omega,by go_num,rfl,HO5,HB5,HX5,hs5⟩
    case measure=>simp [intOf];omega
  ·obtain rfl:k=Rn:=by omega
   go_wp2;go_ret;refine ⟨_,rfl,?_,HB.out⟩;exact (zq.of_owns HO.out).base (by omega) (Nat.le_refl _)
def z06 (gs:List GC) (R:Nat):List Nat:=(List.range R).filter (fun r:Nat=>!z1x gs (r:Int)) ++ [R]
theorem zhE (gs:List GC) (R:Nat):(z06 gs R).map (fun r:Nat=>(r:Int))=zG gs R ++ [(R:Int)]:=by simp [z06,zG]
theorem z4v (gs:List GC) (R:Nat):(z06 gs R).length=(zG gs R).length+1:=by simp [z06,zG]
theorem z7Y (gs:List GC) (R:Nat):(z06 gs R).Pairwise (· < ·):=by
 refine List.pairwise_append.2 ⟨List.Pairwise.filter _ List.pairwise_lt_range,by simp,fun a ha b hb=>?_⟩;rw [List.mem_filter,List.mem_range] at ha;rw [List.mem_singleton] at hb;omega
theorem ziU {gs:List GC} {R x:Nat} (h:x ∈ z06 gs R):x≤R:=by
 rcases List.mem_append.1 h with h | h
 ·rw [List.mem_filter,List.mem_range] at h;omega
 ·rw [List.mem_singleton] at h;omega
theorem z3F {gs:List GC} {R k:Nat} (hk:k+1 < (z06 gs R).length):(z06 gs R).getD k 0 < (z06 gs R).getD (k+1) 0∧(z06 gs R).getD (k+1) 0≤R:=by
 have h1:(z06 gs R).getD k 0=(z06 gs R)[k]:=(by simp [List.getD,show k < (z06 gs R).length by omega]);have h2:(z06 gs R).getD (k+1) 0=(z06 gs R)[k+1]:=(by simp [List.getD,hk]);rw [h1,h2];exact ⟨List.pairwise_iff_getElem.1 (z7Y gs R) k (k+1) (by omega) hk (by omega),ziU (List.getElem_mem _)⟩
theorem zcl {gs:List GC} {R k:Nat} (hk:k < (z06 gs R).length):(zG gs R ++ [(R:Int)]).getD k 0=(((z06 gs R).getD k 0:Nat):Int):=by
 rw [← zhE];simp [List.getD,hk]
def z14 (t:T) (hs:List Int) (a b:Nat):List (List PgS) :=
 if z08 t (a:Int)=1 then (if (b - a=1∧(t.rows.getD a dR).whole=false)∧0 < hs.getD a 0 then z0e a 0 (hs.getD a 0).toNat else [zD hs a (b - a)]) else []
theorem zav {t:T} {hs:List Int} {a b:Nat} (h:¬ z08 t (a:Int)=1):z14 t hs a b=[]:=by rw [z14,if_neg h]
theorem zaw {t:T} {hs:List Int} {a b:Nat} (h:z08 t (a:Int)=1) (h2:(b - a=1∧(t.rows.getD a dR).whole=false)∧0 < hs.getD a 0):z14 t hs a b=z0e a 0 (hs.getD a 0).toNat:=by rw [z14,if_pos h,if_pos h2]
theorem z6v {t:T} {hs:List Int} {a b:Nat} (h:z08 t (a:Int)=1) (h2:¬ ((b - a=1∧(t.rows.getD a dR).whole=false)∧0 < hs.getD a 0)):z14 t hs a b=[zD hs a (b - a)]:=by rw [z14,if_pos h,if_neg h2]
def z1b (t:T) (hs:List Int) (L:List Nat):Nat→List (List PgS)
 | 0=>[]
 | k+1=>z1b t hs L k ++ z14 t hs (L.getD k 0) (L.getD (k+1) 0)
def z0E (t:T) (hs:List Int):List (List PgS):=z1b t hs (z06 (gOf t).cells t.rows.length) (zG (gOf t).cells t.rows.length).length
theorem zg7 {t:T} {hs:List Int} (hb:∀ x ∈ hs,0≤x∧x≤1000) (a b:Nat):(z14 t hs a b).length≤1000:=by
 unfold z14
 split
 ·split
  ·rename_i h
   have hm:hs.getD a 0≤1000:=by
    by_cases ha:a < hs.length
    ·exact (hb _ (by simp [List.getD,ha])).2
    ·simp [List.getD,ha]
   rw [z0e,List.length_map,List.length_range];omega
  ·simp
 ·simp
theorem z7Z {t:T} {hs:List Int} (hb:∀ x ∈ hs,0≤x∧x≤1000) (L:List Nat):∀ k,(z1b t hs L k).length≤1000 * k
 | 0=>by simp [z1b]
 | k+1=>by
  have:=z7Z (t:=t) hb L k;have:=zg7 (t:=t) hb (L.getD k 0) (L.getD (k+1) 0);rw [z1b,List.length_append];omega
end
section
theorem z6f {α:Type} {l:List α} {x d:α} {k:Nat} (h:k < l.length):(l ++ [x]).getD k d=l.getD k d:=by
 simp [List.getD,List.getElem?_append_left h]
theorem z3G {α:Type} {l:List α} {x d:α}:(l ++ [x]).getD l.length d=x:=by simp [List.getD]
theorem z80 {α:Type} {l:List α} {x:α} {k:Nat} (h:k≤l.length):(l ++ [x]).take k=l.take k:=by
 rw [List.take_append_of_le_length h]
theorem zdB (gs:List GC) (r i:Nat) (e:Int) (x:C) (c:Int):z1k (z1p gs r i e x) c=z1k (z4c r i e x) c:=by simp only [z1p,z1k]
theorem zg8 (gs:List GC) (r i:Nat) (e:Int) (x:C):(z1p gs r i e x).col=(z5t gs (z4c r i e x):Int):=by simp only [z1p,z1k]
structure zcm (t:T) (gs:List GC) (k:Nat):Prop where
 ex:∃ r j:Nat,r < t.rows.length∧j < (t.rows.getD r dR).cells.length∧gs.getD k dG=z1p (gs.take k) r j (zV t r) ((t.rows.getD r dR).cells.getD j dC)
 free:z1f (gs.take k) (gs.getD k dG)=true
 first:∀ c:Nat,(c:Int) < (gs.getD k dG).col→z1f (gs.take k) (z1k (gs.getD k dG) c)=false
 after:0 < k→(gs.getD (k - 1) dG).row < (gs.getD k dG).row∨(gs.getD (k - 1) dG).row=(gs.getD k dG).row∧(gs.getD (k - 1) dG).ins+1=(gs.getD k dG).ins
theorem zcm.snoc {t:T} {gs:List GC} {k:Nat} (x:GC) (hk:k < gs.length) (h:zcm t gs k):zcm t (gs ++ [x]) k:=by
 have e1:(gs ++ [x]).getD k dG=gs.getD k dG:=z6f hk;have e2:(gs ++ [x]).take k=gs.take k:=z80 (by omega);have e3:(gs ++ [x]).getD (k - 1) dG=gs.getD (k - 1) dG:=z6f (by omega);refine ⟨?_,?_,?_,?_⟩
 ·rw [e1,e2];exact h.ex
 ·rw [e1,e2];exact h.free
 ·rw [e1,e2];exact h.first
 ·rw [e1,e3];exact h.after
structure z39 (t:T) (gs:List GC) (r i:Nat):Prop where
 part:z3C t gs r i
 laid:∀ k,k < gs.length→zcm t gs k
 last:0 < gs.length→(gs.getD (gs.length - 1) dG).row < r∨(gs.getD (gs.length - 1) dG).row=r∧(gs.getD (gs.length - 1) dG).ins+1=i
theorem z39.next {t:T} {gs:List GC} {r i:Nat} (h:z39 t gs r i) (hl:Low t) (hr:r < t.rows.length) (hi:i < (t.rows.getD r dR).cells.length) :
  z39 t (gs ++ [z1p gs r i (zV t r) ((t.rows.getD r dR).cells.getD i dC)]) r (i+1):=by
 obtain ⟨⟨h1,h2,h3,h4⟩,hp⟩:=h.part.next hl hr hi;refine ⟨hp,?_,?_⟩
 ·intro k hk;rw [List.length_append,List.length_singleton] at hk;by_cases hk2:k < gs.length
  ·exact (h.laid k hk2).snoc _ hk2
  ·obtain rfl:k=gs.length:=by omega
   have e2:∀ x:GC,(gs ++ [x]).take gs.length=gs:=fun x=>by rw [z80 (Nat.le_refl _),List.take_length]
   refine ⟨?_,?_,?_,?_⟩
   ·rw [z3G,e2];exact ⟨r,i,hr,hi,rfl⟩
   ·rw [z3G,e2];exact h2
   ·rw [z3G,e2];intro c hc;rw [zg8] at hc;rw [zdB];exact h3 c (Int.ofNat_lt.1 hc)
   ·intro h0;rw [z3G,z6f (by omega)];exact h.last h0
 ·intro _;rw [List.length_append,List.length_singleton,Nat.add_sub_cancel,z3G];refine .inr ⟨rfl,?_⟩;show (i:Int)+1=((i+1:Nat):Int);omega
theorem z39.zero (t:T):z39 t [] 0 0:=⟨z3C.zero t,fun _ hk=>absurd hk (Nat.not_lt_zero _),fun h=>absurd h (Nat.lt_irrefl _)⟩
theorem z39.rowEnd {t:T} {gs:List GC} {r:Nat} (h:z39 t gs r (t.rows.getD r dR).cells.length):z39 t gs (r+1) 0:=by
 refine ⟨h.part.rowEnd,h.laid,fun h0=>.inl ?_⟩
 rcases h.last h0 with h1 | ⟨h1,_⟩ <;> omega
theorem zcn {t:T} (hl:Low t) {r:Nat} (hr:r < t.rows.length) (h:z39 t (zX t r) r 0):∀ i,i≤(t.rows.getD r dR).cells.length→z39 t (z1R (zV t r) r (t.rows.getD r dR).cells (zX t r) i) r i
 | 0,_=>h
 | i+1,hi=>z39.next (zcn hl hr h i (by omega)) hl hr (by omega)
theorem zb5 {t:T} (hl:Low t):∀ r,r≤t.rows.length→z39 t (zX t r) r 0
 | 0,_=>z39.zero t
 | r+1,hr=>(zcn hl (by omega) (zb5 hl r (by omega)) _ (Nat.le_refl _)).rowEnd
theorem z8B {t:T} (hl:Low t) {k:Nat} (hk:k < (zL t).length):zcm t (zL t) k:=(zb5 hl _ (Nat.le_refl _)).laid k hk
theorem z3e {t:T} (hl:Low t) {a:GC} (ha:a ∈ zL t):z1q t.rows.length a:=((z6t hl _ (Nat.le_refl _)).stands a ha).1
theorem z6Q (m:Int) (a:GC) (gs:List GC):z0q m (a :: gs)=z0q (max m (a.col+a.cols)) gs:=rfl
theorem z3H:∀ (gs:List GC) (m:Int),m≤z0q m gs
 | [],m=>Int.le_refl _
 | a :: gs,m=>by rw [z6Q];exact Int.le_trans (Int.le_max_left _ _) (z3H gs _)
theorem z7i:∀ {gs:List GC} {m:Int} {a:GC},a ∈ gs→a.col+a.cols≤z0q m gs
 | b :: gs,m,a,h=>by
  rw [z6Q]
  rcases List.mem_cons.1 h with rfl | h
  ·exact Int.le_trans (Int.le_max_right _ _) (z3H gs _)
  ·exact z7i h
theorem zb6:∀ {gs:List GC} {m B:Int},m≤B→(∀ a ∈ gs,a.col+a.cols≤B)→z0q m gs≤B
 | [],m,B,h,_=>h
 | a :: gs,m,B,h,h2=>by
  rw [z6Q];exact zb6 (Int.max_le.2 ⟨h,h2 a (by simp)⟩) (fun b hb=>h2 b (by simp [hb]))
theorem z8U {t:T} (hl:Low t) (hc:t.cols.length≤8):1≤z0q (max 1 (t.cols.length:Int)) (zL t)∧z0q (max 1 (t.cols.length:Int)) (zL t)≤88∧(t.cols.length:Int)≤z0q (max 1 (t.cols.length:Int)) (zL t):=by
 have h1:=z3H (zL t) (max 1 (t.cols.length:Int));have h2:z0q (max 1 (t.cols.length:Int)) (zL t)≤88:=zb6 (by omega) (fun a ha=>by have:=z3e hl ha;unfold z1q at this;omega);omega
theorem z8V {t:T} (hl:Low t) {a:GC} (ha:a ∈ zL t):z0X t.rows.length (z0q (max 1 (t.cols.length:Int)) (zL t)) a=true:=by
 have h1:=z3e hl ha;have h2:=z7i (m:=max 1 (t.cols.length:Int)) ha;unfold z1q at h1;simp only [z0X,inB,Bool.and_eq_true,decide_eq_true_eq];omega
theorem zg9 {t:T} (hl:Low t) (hr:1≤t.rows.length) (hc:t.cols.length≤8):okB ⟨t.rows.length,z0q (max 1 (t.cols.length:Int)) (zL t),zL t⟩=true:=by
 have hb:=z8U hl hc;have h8:=hl.rows;have hlen:=z7g hl t.rows.length;unfold okB;rw [Bool.and_eq_true];constructor
 ·refine z7V ?_ ?_ ?_
  ·simp [inB];omega
  ·simp [inB];omega
  ·show (zX t t.rows.length).length≤40;omega
 ·refine List.all_eq_true.2 (fun i hi=>?_);have hi:i < (zL t).length:=List.mem_range.1 hi;rw [Bool.and_eq_true];exact ⟨z8V hl (z2j hi),(z8B hl hi).free⟩
end
section
open Go.RowKit
def TA (w:World) (z:Nat) (ac ar:Option Addr) (cc cr:Nat) (t:T):Prop:=z07 w z (.slice ac t.cols.length cc) t.cols∧z01 w z (.slice ar t.rows.length cr) t.rows
theorem TA.kept {w w':World} {z:Nat} {ac ar:Option Addr} {cc cr:Nat} {t:T} (h:TA w z ac ar cc cr t) (hb:Below w.heap.size w w'):TA w' z ac ar cc cr t:=⟨h.1.kept hb,h.2.kept hb⟩
def St (w:World) (tb:Nat) (ac ar:Option Addr) (cc cr:Nat) (t:T) (W:World):Prop:=Below w.heap.size w W∧TA W w.heap.size ac ar cc cr t∧W.heap[tb]?=some (.cells #[.slice ac t.cols.length cc,.int .i64 t.head,.int .i64 t.foot,.slice ar t.rows.length cr,.int .i64 t.gap] 26)
theorem St.kept {w W W':World} {tb:Nat} {ac ar:Option Addr} {cc cr:Nat} {t:T} (h:St w tb ac ar cc cr t W) (hb:Below W.heap.size W W'):St w tb ac ar cc cr t W' :=
 ⟨h.1.trans (hb.mono h.1.size),h.2.1.kept hb,(hb.block tb (bL h.2.2)).trans h.2.2⟩
theorem St.at {w W:World} {tb:Nat} {ac ar:Option Addr} {cc cr:Nat} {t:T} (h:St w tb ac ar cc cr t W):(W.cell? ⟨tb,0,none⟩=some (.slice ac t.cols.length cc)∧W.cell? ⟨tb,1,none⟩=some (.int .i64 t.head)∧W.cell? ⟨tb,2,none⟩=some (.int .i64 t.foot)∧W.cell? ⟨tb,3,none⟩=some (.slice ar t.rows.length cr)∧W.cell? ⟨tb,4,none⟩=some (.int .i64 t.gap)):=(z26 h.2.2).1
theorem z65 {t:T} (hD:z0f t):∀ x ∈ (gOf t).cells,GOk x:=by
 unfold gOf
 split
 ·rename_i h
  have hl:=z3t h hD;exact fun x hx=>(z3e hl hx).gok hl.rows
 ·intro x hx
  cases hx
def SGr (w:World) (tb gb:Nat) (ac ar:Option Addr) (cc cr:Nat) (t:T) (ag:Option Addr) (cg:Nat) (W:World):Prop :=
 St w tb ac ar cc cr t W∧z1J W w.heap.size (.slice ag (gOf t).cells.length cg) (gOf t).cells∧W.heap[gb]?=some (.cells #[.int .i64 (gOf t).rows,.int .i64 (gOf t).cols,.slice ag (gOf t).cells.length cg] 38)
theorem SGr.kept {w W W':World} {tb gb:Nat} {ac ar ag:Option Addr} {cc cr cg:Nat} {t:T} (h:SGr w tb gb ac ar cc cr t ag cg W) (hb:Below W.heap.size W W'):SGr w tb gb ac ar cc cr t ag cg W' :=
 ⟨h.1.kept hb,h.2.1.kept hb,(hb.block gb (bL h.2.2)).trans h.2.2⟩
theorem SGr.at {w W:World} {tb gb:Nat} {ac ar ag:Option Addr} {cc cr cg:Nat} {t:T} (h:SGr w tb gb ac ar cc cr t ag cg W):W.cell? ⟨gb,0,none⟩=some (.int .i64 (gOf t).rows)∧W.cell? ⟨gb,1,none⟩=some (.int .i64 (gOf t).cols)∧W.cell? ⟨gb,2,none⟩=some (.slice ag (gOf t).cells.length cg) :=
 ⟨zf h.2.2,zf h.2.2,zf h.2.2⟩
theorem z4G {w:World} {base:Nat} {v:Value} {gs:List GC} (h:z99 w base v gs):∃ a cap,v=.slice a gs.length cap:=by
 rcases h.2 with ⟨rfl,hn⟩ | ⟨g,cap,cur,rfl,_⟩
 ·exact ⟨none,0,by rw [hn]⟩
 ·exact ⟨_,cap,rfl⟩
theorem z2k {t:T} (h:zC t=true):gOf t=⟨t.rows.length,z0q (max 1 (t.cols.length:Int)) (zL t),zL t⟩:=by unfold gOf;rw [if_pos h]
theorem zco {t:T} (h:zC t=false):gOf t=⟨0,0,[]⟩:=by unfold gOf;rw [if_neg (by rw [h];simp)]
def SCe (w:World) (tb gb cb:Nat) (ac ar:Option Addr) (cc cr:Nat) (t:T) (ag:Option Addr) (cg:Nat) (x:GC) (W:World):Prop :=
 SGr w tb gb ac ar cc cr t ag cg W∧W.heap[cb]?=some (.cells #[.int .i64 x.row,.int .i64 x.col,.int .i64 x.rows,.int .i64 x.cols,.int .i64 x.ins] 51)
theorem SCe.kept {w W W':World} {tb gb cb:Nat} {ac ar ag:Option Addr} {cc cr cg:Nat} {t:T} {x:GC} (h:SCe w tb gb cb ac ar cc cr t ag cg x W) (hb:Below W.heap.size W W'):SCe w tb gb cb ac ar cc cr t ag cg x W' :=
 ⟨h.1.kept hb,(hb.block cb (bL h.2)).trans h.2⟩
theorem SCe.at {w W:World} {tb gb cb:Nat} {ac ar ag:Option Addr} {cc cr cg:Nat} {t:T} {x:GC} (h:SCe w tb gb cb ac ar cc cr t ag cg x W):W.cell? ⟨cb,0,none⟩=some (.int .i64 x.row)∧W.cell? ⟨cb,1,none⟩=some (.int .i64 x.col)∧W.cell? ⟨cb,2,none⟩=some (.int .i64 x.rows)∧W.cell? ⟨cb,3,none⟩=some (.int .i64 x.cols)∧W.cell? ⟨cb,4,none⟩=some (.int .i64 x.ins) :=
 ⟨zf h.2,zf h.2,zf h.2,zf h.2,zf h.2⟩
def zix (x:GC):Prop:=(0≤x.row∧x.row≤8)∧(0≤x.col∧x.col≤84)∧(1≤x.rows∧x.rows≤3)∧(1≤x.cols∧x.cols≤4)∧0≤x.ins∧x.ins≤4
theorem z1q.small {n:Nat} {a:GC} (hn:n≤8) (h:z1q n a):zix a:=by
 unfold z1q at h;unfold zix;omega
structure Pos where
 row:Int
 line:Int
 seen:Bool
def z5f (hs:List Int) (p:Pos) (r:Int):Pos:=if p.seen=true∧r=p.row+1∧p.line=hs.getD p.row.toNat 0 then ⟨p.row+1,0,true⟩ else p
def okS (hs:List Int) (q:Pos) (s:PgS):Prop:=s.r=q.row∧s.f=q.line∧s.f≤s.t∧s.t≤hs.getD q.row.toNat 0∧¬ (s.f=s.t∧0 < hs.getD q.row.toNat 0)
def z4m (hs:List Int) (p:Pos) (s:PgS):Pos:=⟨(z5f hs p s.r).row,s.t,true⟩
def z1Z (hs:List Int) (p:Pos) (l:List PgS):Pos:=l.foldl (z4m hs) p
def z1r (hs:List Int):Pos→List PgS→Prop
 | _,[]=>True
 | p,s :: l=>okS hs (z5f hs p s.r) s∧z1r hs (z4m hs p s) l
theorem z2L (hs:List Int) (p:Pos) (a b:List PgS):z1Z hs p (a ++ b)=z1Z hs (z1Z hs p a) b:=by simp [z1Z]
theorem z24 (hs:List Int):∀ (a:List PgS) (p:Pos) (b:List PgS),z1r hs p (a ++ b) ↔ z1r hs p a∧z1r hs (z1Z hs p a) b
 | [],p,b=>by simp [z1r,z1Z]
 | s :: a,p,b=>by
  rw [List.cons_append,z1r,z1r,z24 hs a,and_assoc];exact Iff.rfl
theorem z6Y (hs:List Int) (p:Pos) (s:PgS):z1r hs p [s] ↔ okS hs (z5f hs p s.r) s:=by simp [z1r]
theorem z66 (hs:List Int) (p:Pos) (s:PgS):z1Z hs p [s]=z4m hs p s:=rfl
theorem z6g {hs:List Int}:∀ {l:List PgS} {p:Pos},z1r hs p l→∀ s ∈ l,s.f≤s.t
 | [],_,_,s,h=>by cases h
 | x :: l,p,h,s,hs'=>by
  rcases List.mem_cons.1 hs' with rfl | hm
  ·exact h.1.2.2.1
  ·exact z6g h.2 s hm
theorem z6h:∀ {l:List PgS},(∀ s ∈ l,s.f≤s.t)→0≤hiS l
 | [],_=>by simp [hiS]
 | x :: l,h=>by
  have:=z6h (l:=l) (fun s hs=>h s (List.mem_cons_of_mem _ hs));have:=h x (by simp);have e:hiS (x :: l)=x.t - x.f+hiS l:=(by simp [hiS]);omega
theorem zga {hs:List Int} {p:Pos} {a:List PgS} {l s:PgS} (h:z1r hs p (a ++ [l] ++ [s])) (e:l.r=s.r) :
  l.t=s.f∧z1r hs p (a ++ [⟨l.r,l.f,s.t⟩])∧z1Z hs p (a ++ [⟨l.r,l.f,s.t⟩])=z1Z hs p (a ++ [l] ++ [s]):=by
 rw [z24,z24,z6Y,z6Y,z2L,z66] at h;obtain ⟨⟨h1,h2⟩,h3⟩:=h;rw [z24,z6Y,z2L,z2L,z2L,z66,z66,z66];generalize z1Z hs p a=q at h2 h3 ⊢;obtain ⟨a1,a2,a3,a4,a5⟩:=h2
 have e1:z5f hs (z4m hs q l) s.r=z4m hs q l:=by
  unfold z5f;rw [if_neg];rintro ⟨_,h,_⟩;rw [z4m] at h;simp only at h;rw [← a1] at h;omega
 rw [e1] at h3;obtain ⟨b1,b2,b3,b4,b5⟩:=h3;simp only [z4m] at b1 b2 b4 b5;refine ⟨b2.symm,⟨h1,⟨a1,a2,by simp only;omega,b4,?_⟩⟩,?_⟩
 ·rintro ⟨h4,h5⟩;simp only at h4;exact b5 ⟨by omega,h5⟩
 ·show (⟨(z5f hs q l.r).row,s.t,true⟩:Pos)=⟨(z5f hs (z4m hs q l) s.r).row,s.t,true⟩;rw [e1];rfl
theorem z4H (a:List PgS) (l s:PgS):z1V (a ++ [l]) s=if l.r=s.r then a ++ [⟨l.r,l.f,s.t⟩] else a ++ [l] ++ [s]:=by simp [z1V]
theorem zhF {hs:List Int} {p:Pos} {page:List PgS} {s:PgS} (h:z1r hs p (page ++ [s])) :
  z1r hs p (z1V page s)∧z1Z hs p (z1V page s)=z1Z hs p (page ++ [s])∧hiS (z1V page s)=hiS page+(s.t - s.f):=by
 rcases List.eq_nil_or_concat page with rfl | ⟨a,l,rfl⟩
 ·exact ⟨h,rfl,by simp [z1V,hiS]⟩
 ·rw [List.concat_eq_append] at h ⊢;rw [z4H];by_cases e:l.r=s.r
  ·rw [if_pos e];obtain ⟨h1,h2,h3⟩:=zga h e;refine ⟨h2,h3,?_⟩;rw [z23,z23,z34,z34];simp only;omega
  ·rw [if_neg e];exact ⟨h,rfl,by rw [z23,z34]⟩
theorem zcp {hs:List Int} {p:Pos}:∀ {piece page:List PgS},z1r hs p (page ++ piece)→z1r hs p (zP page piece)∧z1Z hs p (zP page piece)=z1Z hs p (page ++ piece)∧hiS (zP page piece)=hiS page+hiS piece
 | [],page,h=>by
  rw [List.append_nil] at h ⊢;exact ⟨h,rfl,by simp [zP,hiS]⟩
 | s :: l,page,h=>by
  have e:page ++ s :: l=page ++ [s] ++ l:=(by simp);rw [e,z24] at h;obtain ⟨h1,h2⟩:=h;obtain ⟨a1,a2,a3⟩:=zhF h1;rw [← a2] at h2;have h3:z1r hs p (z1V page s ++ l):=(z24 hs _ _ _).2 ⟨a1,h2⟩;obtain ⟨b1,b2,b3⟩:=zcp h3;refine ⟨b1,?_,?_⟩
  ·show z1Z hs p (zP (z1V page s) l)=_;rw [b2,e,z2L,z2L,a2]
  ·show hiS (zP (z1V page s) l)=_;have:hiS (s :: l)=s.t - s.f+hiS l:=(by simp [hiS]);omega
theorem zb7 {hs:List Int} {p:Pos}:∀ {ps:List (List PgS)} {page:List PgS},z1r hs p (page ++ ps.flatten)→z1r hs p (ps.foldl zP page)∧z1Z hs p (ps.foldl zP page)=z1Z hs p (page ++ ps.flatten)∧hiS (ps.foldl zP page)=hiS page+hiS ps.flatten
 | [],page,h=>by
  rw [List.flatten_nil,List.append_nil] at h ⊢;exact ⟨h,rfl,by simp [hiS]⟩
 | x :: l,page,h=>by
  rw [List.flatten_cons,← List.append_assoc,z24] at h;obtain ⟨h1,h2⟩:=h;obtain ⟨a1,a2,a3⟩:=zcp h1;rw [← a2] at h2;obtain ⟨b1,b2,b3⟩:=zb7 ((z24 hs _ _ _).2 ⟨a1,h2⟩);rw [List.foldl_cons];refine ⟨b1,?_,?_⟩
  ·rw [b2,z2L,List.flatten_cons,← List.append_assoc,z2L,a2]
  ·rw [b3,a3,List.flatten_cons,z23];omega
theorem zhG (page:List PgS) (s:PgS):(z1V page s).length≤page.length+1:=by
 rcases List.eq_nil_or_concat page with rfl | ⟨a,l,rfl⟩
 ·simp [z1V]
 ·rw [List.concat_eq_append,z4H]
  split <;> simp
theorem zcq:∀ (piece page:List PgS),(zP page piece).length≤page.length+piece.length
 | [],page=>by simp [zP]
 | s :: l,page=>by
  have h1:=zcq l (z1V page s);have h2:=zhG page s;show (zP (z1V page s) l).length≤_;rw [List.length_cons];omega
theorem zb8:∀ (ps:List (List PgS)) (page:List PgS),(ps.foldl zP page).length≤page.length+ps.flatten.length
 | [],page=>by simp
 | x :: l,page=>by
  have h1:=zb8 l (zP page x);have h2:=zcq x page;rw [List.foldl_cons,List.flatten_cons,List.length_append];omega
theorem z81 (r f:Int) (k:Nat):z0e r f (k+1)=z0e r f k ++ [[⟨r,f+k,f+k+1⟩]]:=by simp [z0e,List.range_succ]
def z4n (hs:List Int) (p:Pos) (a:Nat):Prop:=p=⟨a,0,false⟩∨(1≤a∧p=⟨(a:Int) - 1,hs.getD (a - 1) 0,true⟩)
theorem zgb {hs:List Int} {p:Pos} {a:Nat} (h:z4n hs p a):(z5f hs p a).row=a∧(z5f hs p a).line=0:=by
 rcases h with rfl | ⟨h1,rfl⟩
 ·unfold z5f;simp
 ·unfold z5f;have e:((a:Int) - 1).toNat=a - 1:=(by omega);rw [if_pos ⟨rfl,by simp only;omega,by simp only [e]⟩];exact ⟨by simp only;omega,rfl⟩
theorem z8W {hs:List Int} {p:Pos} {a:Nat} (h:z4n hs p a) {t:Int} (h0:0≤t) (h1:t≤hs.getD a 0) (h2:¬ (0=t∧0 < hs.getD a 0)):z1r hs p [⟨a,0,t⟩]∧z1Z hs p [⟨a,0,t⟩]=⟨a,t,true⟩:=by
 obtain ⟨e1,e2⟩:=zgb h;refine ⟨(z6Y hs _ _).2 ⟨e1.symm,e2.symm,h0,?_,?_⟩,?_⟩
 ·rw [e1,Int.toNat_natCast];exact h1
 ·rw [e1,Int.toNat_natCast];exact h2
 ·rw [z66,z4m];simp only [e1]
theorem zb9 {hs:List Int} (hb:∀ x ∈ hs,0≤x):∀ (n a:Nat) (p:Pos),z4n hs p a→z1r hs p (zD hs a n)∧z4n hs (z1Z hs p (zD hs a n)) (a+n)
 | 0,a,p,h=>⟨trivial,h⟩
 | n+1,a,p,h=>by
  have h0:0≤hs.getD a 0:=by
   by_cases ha:a < hs.length
   ·exact hb _ (by simp [List.getD,ha])
   ·simp [List.getD,ha]
  obtain ⟨h1,h2⟩:=z8W h h0 (Int.le_refl _) (by omega);have hr:z4n hs ⟨(a:Int),hs.getD a 0,true⟩ (a+1):=.inr ⟨by omega,by simp⟩;obtain ⟨i1,i2⟩:=zb9 hb n (a+1) _ hr;rw [← h2] at i1 i2;rw [zD];have e:a+1+n=a+(n+1):=(by omega);rw [e] at i2;exact ⟨(z24 hs [_] p _).2 ⟨h1,i1⟩,i2⟩
theorem zba {hs:List Int} {a:Nat}:∀ (n:Nat) (f:Int),f+n≤hs.getD a 0→z1r hs ⟨a,f,true⟩ (z0e a f n).flatten∧z1Z hs ⟨a,f,true⟩ (z0e a f n).flatten=⟨a,f+n,true⟩
 | 0,f,_=>by simp [z0e,z1r,z1Z]
 | n+1,f,h=>by
  rw [z4h,List.flatten_cons]
  have e1:z5f hs ⟨a,f,true⟩ a=⟨a,f,true⟩:=by
   unfold z5f;rw [if_neg];rintro ⟨_,h,_⟩;simp only at h;omega
  have h1:z1r hs ⟨a,f,true⟩ [⟨a,f,f+1⟩]:=by
   rw [z6Y];simp only;rw [e1];exact ⟨rfl,rfl,by simp only;omega,by show f+1≤hs.getD (a:Int).toNat 0;rw [Int.toNat_natCast];omega,by simp only;omega⟩
  have h2:z1Z hs ⟨a,f,true⟩ [⟨a,f,f+1⟩]=⟨a,f+1,true⟩:=by
   rw [z66,z4m];simp only;rw [e1]
  obtain ⟨i1,i2⟩:=zba (hs:=hs) (a:=a) n (f+1) (by omega);rw [z24,z2L,h2,i2];refine ⟨⟨h1,i1⟩,?_⟩
  congr 1
  omega
theorem ziV {hs:List Int} {p:Pos} {a:Nat} (h:z4n hs p a) (h0:0 < hs.getD a 0):z1r hs p (z0e a 0 (hs.getD a 0).toNat).flatten∧z4n hs (z1Z hs p (z0e a 0 (hs.getD a 0).toNat).flatten) (a+1):=by
 obtain ⟨m,hm⟩:∃ m:Nat,hs.getD a 0=((m+1:Nat):Int):=⟨(hs.getD a 0).toNat - 1,by omega⟩;have e:(hs.getD a 0).toNat=m+1:=(by omega);rw [e,z4h,List.flatten_cons];obtain ⟨h1,h2⟩:=z8W (t:=1) h (by omega) (by omega) (by omega);obtain ⟨i1,i2⟩:=zba (hs:=hs) (a:=a) m 1 (by omega);have e2:(0:Int)+1=1:=rfl;rw [e2,z24,z2L,h2,i2];refine ⟨⟨h1,i1⟩,.inr ⟨by omega,?_⟩⟩;have e3:a+1 - 1=a:=(by omega);rw [e3,hm]
 congr 1 <;> omega
theorem zjC {t:T} {hs:List Int} (hb:∀ x ∈ hs,0≤x) {a b:Nat} (hab:a < b) (hp:z08 t (a:Int)=1) {p:Pos} (h:z4n hs p a):z1r hs p (z14 t hs a b).flatten∧z4n hs (z1Z hs p (z14 t hs a b).flatten) b:=by
 by_cases h2:(b - a=1∧(t.rows.getD a dR).whole=false)∧0 < hs.getD a 0
 ·rw [zaw hp h2];have e:b=a+1:=(by omega);rw [e];exact ziV h h2.2
 ·rw [z6v hp h2];have e:b=a+(b - a):=(by omega);have:=zb9 hb (b - a) a p h;rw [← e] at this;rw [List.flatten_cons,List.flatten_nil,List.append_nil];exact this
theorem z9M {t:T} (hD:z0f t) (hok:zC t=true) (q:Int) (hq:q=t.head∨q=(t.rows.length:Int) - t.foot):z1x (gOf t).cells q=false:=by
 have hl:=z3t hok hD;have hbb:=z0T hok
 have h3:t.foot≤(t.rows.length:Int) - t.head:=by
  simp only [zC,z27,inB,Bool.and_eq_true,decide_eq_true_eq] at hok;exact hok.2.1.2.2
 rw [z2k hok]
 cases hc:z1x (zL t) q with
 | false=>rfl
 | true =>
  exfalso
  obtain ⟨x,hx,ho⟩:=List.any_eq_true.1 hc;obtain ⟨k,hk,rfl⟩:=List.mem_iff_getElem.1 hx;obtain ⟨r,j,hr,hj,he⟩:=(z8B hl hk).ex;have e:(zL t).getD k dG=(zL t)[k]:=(by simp [List.getD,hk]);rw [e] at he;rw [he] at ho;simp only [z1X,z1p,z1k,z4c,Bool.and_eq_true] at ho;unfold zV at ho;obtain ⟨h1,h2⟩:=ho;replace h1:=of_decide_eq_true h1;replace h2:=of_decide_eq_true h2
  rcases hq with rfl | rfl
  ·rw [if_pos h1] at h2;omega
  ·by_cases h4:(r:Int) < t.head
   ·rw [if_pos h4] at h2;omega
   ·rw [if_neg h4,if_neg (by omega)] at h2;omega
theorem zgc {t:T} (hok:zC t=true):∃ H E:Nat,t.head=H∧(t.rows.length:Int) - t.foot=E∧H≤E∧E≤t.rows.length∧1≤t.rows.length∧t.rows.length≤8:=by
 have hbb:=z0T hok
 have h3:t.foot≤(t.rows.length:Int) - t.head:=by
  simp only [zC,z27,inB,Bool.and_eq_true,decide_eq_true_eq] at hok;exact hok.2.1.2.2
 exact ⟨t.head.toNat,((t.rows.length:Int) - t.foot).toNat,by omega,by omega,by omega,by omega,hbb.1.1,hbb.1.2⟩
theorem z9a {gs:List GC} {R x:Nat} (hx:x≤R) (h:x < R→z1x gs (x:Int)=false):x ∈ z06 gs R:=by
 rcases Nat.lt_or_eq_of_le hx with h1 | rfl
 ·refine List.mem_append.2 (.inl (List.mem_filter.2 ⟨List.mem_range.2 h1,?_⟩));rw [h h1];rfl
 ·exact List.mem_append.2 (.inr (List.mem_singleton.2 rfl))
theorem zbb {gs:List GC} {R k x:Nat} (hk:k+1 < (z06 gs R).length) (hx:x ∈ z06 gs R) (h:(z06 gs R).getD k 0 < x):(z06 gs R).getD (k+1) 0≤x:=by
 obtain ⟨j,hj,rfl⟩:=List.mem_iff_getElem.1 hx;have h1:(z06 gs R).getD k 0=(z06 gs R)[k]:=(by simp [List.getD,show k < (z06 gs R).length by omega]);have h2:(z06 gs R).getD (k+1) 0=(z06 gs R)[k+1]:=(by simp [List.getD,hk]);rw [h1] at h;rw [h2];have hp:=List.pairwise_iff_getElem.1 (z7Y gs R)
 rcases Nat.lt_or_ge k j with h3 | h3
 ·rcases Nat.lt_or_eq_of_le (show k+1≤j by omega) with h4 | h4
  ·have:=hp (k+1) j hk hj h4;omega
  ·subst h4;exact Nat.le_refl _
 ·rcases Nat.lt_or_eq_of_le h3 with h4 | h4
  ·have:=hp j k hj (by omega) h4;omega
  ·subst h4;omega
theorem zeR {t:T} (hD:z0f t) (hok:zC t=true):z1x (gOf t).cells 0=false:=by
 rw [z2k hok]
 cases hc:z1x (zL t) 0 with
 | false=>rfl
 | true =>
  exfalso
  obtain ⟨x,hx,ho⟩:=List.any_eq_true.1 hc;have:=(z3e (z3t hok hD) hx).1.1;simp only [z1X,Bool.and_eq_true,decide_eq_true_eq] at ho;omega
theorem zeS {t:T} (hD:z0f t) (hok:zC t=true):(z06 (gOf t).cells t.rows.length).getD 0 0=0:=by
 have hb:=z0T hok;obtain ⟨n,hn⟩:∃ n,t.rows.length=n+1:=Nat.exists_eq_succ_of_ne_zero (by omega);have hm:(0:Nat) ∈ z06 (gOf t).cells t.rows.length:=z9a (by omega) (fun _=>zeR hD hok);obtain ⟨j,hj,e⟩:=List.mem_iff_getElem.1 hm;have hl:0 < (z06 (gOf t).cells t.rows.length).length:=(by omega);have h1:(z06 (gOf t).cells t.rows.length).getD 0 0=(z06 (gOf t).cells t.rows.length)[0]:=(by simp [List.getD,hl]);rw [h1]
 rcases Nat.eq_zero_or_pos j with rfl | h2
 ·exact e
 ·have:=List.pairwise_iff_getElem.1 (z7Y (gOf t).cells t.rows.length) 0 j hl hj h2;omega
theorem z82 (gs:List GC) (R:Nat):(z06 gs R).getD ((zG gs R).length) 0=R:=by
 have e:(zG gs R).length=((List.range R).filter (fun r:Nat=>!z1x gs (r:Int))).length:=(by simp [zG]);rw [e,z06];simp [List.getD]
def z3I (H E x:Nat):Nat:=max H (min x E)
theorem zgd {t:T} (hok:zC t=true) {H E:Nat} (hH:t.head=H) (hE:(t.rows.length:Int) - t.foot=E) {a:Nat} (ha:a < t.rows.length):z08 t (a:Int)=1 ↔ H≤a∧a < E:=by
 unfold z08;rw [if_pos ⟨hok,by unfold inB;exact decide_eq_true (by omega)⟩,hH,hE];by_cases h1:(a:Int) < (H:Int)
 ·rw [if_pos h1];constructor
  ·intro h;cases h
  ·intro h;omega
 ·rw [if_neg h1];by_cases h2:(E:Int)≤(a:Int)
  ·rw [if_pos h2];constructor
   ·intro h;cases h
   ·intro h;omega
  ·rw [if_neg h2];constructor
   ·intro _;omega
   ·intro _;rfl
theorem zbc {t:T} (hD:z0f t) (hok:zC t=true) {hs:List Int} (hb:∀ x ∈ hs,0≤x) {H E:Nat} (hH:t.head=H) (hE:(t.rows.length:Int) - t.foot=E) (hHE:H≤E) (hER:E≤t.rows.length) :
  ∀ k,k < (z06 (gOf t).cells t.rows.length).length→z1r hs ⟨t.head,0,false⟩ (z1b t hs (z06 (gOf t).cells t.rows.length) k).flatten∧z4n hs (z1Z hs ⟨t.head,0,false⟩ (z1b t hs (z06 (gOf t).cells t.rows.length) k).flatten) (z3I H E ((z06 (gOf t).cells t.rows.length).getD k 0))
 | 0,_=>by
  rw [z1b,zeS hD hok,List.flatten_nil];refine ⟨trivial,.inl ?_⟩;rw [hH];show (⟨(H:Int),0,false⟩:Pos)=_
  congr 1
  unfold z3I;omega
 | k+1,hk=>by
  obtain ⟨h1,h2⟩:=zbc hD hok hb hH hE hHE hER k (by omega);obtain ⟨s1,s2⟩:=z3F hk;have hmH:H ∈ z06 (gOf t).cells t.rows.length:=z9a (by omega) (fun _=>z9M hD hok _ (.inl hH.symm));have hmE:E ∈ z06 (gOf t).cells t.rows.length:=z9a hER (fun _=>z9M hD hok _ (.inr hE.symm));have nH:=zbb hk hmH;have nE:=zbb hk hmE;rw [z1b,List.flatten_append,z24,z2L];generalize z1Z hs ⟨t.head,0,false⟩ (z1b t hs (z06 (gOf t).cells t.rows.length) k).flatten=q at h2 ⊢;generalize (z06 (gOf t).cells t.rows.length).getD k 0=a at s1 h2 nH nE ⊢;generalize (z06 (gOf t).cells t.rows.length).getD (k+1) 0=b at s1 s2 nH nE ⊢;have hp:=zgd hok hH hE (a:=a) (by omega);by_cases h3:z08 t (a:Int)=1
  ·have h4:=hp.1 h3;have e1:z3I H E a=a:=(by unfold z3I;omega)
   have e2:z3I H E b=b:=by
    have:=nE (by omega);unfold z3I;omega
   rw [e1] at h2;rw [e2];obtain ⟨i1,i2⟩:=zjC hb s1 h3 h2;exact ⟨⟨h1,i1⟩,i2⟩
  ·have e:z3I H E a=z3I H E b:=by
    have h4:¬ (H≤a∧a < E):=fun h=>h3 (hp.2 h);unfold z3I;omega
   rw [zav h3,List.flatten_nil,← e];exact ⟨⟨h1,trivial⟩,h2⟩
theorem zcr {t:T} (hD:z0f t) (hok:zC t=true) {hs:List Int} (hb:∀ x ∈ hs,0≤x) {H E:Nat} (hH:t.head=H) (hE:(t.rows.length:Int) - t.foot=E) (hHE:H≤E) (hER:E≤t.rows.length) :
  z1r hs ⟨t.head,0,false⟩ (z0E t hs).flatten∧z4n hs (z1Z hs ⟨t.head,0,false⟩ (z0E t hs).flatten) E:=by
 have:=zbc hD hok hb hH hE hHE hER (zG (gOf t).cells t.rows.length).length (by rw [z4v];omega);rw [z82] at this;have e:z3I H E t.rows.length=E:=(by unfold z3I;omega);rw [e] at this;exact this
theorem zbd {hs:List Int} (hb:∀ x ∈ hs,0≤x∧x≤1000):∀ n a,hiS (zD hs a n)≤1000 * n
 | 0,a=>by simp [zD,hiS]
 | n+1,a=>by
  have h0:hs.getD a 0≤1000:=by
   by_cases ha:a < hs.length
   ·exact (hb _ (by simp [List.getD,ha])).2
   ·simp [List.getD,ha]
  have:=zbd hb n (a+1);have e:hiS (zD hs a (n+1))=hs.getD a 0 - 0+hiS (zD hs (a+1) n):=(by simp [zD,hiS]);omega
theorem z9b (r f:Int):∀ n,hiS (z0e r f n).flatten=n
 | 0=>by simp [z0e,hiS]
 | n+1=>by
  rw [z81,List.flatten_append,z23,z9b r f n,List.flatten_cons,List.flatten_nil,List.append_nil,z34];simp only;omega
theorem zbe (r f:Int):∀ n,(z0e r f n).flatten.length=n
 | 0=>rfl
 | n+1=>by
  rw [z81,List.flatten_append,List.length_append,zbe r f n];rfl
theorem zkg {t:T} {hs:List Int} (hb:∀ x ∈ hs,0≤x∧x≤1000) {a b:Nat} (hab:a < b):hiS (z14 t hs a b).flatten≤1000 * ((b:Int) - a)∧(z14 t hs a b).flatten.length≤1000 * (b - a):=by
 unfold z14
 split
 ·split
  ·have hm:hs.getD a 0≤1000:=by
    by_cases ha:a < hs.length
    ·exact (hb _ (by simp [List.getD,ha])).2
    ·simp [List.getD,ha]
   rw [z9b,zbe];omega
  ·have:=zbd hb (b - a) a;rw [List.flatten_cons,List.flatten_nil,List.append_nil,z1Q];omega
 ·simp [hiS];omega
theorem zcs {t:T} {hs:List Int} (hb:∀ x ∈ hs,0≤x∧x≤1000) {gs:List GC} {R:Nat}:∀ k,k < (z06 gs R).length→hiS (z1b t hs (z06 gs R) k).flatten≤1000 * (z06 gs R).getD k 0∧(z1b t hs (z06 gs R) k).flatten.length≤1000 * (z06 gs R).getD k 0
 | 0,_=>by
  simp [z1b,hiS];omega
 | k+1,hk=>by
  have ih:=zcs (t:=t) hb (gs:=gs) (R:=R) k (by omega);obtain ⟨s1,_⟩:=z3F hk;have h1:=zkg (t:=t) hb s1;rw [z1b,List.flatten_append,z23,List.length_append];omega
theorem zei {t:T} {hs:List Int} (hb:∀ x ∈ hs,0≤x∧x≤1000):hiS (z0E t hs).flatten≤1000 * t.rows.length∧(z0E t hs).flatten.length≤1000 * t.rows.length:=by
 have:=zcs (t:=t) hb (gs:=(gOf t).cells) (R:=t.rows.length) (zG (gOf t).cells t.rows.length).length (by rw [z4v];omega);rw [z82] at this;exact this
theorem z5O {t:T} (hD:z0f t) (hok:zC t=true) {hs:List Int} (hb:∀ x ∈ hs,0≤x∧x≤1000) {A B C:List (List PgS)} (h:z0E t hs=A ++ B ++ C) :
  (0≤hiS (B.foldl zP [])∧hiS (B.foldl zP [])≤1000000)∧(B.foldl zP []).length≤50000∧hiS (B.foldl zP [])=hiS B.flatten:=by
 obtain ⟨H,E,hH,hE,h1,h2,h3,h4⟩:=zgc hok;have hr:=(zcr hD hok (fun x hx=>(hb x hx).1) hH hE h1 h2).1;have hh:=zei (t:=t) hb;rw [h,List.flatten_append,List.flatten_append] at hr hh;rw [z24,z24] at hr;obtain ⟨⟨r1,r2⟩,r3⟩:=hr;have n1:=z6h (z6g r1);have n2:=z6h (z6g r2);have n3:=z6h (z6g r3);rw [z23,z23,List.length_append,List.length_append] at hh;have r4:=zb7 (page:=[]) (by simpa using r2);have l4:=zb8 B [];rw [r4.2.2];simp only [List.length_nil] at l4;have e0:hiS []=0:=rfl;omega
theorem zge {t:T} (hD:z0f t) (hok:zC t=true) {hs:List Int} (hb:∀ x ∈ hs,0≤x∧x≤1000) {p:List PgS} (hp:p ∈ z0E t hs):(0≤hiS p∧hiS p≤1000000)∧p.length≤50000:=by
 obtain ⟨A,C,e⟩:=List.append_of_mem hp;obtain ⟨H,E,hH,hE,h1,h2,h3,h4⟩:=zgc hok;have hr:=(zcr hD hok (fun x hx=>(hb x hx).1) hH hE h1 h2).1;have hh:=zei (t:=t) hb;rw [e,List.flatten_append,List.flatten_cons] at hr hh;rw [z24,z24] at hr;obtain ⟨r1,r2,r3⟩:=hr;have n1:=z6h (z6g r1);have n2:=z6h (z6g r2);have n3:=z6h (z6g r3);rw [z23,z23,List.length_append,List.length_append] at hh;omega
def z41 (rm:List Int) (st:List (List (List PgS)) × List (List PgS)) (p:List PgS):List (List (List PgS)) × List (List PgS) :=
 if z13 (st.2.foldl zP []) p (zH rm st.1.length) then (st.1,st.2 ++ [p]) else (st.1 ++ [st.2],[p])
def z0A (g:List (List PgS)):List PgS:=g.foldl zP []
theorem zeT (rm:List Int) (st:List (List (List PgS)) × List (List PgS)) (p:List PgS):zR rm (st.1.map z0A,z0A st.2) p=((z41 rm st p).1.map z0A,z0A (z41 rm st p).2):=by
 unfold zR z41;simp only [List.length_map];show (if z13 (st.2.foldl zP []) p (zH rm st.1.length)=true then _ else _)=_
 split
 ·simp [z0A]
 ·simp [z0A]
theorem ziy (rm:List Int):∀ (ps:List (List PgS)) (st:List (List (List PgS)) × List (List PgS)),ps.foldl (zR rm) (st.1.map z0A,z0A st.2)=((ps.foldl (z41 rm) st).1.map z0A,z0A (ps.foldl (z41 rm) st).2)
 | [],st=>rfl
 | p :: ps,st=>by
  rw [List.foldl_cons,List.foldl_cons,zeT,ziy rm ps]
def z7j (rm:List Int) (ps:List (List PgS)):List (List (List PgS)):=(ps.foldl (z41 rm) ([],[])).1 ++ [(ps.foldl (z41 rm) ([],[])).2]
theorem zct (rm:List Int) (ps:List (List PgS)):z3V rm ps=(z7j rm ps).map z0A:=by
 have:=ziy rm ps ([],[]);unfold z3V z7j;simp only [List.map_append,List.map_cons,List.map_nil];show (ps.foldl (zR rm) ([].map z0A,z0A [])).1 ++ [(ps.foldl (zR rm) ([].map z0A,z0A [])).2]=_;rw [this]
structure GI (rm:List Int) (ps:List (List PgS)) (st:List (List (List PgS)) × List (List PgS)):Prop where
 flat:(st.1 ++ [st.2]).flatten=ps
 ne:ps ≠ []→∀ g ∈ st.1 ++ [st.2],g ≠ []
 only:ps=[]→st.1=[]
 fit:∀ i,i < st.1.length→(st.1.getD i []).length≤1∨hiS (st.1.getD i []).flatten≤zH rm i
 fit2:st.2.length≤1∨hiS st.2.flatten≤zH rm st.1.length
 full:∀ i,i < st.1.length→zH rm i < hiS (st.1.getD i []).flatten+hiS (((st.1 ++ [st.2]).getD (i+1) []).headD [])
theorem zej (page:List PgS) (s:PgS):z1V page s ≠ []:=by
 rcases List.eq_nil_or_concat page with rfl | ⟨a,l,rfl⟩
 ·simp [z1V]
 ·rw [List.concat_eq_append,z4H]
  split <;> simp
theorem zax:∀ {piece page:List PgS},page ≠ []→zP page piece ≠ []
 | [],_,h=>h
 | s :: l,page,_=>zax (piece:=l) (zej page s)
theorem z9c {piece page:List PgS} (h:piece ≠ []):zP page piece ≠ []:=by
 cases piece with
 | nil=>exact absurd rfl h
 | cons s l=>exact zax (piece:=l) (zej page s)
theorem zcu:∀ {g:List (List PgS)} {page:List PgS},page ≠ []→g.foldl zP page ≠ []
 | [],_,h=>h
 | _ :: g,_,h=>zcu (g:=g) (zax h)
theorem zeU {g:List (List PgS)} (h:∀ p ∈ g,p ≠ []):z0A g=[] ↔ g=[]:=by
 constructor
 ·intro e
  cases g with
  | nil=>rfl
  | cons p g =>
   exact absurd e (zcu (g:=g) (z9c (h p (by simp))))
 ·rintro rfl;rfl
theorem z5P {α:Type} {a b:List α} {d:α} {i:Nat} (h:i < a.length):(a ++ b).getD i d=a.getD i d:=by
 rw [List.getD_eq_getElem?_getD,List.getElem?_append_left h,← List.getD_eq_getElem?_getD]
theorem z4V {α:Type} {a:List α} {x d:α}:(a ++ [x]).getD a.length d=x:=by simp [List.getD]
theorem zeV {α:Type} {a:List α} {x y d:α}:(a ++ [x] ++ [y]).getD (a.length+1) d=y:=by
 have:a.length+1=(a ++ [x]).length:=(by simp);rw [this,z4V]
theorem GI.step {rm:List Int} {ps:List (List PgS)} {st:List (List (List PgS)) × List (List PgS)} (h:GI rm ps st) {p:List PgS} (hall:∀ q ∈ ps,q ≠ []) (hmer:hiS (z0A st.2)=hiS st.2.flatten):GI rm (ps ++ [p]) (z41 rm st p):=by
 obtain ⟨done,cur⟩:=st
 have hcur:∀ q ∈ cur,q ≠ []:=fun q hq=>hall q (by
  rw [← h.flat];simp only [List.flatten_append,List.mem_append]
  right
  simpa using hq)
 have hmn:=zeU hcur;unfold z41;simp only at hmer hmn ⊢;by_cases hc:cur=[]
 ·subst hc
  have hps:ps=[]:=by
   cases ps with
   | nil=>rfl
   | cons a l=>exact absurd rfl (h.ne (by simp) [] (by simp))
  have hd:=h.only hps;simp only at hd;subst hd hps;rw [if_pos (by rfl)];refine ⟨by simp,?_,by simp,by simp,.inl (by simp),by simp⟩;intro _ g hg;simp only [List.nil_append,List.mem_singleton] at hg;rw [hg];simp
 ·have hne:(cur.foldl zP []).isEmpty=false:=by
   have h2:z0A cur ≠ []:=fun e=>hc (hmn.1 e);unfold z0A at h2
   cases hx:cur.foldl zP [] with
   | nil=>exact absurd hx h2
   | cons a l=>rfl
  have hps:ps ≠ []:=by
   intro e;have:=h.flat;rw [e] at this;simp only [List.flatten_append,List.append_eq_nil_iff] at this;exact hc (by simpa using this.2)
  have hfl:=h.flat;have hne2:=h.ne hps;by_cases ht:z13 (cur.foldl zP []) p (zH rm done.length)=true
  ·rw [if_pos ht];have ht2:=ht;unfold z13 at ht2;rw [hne,Bool.false_or,decide_eq_true_eq] at ht2;have e1:hiS (cur.foldl zP [])=hiS cur.flatten:=hmer;refine ⟨?_,fun _ g hg=>?_,fun e=>by simp at e,h.fit,.inr ?_,fun i hi=>?_⟩
   ·rw [← hfl];simp
   ·rcases List.mem_append.1 hg with h1 | h1
    ·exact hne2 g (List.mem_append.2 (.inl h1))
    ·rw [List.mem_singleton.1 h1];simp
   ·simp only [List.flatten_append,z23,List.flatten_cons,List.flatten_nil,List.append_nil];omega
   ·have hf:=h.full i hi;simp only at hf hi ⊢
    rcases Nat.lt_or_eq_of_le (show i+1≤done.length by omega) with h1 | h1
    ·rw [z5P h1] at hf ⊢;exact hf
    ·rw [h1,z4V] at hf ⊢
     cases cur with
     | nil=>exact absurd rfl hc
     | cons a l=>exact hf
  ·rw [if_neg ht];have ht2:=ht;unfold z13 at ht2;rw [hne,Bool.false_or,decide_eq_true_eq] at ht2;have e1:hiS (cur.foldl zP [])=hiS cur.flatten:=hmer;have hf2:=h.fit2;refine ⟨?_,fun _ g hg=>?_,fun e=>by simp at e,fun i hi=>?_,.inl (by simp),fun i hi=>?_⟩
   ·simp only at hfl ⊢;rw [List.flatten_append,hfl];simp
   ·rcases List.mem_append.1 hg with h1 | h1
    ·exact hne2 g h1
    ·rw [List.mem_singleton.1 h1];simp
   ·simp only [List.length_append,List.length_cons,List.length_nil] at hi ⊢
    rcases Nat.lt_or_eq_of_le (show i≤done.length by omega) with h1 | h1
    ·rw [z5P h1];exact h.fit i h1
    ·subst h1;rw [z4V];exact hf2
   ·simp only [List.length_append,List.length_cons,List.length_nil] at hi ⊢
    rcases Nat.lt_or_eq_of_le (show i≤done.length by omega) with h1 | h1
    ·have hf:=h.full i h1;simp only at hf;rw [z5P h1,z5P (by simp;omega)];exact hf
    ·subst h1;rw [z4V,zeV];simp only [List.headD_cons];omega
theorem zcv {rm:List Int}:∀ {ps:List (List PgS)},(∀ q ∈ ps,q ≠ [])→(∀ A B C,ps=A ++ B ++ C→hiS (B.foldl zP [])=hiS B.flatten)→GI rm ps (ps.foldl (z41 rm) ([],[])):=by
 suffices h:∀ (n:Nat) (ps:List (List PgS)),ps.length=n→(∀ q ∈ ps,q ≠ [])→(∀ A B C,ps=A ++ B ++ C→hiS (B.foldl zP [])=hiS B.flatten)→GI rm ps (ps.foldl (z41 rm) ([],[])) from fun {ps}=>h ps.length ps rfl
 intro n
 induction n with
 | zero =>
  intro ps hl _ _;have:ps=[]:=List.eq_nil_of_length_eq_zero hl;subst this;exact ⟨by simp,fun h=>absurd rfl h,fun _=>rfl,fun i hi=>absurd hi (Nat.not_lt_zero i),.inl (by simp),fun i hi=>absurd hi (Nat.not_lt_zero i)⟩
 | succ n ih =>
  intro ps hl hne hm
  rcases List.eq_nil_or_concat ps with rfl | ⟨a,p,rfl⟩
  ·cases hl
  ·rw [List.concat_eq_append] at hl hne hm ⊢;rw [List.foldl_append,List.foldl_cons,List.foldl_nil];have hG:=ih a (by simpa using hl) (fun q hq=>hne q (List.mem_append.2 (.inl hq))) (fun A B C e=>hm A B (C ++ [p]) (by rw [e];simp));refine hG.step (fun q hq=>hne q (List.mem_append.2 (.inl hq))) ?_;refine hm ((a.foldl (z41 rm) ([],[])).1.flatten) _ [p] ?_;have:=hG.flat;rw [List.flatten_append] at this;simp only [List.flatten_cons,List.flatten_nil,List.append_nil] at this;rw [this]
theorem zgf {t:T} {hs:List Int} {gs:List GC} {R:Nat}:∀ k,k < (z06 gs R).length→∀ p ∈ z1b t hs (z06 gs R) k,p ≠ []
 | 0,_,p,hp=>by simp [z1b] at hp
 | k+1,hk,p,hp=>by
  obtain ⟨s1,_⟩:=z3F hk;rw [z1b] at hp
  rcases List.mem_append.1 hp with h1 | h1
  ·exact zgf k (by omega) p h1
  ·unfold z14 at h1
   split at h1
   ·split at h1
    ·rw [z0e,List.mem_map] at h1;obtain ⟨i,_,rfl⟩:=h1;simp
    ·rw [List.mem_singleton] at h1;subst h1;intro e;have:=z1Q hs ((z06 gs R).getD (k+1) 0 - (z06 gs R).getD k 0) ((z06 gs R).getD k 0);rw [e,List.length_nil] at this;omega
   ·cases h1
theorem zek {t:T} {hs:List Int}:∀ p ∈ z0E t hs,p ≠ []:=zgf _ (by rw [z4v];omega)
theorem zdC {t:T} (hD:z0f t) (hok:zC t=true) {hs:List Int} (hb:∀ x ∈ hs,0≤x∧x≤1000) (rm:List Int):GI rm (z0E t hs) ((z0E t hs).foldl (z41 rm) ([],[])) :=
 zcv zek (fun _ _ _ e=>(z5O hD hok hb e).2.2)
theorem zhM {w:World} {base:Nat} {e:TypeId} {n cap g:Nat} {xs:List Value} (h:w.ownsRow base e 1 (.slice (some ⟨g,0,none⟩) n cap) n xs):∀ j u,xs[j]?=some u→w.cell? ((⟨g,0,none⟩:Addr).add j)=some u:=by
 intro j u hj
 rcases h.2 with ⟨e,_⟩ | ⟨g',cap',cur,e,hb,hg,h1,h2,h3,h4⟩
 ·cases e
 ·simp only [Value.slice.injEq,Option.some.injEq,Addr.mk.injEq,and_true,true_and] at e;obtain ⟨rfl,rfl⟩:=e
  have hjn:j < n:=by
   have:=(List.getElem?_eq_some_iff.1 hj).1;rw [h.1] at this;omega
  rw [← h4,List.getElem?_take_of_lt (by omega)] at hj;have e2:(⟨g,0,none⟩:Addr).add j=⟨g,j,none⟩:=(by simp [Addr.add];intro h;exact h.symm);rw [e2,zf hg,← Array.getElem?_toList,hj]
theorem z6w {w w':World} {base:Nat} {e:TypeId} {sz:Nat} {v:Value} {m:Nat} {xs:List Value} (h:w.ownsRow base e sz v m xs) (hb:Below w.heap.size w w'):w'.ownsRow base e sz v m xs :=
 ⟨h.1,h.2.elim Or.inl (fun ⟨g,cap,cur,hv,hg,hc,r⟩=>Or.inr ⟨g,cap,cur,hv,hg,(hb.block g (bL hc)).trans hc,r⟩)⟩
theorem zZ.cell1 {w:World} {B:Nat} {us:List Value} {ls:List (List PgS)} (h:zZ w B us ls):∀ u ∈ us,u.oneCell'=true:=by
 intro u hu;obtain ⟨i,hi,rfl⟩:=List.mem_iff_getElem.1 hu;obtain ⟨a,c,e⟩:=(h.2 i (by rw [← h.1];exact hi)).form;have e2:us.getD i (.slice none 0 0)=us[i]:=(by simp [List.getD,hi]);rw [← e2,e];rfl
structure PH (w:World) (z:Nat) (ac ar:Option Addr) (cc cr:Nat) (t:T) (hs:List Int) (vh vb:Value) (bl:List Int) (W:World):Prop where
 below:Below w.heap.size w W
 box:W.heap[w.heap.size]?=some (.cells #[.slice ac t.cols.length cc,.int .i64 t.head,.int .i64 t.foot,.slice ar t.rows.length cr,.int .i64 t.gap] 26)
 ta:TA W z ac ar cc cr t
 hts:zA W vh hs
 bnd:zA W vb bl
theorem PH.kept {w:World} {z:Nat} {ac ar:Option Addr} {cc cr:Nat} {t:T} {hs:List Int} {vh vb:Value} {bl:List Int} {W W':World} (h:PH w z ac ar cc cr t hs vh vb bl W) (k:Below W.heap.size W W'):PH w z ac ar cc cr t hs vh vb bl W' :=
 ⟨zh h.below k,(k.block _ (bL h.box)).trans h.box,h.ta.kept k,h.hts.kept k,h.bnd.kept k⟩
theorem zcy (ac ar:Option Addr) (cc cr:Nat) (t:T) (hD:z0f t) (htk:zC t=true) (hs:List Int) (hl:hs.length=t.rows.length) (hb:∀ x ∈ hs,0≤x∧x≤1000) (v:Value) (w:World) {z:Nat} (hc:z07 w z (.slice ac t.cols.length cc) t.cols) (hr:z01 w z (.slice ar t.rows.length cr) t.rows) (hv:zA w v hs) :
  Calls Tryz.prog 40 #[.agg #[.slice ac t.cols.length cc,.int .i64 t.head,.int .i64 t.foot,.slice ar t.rows.length cr,.int .i64 t.gap],v] w fun e w'=>∃ u us,e=.returned u∧w'.ownsRow w.heap.size 41 1 u us.length us∧zZ w' w.heap.size us (z0E t hs)∧Below w.heap.size w w':=by
 obtain ⟨i0,hi0,hz0,hz1,hz2⟩:=info_parts z67;obtain ⟨j0,hj0,hy0,hy1,hy2⟩:=info_parts z9D;obtain ⟨av,cv,rfl,_⟩:=hv.form;rw [hl] at hv ⊢;have HK0:=Hd (ze (Below.refl w.heap.size w) (.cells #[.slice ac t.cols.length cc,.int .i64 t.head,.int .i64 t.foot,.slice ar t.rows.length cr,.int .i64 t.gap] 26));have HX0:=Hd (zj w (.cells #[.slice ac t.cols.length cc,.int .i64 t.head,.int .i64 t.foot,.slice ar t.rows.length cr,.int .i64 t.gap] 26));have HT0:Hid (TA w z ac ar cc cr t):=⟨hc,hr⟩;have HV0:=Hd hv;have hs0:(w.alloc (.cells #[.slice ac t.cols.length cc,.int .i64 t.head,.int .i64 t.foot,.slice ar t.rows.length cr,.int .i64 t.gap] 26)).heap.size=w.heap.size+1:=(by simp);have hR8:=z0T htk;have HGk:=Hd (z65 hD);have KG:=Hd (fun W (h:TA W z ac ar cc cr t)=>z5D ac ar cc cr t hD W h.1 h.2);have HGr:Hid ((gOf t).rows=(t.rows.length:Int)):=Hd (by rw [z2k htk])
 have HFc:Hid (∀ row,z4T (gOf t).cells row=z1x (gOf t).cells row):=Hd (fun row=>by
  refine zhr (R:=t.rows.length) (C:=z0q (max 1 (t.cols.length:Int)) (zL t)) (fun a ha=>?_) row;rw [z2k htk] at ha;exact z8V (z3t htk hD) ha)
 have KP:=Hd (fun W (q:Int) (h:TA W z ac ar cc cr t)=>z8X ac ar cc cr t q W h.1 h.2);have HB:=Hd hb;have HL:=Hd hl;clear hc hr hv hl hb;go_enter Tryz.func40,Tryz.ntmps40;go_upto_region 2 with fail
 generalize w.alloc (.cells #[.slice ac t.cols.length cc,.int .i64 t.head,.int .i64 t.foot,.slice ar t.rows.length cr,.int .i64 t.gap] 26)=W0 at HK0 HX0 hs0 ⊢;obtain ⟨b0,b1,b2,b3,b4⟩:=zU HX0.out;go_wp2_with fail
 refine (KG.out _ (HT0.out.kept HK0.out)).mono ?_;rintro e w1 ⟨vg,rfl,hO1,hb1⟩;obtain ⟨ag,cg,rfl⟩:=z4G hO1;rw [HGr.out];have HG1:=Hd (hO1.at HGk.out);have HX1:=Hd ((hb1.block w.heap.size (by omega)).trans HX0.out);have HK1:=Hd (zh HK0.out hb1);have hs1:w.heap.size < w1.heap.size:=(by have:=hb1.size;omega);clear hb1 hO1 b0 b1 b2 b3 b4 KG HX0 HK0;go_wp2_with fail
 refine (zcf t.rows.length (by omega) (gOf t).cols ag cg (gOf t).cells HFc.out w1 HG1.out).mono ?_;rintro e w2 ⟨vb,rfl,hI2,hb2⟩;obtain ⟨ab0,cb0,rfl⟩:=hI2.form;have hO2:=hI2.owns;have HX2:=Hd ((hb2.block w.heap.size hs1).trans HX1.out);have HK2:=Hd (zh HK1.out hb2);have hs2:w.heap.size < w2.heap.size:=(by have:=hb2.size;omega);have hs12:=hb2.size;have hbl:=z36 (gOf t).cells t.rows.length;have HL2:=Hd (z4v (gOf t).cells t.rows.length);have HL3:=Hd (fun (k:Nat)=>zcl (gs:=(gOf t).cells) (R:=t.rows.length) (k:=k));have HL4:=Hd (fun (k:Nat)=>z3F (gs:=(gOf t).cells) (R:=t.rows.length) (k:=k));have HPT:Hid (z0E t hs=z1b t hs (z06 (gOf t).cells t.rows.length) (zG (gOf t).cells t.rows.length).length):=Hd rfl;have HPL:Hid (∀ k,(z1b t hs (z06 (gOf t).cells t.rows.length) k).length≤1000 * k):=Hd (fun k=>z7Z HB.out _ k);generalize z06 (gOf t).cells t.rows.length=L at HL2 HL3 HL4 HPT HPL;generalize zG (gOf t).cells t.rows.length=bs at hI2 hO2 hbl HL2 HL3 HPT;clear hb2 HX1 HK1 HG1 hI2 HFc;go_wp2_with (at_builtin;refine wpList_append_own _ rfl _ _ 27 rfl w1.heap.size 3 j0 (.int .i64 0) 1 8 Tryz.underlying27 hj0 hy0 hy1 hy2 rfl (by decide) _ _ _ rfl (hO2.alloc _) ⟨w2.heap.size,0,none⟩ 1 1 [.int .i64 (t.rows.length:Int)] rfl rfl ?d1 ?d2 ?d3 ?d4 ?d5 ?_)
 case d1=>exact z0F (zj w2 (.cells #[.int .i64 (t.rows.length:Int)] 3))
 case d2=>simp [Value.oneCell']
 case d3=>unfold maxLen;omega
 case d4=>omega
 case d5=>simp;omega
 intro v5 w5 hown5 hgrow5 _;have hK5:Below w.heap.size w w5:=(ze HK2.out _).grown hgrow5 (by simp;omega) (fun b hb=>by have:=(hO2.lt b hb).1;have:=HK2.out.size;omega);have hI5:zA w5 v5 (bs ++ [(t.rows.length:Int)]):=(zq.of_owns (B:=w1.heap.size) (l:=bs ++ [(t.rows.length:Int)]) (by simpa using hown5)).at;have hne5:some w.heap.size ≠ (Value.slice ab0 bs.length cb0).ownBlock:=fun e=>by have:=(hO2.lt _ e.symm).1;omega
 have hX5:=(hgrow5.block w.heap.size (by simp;omega) hne5).trans ((Below.heap_alloc _ _ _ hs2).trans HX2.out);have HP5:Hid (PH w z ac ar cc cr t hs (.slice av t.rows.length cv) v5 (bs ++ [(t.rows.length:Int)]) w5):=Hd ⟨hK5,hX5,HT0.out.kept hK5,HV0.out.kept hK5,hI5⟩;obtain ⟨g5,cap5,rfl⟩:=Joins.ownsRow_form hown5 (by omega)
 have hc5:bs.length+1≤cap5∧cap5≤9223372036854775807:=by
  obtain ⟨_,c,e,h1,h2,_⟩:=hI5;simp only [Value.slice.injEq] at e;obtain ⟨_,_,rfl⟩:=e;unfold maxLen at h2;rw [List.length_append,List.length_cons,List.length_nil] at h1;omega
 clear hK5 hI5 hne5 hX5 hown5 hgrow5 hO2 HK2 HX2 HT0 HV0 hs1;go_wp2_with fail
 go_loopw [5,23] (fun o i W=>∃ (k:Nat) (us:List Value) (vo:Value),k≤bs.length∧i=.int .i64 (k:Int)∧o=vo∧Hid (W.ownsRow w5.heap.size 41 1 vo us.length us)∧Hid (zZ W w5.heap.size us (z1b t hs L k))∧Hid (Below w5.heap.size w5 W)) (fun _ i _=>bs.length - (intOf i).toNat)
 case atStart=>exact ⟨0,[],_,Nat.zero_le _,rfl,rfl,⟨rfl,.inl ⟨rfl,rfl⟩⟩,zZ.nil _ _,Below.refl _ _⟩
 case round =>
  obtain ⟨k,us,vo,hk,rfl,rfl,HO,HP,HBk⟩:=hrel
  have hub:us.length≤1000 * k:=by
   have:=HP.out.1;have:=HPL.out k;omega
  have HUl:=Hd HP.out.1;have HPr:=Hd (HP5.out.kept HBk.out);obtain ⟨ao,co,rfl,_⟩:=z0h HO.out;by_cases hlt:k < bs.length
  case neg =>
   obtain rfl:k=bs.length:=by omega
   have hsz:=HP5.out.below.size;go_wp2;go_ret;exact ⟨_,us,rfl,z9d HO.out hsz,by rw [HPT.out];exact HP.out.base hsz,HPr.out.below⟩
  obtain ⟨s1,s2⟩:=HL4.out k (by rw [HL2.out];omega);have HA:=Hd (show L.getD k 0=L.getD k 0 from rfl);obtain ⟨a,ha⟩:∃ a,L.getD k 0=a:=⟨_,rfl⟩;obtain ⟨m,hm⟩:∃ m,L.getD (k+1) 0=a+m:=⟨L.getD (k+1) 0 - a,by omega⟩;have x1:=(HPr.out.bnd.get (i:=k) (by simp;omega));have x2:=(HPr.out.bnd.get (i:=k+1) (by simp;omega));rw [HL3.out k (by rw [HL2.out];omega),ha] at x1;rw [HL3.out (k+1) (by rw [HL2.out];omega),hm] at x2;rw [ha,hm] at s1;rw [hm] at s2;replace HA:=Hd ha;have HA2:=Hd hm;obtain ⟨gx,ox,cx,e',hz1,hz2,hz3,x1⟩:=x1;clear hz1 hz2 hz3;simp only [Value.slice.injEq,Option.some.injEq,Addr.mk.injEq,and_true] at e';obtain ⟨⟨rfl,rfl⟩,hz,rfl⟩:=e';clear hz;obtain ⟨gx,ox,cx,e',hz1,hz2,hz3,x2⟩:=x2;clear hz1 hz2 hz3;simp only [Value.slice.injEq,Option.some.injEq,Addr.mk.injEq,and_true] at e';obtain ⟨⟨rfl,rfl⟩,hz,rfl⟩:=e';clear hz;have hm1:1≤m:=(by omega);have hla:a+m≤hs.length:=(by rw [HL.out];exact s2);rw [Nat.zero_add] at x1 x2;obtain ⟨b0,b1,b2,b3,b4⟩:=zU HPr.out.box;have KQ:=Hd (KP.out wr (a:Int) HPr.out.ta);have HFA:=Hd (fun (h:¬ z08 t (a:Int)=1)=>zav (hs:=hs) (b:=a+m) h);have HFB:=Hd (fun (h:z08 t (a:Int)=1) h2=>zaw (hs:=hs) (b:=a+m) h h2);have HFC:=Hd (fun (h:z08 t (a:Int)=1) h2=>z6v (hs:=hs) (b:=a+m) h h2);have hsub:a+m - a=m:=(by omega);rw [hsub] at HFB HFC;clear ha hm s1 hsub;by_cases hp:z08 t (a:Int)=1
  case neg =>
   have HS:=Hd (HFA.out hp);have hp2:(z08 t (a:Int) != 1)=true:=bne_iff_ne.2 hp;clear HFA HFB HFC;go_wp2_with fail
   refine KQ.out.mono ?_;rintro e w2 ⟨rfl,hb2⟩;have HO2:=Hd (z6w HO.out hb2)
   have HP2:Hid (zZ w2 w5.heap.size us (z1b t hs L (k+1))):=Hd (by
    rw [z1b,HA.out,HA2.out,HS.out,List.append_nil];exact HP.out.kept hb2)
   have HB2:=Hd (zh HBk.out hb2);clear hb2 b0 b1 b2 b3 b4 x1 x2;go_wp2;go_roundw
   case rel=>exact ⟨k+1,us,_,by omega,by go_num,rfl,HO2,HP2,HB2⟩
   case measure=>simp [intOf];omega
  replace HFB:=Hd (HFB.out hp);replace HFC:=Hd (HFC.out hp);rw [hp] at KQ;clear hp HFA;go_wp2_with fail
  refine KQ.out.mono ?_;rintro e w2 ⟨rfl,hb2⟩;replace HO:=Hd (z6w HO.out hb2);replace HP:=Hd (HP.out.kept hb2);replace HBk:=Hd (zh HBk.out hb2);have hK2:=HPr.out.kept hb2;have hsz2:=HBk.out.size;clear hb2 b0 b1 b2 b3 b4 KQ HPr;have hx:=(hK2.bnd.get (i:=k+1) (by simp;omega));rw [HL3.out (k+1) (by rw [HL2.out];omega),HA2.out,Int.natCast_add] at hx;obtain ⟨gx,ox,cx,e',hz1,hz2,hz3,x3⟩:=hx;clear hz1 hz2 hz3;simp only [Value.slice.injEq,Option.some.injEq,Addr.mk.injEq,and_true] at e';obtain ⟨⟨rfl,rfl⟩,hz,rfl⟩:=e';clear hz x1 x2;rw [Nat.zero_add] at x3;have KW:=Hd (z7K hs a m hla (by have:=HL.out;omega) _ w2 hK2.hts);have HPk:=Hd hK2;have HLn:=Hd (z1Q hs m a)
  have HEd:Hid ((zD hs a m).getD 0 dP=⟨(a:Int),0,hs.getD a 0⟩):=Hd (by
   obtain ⟨q,rfl⟩:∃ q,m=q+1:=⟨m - 1,by omega⟩
   rfl)
  have hya:0≤hs.getD a 0∧hs.getD a 0≤1000:=HB.out _ (by
   have h:a < hs.length:=(by omega);simp [List.getD,h])
  clear hK2;go_wp2_with fail
  refine KW.out.mono ?_;rintro e w3 ⟨ub,rfl,hU,hb3⟩;obtain ⟨ab,cb,rfl⟩:=hU.form;rw [HLn.out] at hU ⊢;have HO3:=Hd (z6w HO.out hb3);have HP3:=Hd (HP.out.kept hb3);have HB3:=Hd (zh HBk.out hb3);have hsz3:=HB3.out.size;have hK3:=HPk.out.kept hb3;have HU:=Hd (hU.base hsz2);obtain ⟨e0,e1,e2,e3,e4⟩:=zU hK3.box;obtain ⟨br,offr,capr,er,r1,r2,r3,ur,r4,r5,r6⟩:=hK3.ta.2.get (i:=a) (by have:=HL.out;omega);simp only [Value.slice.injEq] at er;obtain ⟨er,hz,rfl⟩:=er;clear hz r3 r4 r6;obtain ⟨bh,oh,ch,eh,q1,q2,q3,q4⟩:=hK3.hts.get (i:=a) (by omega);simp only [Value.slice.injEq] at eh;obtain ⟨eh,hz,rfl⟩:=eh;clear hz q3;obtain ⟨bb,ob,cbb,eb,p1,p2,p3,p4,p5,p6⟩:=At.get hU.at (i:=0) (by rw [HLn.out];omega);simp only [Value.slice.injEq] at eb;obtain ⟨eb,hz,rfl⟩:=eb;rw [HEd.out] at p4 p5 p6;rw [HLn.out] at p1;simp only [Nat.zero_mul,Nat.add_zero] at p4 p5 p6;subst er eh eb;clear hz p3 hb3 hU hK3 HO HP HBk HPk KW x3 HLn HEd HB;unfold maxLen at r2 q2 p2;have hln:=HL.out;generalize hs.getD a 0=y at q4 p6 HFB HFC hya;generalize (t.rows.getD a dR).whole=wh at r5 HFB HFC;rw [hln] at q1;clear hln;by_cases hm2:m=1
  ·subst hm2
   cases wh with
   | false =>
    by_cases h0:0 < y
    ·obtain ⟨n,rfl⟩:∃ n:Nat,y=n:=⟨y.toNat,by omega⟩;have HE:=Hd (HFB.out ⟨⟨rfl,rfl⟩,h0⟩);rw [Int.toNat_natCast] at HE;clear HFB HFC;go_wp2_with fail
     refine (zdE (a:Int) n (by omega) w3).mono ?_;rintro e w6 ⟨v6,us6,rfl,hO6,hP6,hb6⟩;have HU6:=Hd (hP6.1.trans (zeW (a:Int) 0 n));obtain ⟨g6,cap6,rfl⟩:=Joins.ownsRow_form hO6 (by rw [HU6.out];omega);rw [HU6.out] at hO6 ⊢;have hO3':=z6w HO3.out hb6;have HP6':=Hd (HP3.out.kept hb6);have HB6:=Hd (zh HB3.out hb6);have HO6:=Hd hO6;have HP6:=Hd hP6;have hs6:=hb6.size;clear hb6 hP6 HO3 HP3 HB3;go_wp2_with (at_builtin;refine wpList_append_own _ rfl _ _ 30 rfl w5.heap.size 41 i0 _ 1 24 Tryz.underlying30 hi0 hz0 hz1 hz2 rfl (by decide) _ _ _ rfl hO3' ⟨g6,0,none⟩ n cap6 us6 rfl (by rw [HU6.out];omega) ?c1 ?c2 ?c3 ?c4 ?c5 ?_)
     case c1=>exact zhM HO6.out
     case c2=>exact HP6.out.cell1
     case c3=>unfold maxLen;omega
     case c4=>omega
     case c5=>omega
     intro v' w4 hown' hgrow' _;have HB4:=Hd (HB6.out.grown hgrow' (by omega) (fun b hb=>(hO3'.lt b hb).1))
     have HP4:Hid (zZ w4 w5.heap.size (us ++ us6) (z1b t hs L (k+1))):=Hd (by
      rw [z1b,HA.out,HA2.out,HE.out];exact (HP6'.out.grown hO3' hgrow').app ((HP6.out.base (by omega)).grown hO3' hgrow'))
     have HO4:Hid (w4.ownsRow w5.heap.size 41 1 v' (us ++ us6).length (us ++ us6)):=Hd (by rw [List.length_append,HU6.out];exact hown');obtain ⟨g',cap',rfl⟩:=Joins.ownsRow_form hown' (by omega);clear hown' hgrow' hO3' HB6 HP6 HP6' HO6 HU HE e0 e1 e2 e3 e4;go_wp2;go_roundw
     case rel=>exact ⟨k+1,_,_,by omega,by go_num,rfl,HO4,HP4,HB4⟩
     case measure=>simp [intOf];omega
    ·have HE:=Hd (HFC.out (fun h=>h0 h.2));clear HFB HFC;go_wp2_with (at_builtin;refine wpList_append_own _ rfl _ _ 30 rfl w5.heap.size 41 i0 _ 1 24 Tryz.underlying30 hi0 hz0 hz1 hz2 rfl (by decide) _ _ _ rfl (HO3.out.alloc _) ⟨w3.heap.size,0,none⟩ 1 1 [.slice (some ⟨bb,ob,none⟩) 1 cb] rfl rfl ?c1 ?c2 ?c3 ?c4 ?c5 ?_)
     case c1=>exact z0F (zj w3 (.cells #[.slice (some ⟨bb,ob,none⟩) 1 cb] 41))
     case c2=>simp [Value.oneCell']
     case c3=>unfold maxLen;omega
     case c4=>omega
     case c5=>simp;omega
     intro v' w4 hown' hgrow' _;have KA:=ze (Below.refl w3.heap.size w3) (.cells #[.slice (some ⟨bb,ob,none⟩) 1 cb] 41);have hOA:=HO3.out.alloc (.cells #[.slice (some ⟨bb,ob,none⟩) 1 cb] 41);have HB4:=Hd ((ze HB3.out (.cells #[.slice (some ⟨bb,ob,none⟩) 1 cb] 41)).grown hgrow' (by simp;omega) (fun b hb=>(hOA.lt b hb).1))
     have HP4:Hid (zZ w4 w5.heap.size (us ++ [.slice (some ⟨bb,ob,none⟩) 1 cb]) (z1b t hs L (k+1))):=Hd (by
      rw [z1b,HA.out,HA2.out,HE.out];exact ((HP3.out.kept KA).grown hOA hgrow').app (zZ.one ((HU.out.kept KA).grown hOA hgrow')))
     have HO4:Hid (w4.ownsRow w5.heap.size 41 1 v' (us ++ [(Value.slice (some ⟨bb,ob,none⟩) 1 cb)]).length (us ++ [(Value.slice (some ⟨bb,ob,none⟩) 1 cb)])):=Hd (by rw [List.length_append];exact hown');obtain ⟨g',cap',rfl⟩:=Joins.ownsRow_form hown' (by omega);clear hown' hgrow' HO3 HB3 HP3 hOA KA HU HE e0 e1 e2 e3 e4;go_wp2;go_roundw
     case rel=>exact ⟨k+1,_,_,by omega,by go_num,rfl,HO4,HP4,HB4⟩
     case measure=>simp [intOf];omega
   | true =>
    have HE:=Hd (HFC.out (fun h=>by cases h.1.2));clear HFB HFC;go_wp2_with (at_builtin;refine wpList_append_own _ rfl _ _ 30 rfl w5.heap.size 41 i0 _ 1 24 Tryz.underlying30 hi0 hz0 hz1 hz2 rfl (by decide) _ _ _ rfl (HO3.out.alloc _) ⟨w3.heap.size,0,none⟩ 1 1 [.slice (some ⟨bb,ob,none⟩) 1 cb] rfl rfl ?c1 ?c2 ?c3 ?c4 ?c5 ?_)
    case c1=>exact z0F (zj w3 (.cells #[.slice (some ⟨bb,ob,none⟩) 1 cb] 41))
    case c2=>simp [Value.oneCell']
    case c3=>unfold maxLen;omega
    case c4=>omega
    case c5=>simp;omega
    intro v' w4 hown' hgrow' _;have KA:=ze (Below.refl w3.heap.size w3) (.cells #[.slice (some ⟨bb,ob,none⟩) 1 cb] 41);have hOA:=HO3.out.alloc (.cells #[.slice (some ⟨bb,ob,none⟩) 1 cb] 41);have HB4:=Hd ((ze HB3.out (.cells #[.slice (some ⟨bb,ob,none⟩) 1 cb] 41)).grown hgrow' (by simp;omega) (fun b hb=>(hOA.lt b hb).1))
    have HP4:Hid (zZ w4 w5.heap.size (us ++ [.slice (some ⟨bb,ob,none⟩) 1 cb]) (z1b t hs L (k+1))):=Hd (by
     rw [z1b,HA.out,HA2.out,HE.out];exact ((HP3.out.kept KA).grown hOA hgrow').app (zZ.one ((HU.out.kept KA).grown hOA hgrow')))
    have HO4:Hid (w4.ownsRow w5.heap.size 41 1 v' (us ++ [(Value.slice (some ⟨bb,ob,none⟩) 1 cb)]).length (us ++ [(Value.slice (some ⟨bb,ob,none⟩) 1 cb)])):=Hd (by rw [List.length_append];exact hown');obtain ⟨g',cap',rfl⟩:=Joins.ownsRow_form hown' (by omega);clear hown' hgrow' HO3 HB3 HP3 hOA KA HU HE e0 e1 e2 e3 e4;go_wp2;go_roundw
    case rel=>exact ⟨k+1,_,_,by omega,by go_num,rfl,HO4,HP4,HB4⟩
    case measure=>simp [intOf];omega
  ·have HE:=Hd (HFC.out (fun h=>hm2 h.1.1));have hme:((m:Int) == 1)=false:=beq_eq_false_iff_ne.2 (by omega);clear HFB HFC;go_wp2_with (at_builtin;refine wpList_append_own _ rfl _ _ 30 rfl w5.heap.size 41 i0 _ 1 24 Tryz.underlying30 hi0 hz0 hz1 hz2 rfl (by decide) _ _ _ rfl (HO3.out.alloc _) ⟨w3.heap.size,0,none⟩ 1 1 [.slice (some ⟨bb,ob,none⟩) m cb] rfl rfl ?c1 ?c2 ?c3 ?c4 ?c5 ?_)
   case c1=>exact z0F (zj w3 (.cells #[.slice (some ⟨bb,ob,none⟩) m cb] 41))
   case c2=>simp [Value.oneCell']
   case c3=>unfold maxLen;omega
   case c4=>omega
   case c5=>simp;omega
   intro v' w4 hown' hgrow' _;have KA:=ze (Below.refl w3.heap.size w3) (.cells #[.slice (some ⟨bb,ob,none⟩) m cb] 41);have hOA:=HO3.out.alloc (.cells #[.slice (some ⟨bb,ob,none⟩) m cb] 41);have HB4:=Hd ((ze HB3.out (.cells #[.slice (some ⟨bb,ob,none⟩) m cb] 41)).grown hgrow' (by simp;omega) (fun b hb=>(hOA.lt b hb).1))
   have HP4:Hid (zZ w4 w5.heap.size (us ++ [.slice (some ⟨bb,ob,none⟩) m cb]) (z1b t hs L (k+1))):=Hd (by
    rw [z1b,HA.out,HA2.out,HE.out];exact ((HP3.out.kept KA).grown hOA hgrow').app (zZ.one ((HU.out.kept KA).grown hOA hgrow')))
   have HO4:Hid (w4.ownsRow w5.heap.size 41 1 v' (us ++ [(Value.slice (some ⟨bb,ob,none⟩) m cb)]).length (us ++ [(Value.slice (some ⟨bb,ob,none⟩) m cb)])):=Hd (by rw [List.length_append];exact hown');obtain ⟨g',cap',rfl⟩:=Joins.ownsRow_form hown' (by omega);clear hown' hgrow' HO3 HB3 HP3 hOA KA HU HE e0 e1 e2 e3 e4;go_wp2;go_roundw
   case rel=>exact ⟨k+1,_,_,by omega,by go_num,rfl,HO4,HP4,HB4⟩
   case measure=>simp [intOf];omega
end
end Go.Proofs.YtggmjiddadjilahGreat
