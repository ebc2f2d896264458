/-
  PROVED HERE: lists of texts that own their memory, for the other texts of this claim. Also: 17 more texts of the same proof.
-/
import Derived.Test.YtggmjiddadjilamGreatC21
import Derived.Test.YtggmjiddadjilamGreatC17
set_option maxRecDepth 1000000
set_option maxHeartbeats 40000000
namespace Go.Proofs.YtggmjiddadjilamGreat
section
open Go.RowKit
def eS:ByteArray:=ByteArray.empty
def z1y (w:World) (B:Nat) (v:Value) (l:List ByteArray):Prop :=
 (v=.slice none 0 0∧l=[])∨∃ g cap cur,v=.slice (some ⟨g,0,none⟩) l.length cap∧B≤g∧w.heap[g]?=some (.cells cur 9 (0,0))∧l.length≤cap∧cap≤maxLen∧cur.size=cap∧∀ i,i < l.length→cur[i]?=some (.string (l.getD i eS))
theorem z1y.of_owns {w:World} {B:Nat} {v:Value} {l:List ByteArray} (h:w.ownsRow B 9 1 v l.length (l.map Value.string)):z1y w B v l:=by
 rcases h.2 with ⟨hv,h0⟩ | ⟨g,cap,cur,hv,hb,hg,h1,h2,h3,h4⟩
 ·exact .inl ⟨hv,List.eq_nil_of_length_eq_zero h0⟩
 ·refine .inr ⟨g,cap,cur,hv,hb,hg,h1,h2,by omega,fun i hi=>?_⟩;have:cur.toList[i]?=(l.map Value.string)[i]?:=(by rw [← h4,List.getElem?_take_of_lt (by omega)]);rw [← Array.getElem?_toList,this];simp [List.getD,hi]
theorem z1y.below {w w':World} {B C:Nat} {v:Value} {l:List ByteArray} (h:z1y w B v l) (k:Below C w w') (hC:w.heap.size≤C):z1y w' B v l:=by
 rcases h with h | ⟨g,cap,cur,hv,hb,hg,r⟩
 ·exact .inl h
 ·exact .inr ⟨g,cap,cur,hv,hb,(k.block g (Nat.lt_of_lt_of_le (bL hg) hC)).trans hg,r⟩
theorem z1y.base {w:World} {B B':Nat} {v:Value} {l:List ByteArray} (h:z1y w B v l) (hB:B'≤B):z1y w B' v l:=by
 rcases h with h | ⟨g,cap,cur,hv,hb,r⟩
 ·exact .inl h
 ·exact .inr ⟨g,cap,cur,hv,Nat.le_trans hB hb,r⟩
theorem z4k {w w':World} {base size n:Nat} {e:TypeId} {v:Value} {xs:List Value} (h:w.ownsRow base e size v n xs) (hb:Below w.heap.size w w'):w'.ownsRow base e size v n xs :=
 ⟨h.1,h.2.elim Or.inl (fun ⟨g,cap,cur,hv,hg,hc,r⟩=>Or.inr ⟨g,cap,cur,hv,hg,(hb.block g (bL hc)).trans hc,r⟩)⟩
theorem z1y.form {w:World} {B:Nat} {v:Value} {l:List ByteArray} (h:z1y w B v l):∃ a cap,v=.slice a l.length cap:=by
 rcases h with ⟨rfl,rfl⟩ | ⟨g,cap,cur,hv,_⟩
 ·exact ⟨none,0,rfl⟩
 ·exact ⟨_,_,hv⟩
theorem z1y.get {w:World} {B:Nat} {v:Value} {l:List ByteArray} (h:z1y w B v l) {i:Nat} (hi:i < l.length) :
  ∃ g cap,v=.slice (some ⟨g,0,none⟩) l.length cap∧B≤g∧g < w.heap.size∧l.length≤cap∧cap≤maxLen∧w.cell? ⟨g,i,none⟩=some (.string (l.getD i eS))∧w.frozen? ⟨g,i,none⟩=false:=by
 rcases h with ⟨_,rfl⟩ | ⟨g,cap,cur,hv,hb,hg,h1,h2,h3,h4⟩
 ·cases hi
 ·exact ⟨g,cap,hv,hb,(bL hg),h1,h2,(zf hg).trans (h4 i hi),zM hg⟩
theorem z1y.set {w:World} {B g cap n:Nat} {l:List ByteArray} (h:z1y w B (.slice (some ⟨g,0,none⟩) n cap) l) {i:Nat} (hi:i < l.length) (x:ByteArray):z1y (w.setCell ⟨g,i,none⟩ (.string x)) B (.slice (some ⟨g,0,none⟩) n cap) (l.set i x):=by
 rcases h with ⟨hv,_⟩ | ⟨g',cap',cur,hv,hb,hg,h1,h2,h3,h4⟩
 ·simp at hv
 ·simp only [Value.slice.injEq,Option.some.injEq,Addr.mk.injEq,and_true] at hv;obtain ⟨rfl,rfl,rfl⟩:=hv;refine .inr ⟨g,cap,cur.setIfInBounds i (.string x),by simp,hb,z0l hg _,by simpa using h1,h2,by simpa using h3,fun j hj=>?_⟩;rw [List.length_set] at hj;by_cases e:i=j
  ·subst e;simp [List.getD,hj,show i < cur.size by omega]
  ·rw [Array.getElem?_setIfInBounds_ne e,h4 j hj];simp [List.getD,e]
def dS:ByteArray:=ByteArray.empty
def z2M (w:World) (z:Nat) (v:Value) (ss:List ByteArray):Prop:=At w z v ss.length 1 (fun i b o=>w.cell? ⟨b,o,none⟩=some (.string (ss.getD i dS))∧(ss.getD i dS).size≤maxLen)
theorem z2M.since {w w':World} {z:Nat} {v:Value} {ss:List ByteArray} (h:z2M w z v ss) (k:z0A z w w'):z2M w' z v ss :=
 At.mono h k.size (Nat.le_refl _) (fun _ _ _ _ hb hz he=>⟨(k.cell hz hb _).trans he.1,he.2⟩)
theorem z2M.kept {w w':World} {z:Nat} {v:Value} {ss:List ByteArray} (h:z2M w z v ss) (k:Below w.heap.size w w'):z2M w' z v ss:=h.since (.of_below k)
def zkn (ss:List ByteArray) (k:Nat):Nat:=((ss.take k).map (fun x=>x.size)).sum
def zkL (ss:List ByteArray):Nat:=ss.length+zkn ss ss.length
def zjz (ss:List ByteArray):Nat→ByteArray
 | 0=>⟨#[]⟩
 | k+1=>if k=0 then ss.getD 0 dS else zjz ss k ++ ⟨#[32]⟩ ++ ss.getD k dS
theorem zeT (v:Value) (l:List Int) (w:World) (h:zu w v l) :
  Calls Tryz.prog 55 #[v] w fun e w'=>e=.returned (.int .i64 (wrap64 l.sum))∧w'=w:=by
 obtain ⟨a,cap,rfl,hlen⟩:=h.form;have H:=Hd h;clear h;go_enter Tryz.func55,Tryz.ntmps55;go_wp2_with fail
 go_loop [3,8] (fun s i=>∃ k:Nat,k≤l.length∧i=.int .i64 k∧s=.int .i64 (wrap64 (zF l k))) (fun _ i=>l.length - (intOf i).toNat)
 case atStart=>exact ⟨0,Nat.zero_le _,rfl,by simp [zF,z6B]⟩
 case round =>
  obtain ⟨k,hk,rfl,rfl⟩:=hrel;by_cases hlt:k < l.length
  ·obtain ⟨b,off,cap',e',hc1,hc2,hbl,hx⟩:=H.out.get hlt;simp only [Value.slice.injEq,true_and] at e';obtain ⟨rfl,rfl⟩:=e';have HS:Hid (wrap64 (wrap64 (zF l k)+l.getD k 0)=wrap64 (zF l (k+1))):=(by rw [Hid,z1A hlt,z9n]);generalize l.getD k 0=x at hx HS;generalize wrap64 (zF l k)=s at HS ⊢;unfold maxLen at hc2;go_wp2
   go_round
   case rel=>exact ⟨k+1,by omega,by go_num,by rw [← HS.out]⟩
   case measure=>simp [intOf];omega
  ·obtain rfl:k=l.length:=by omega
   have HE:=Hd (z1v l);go_wp2;go_ret;exact ⟨by rw [← HE.out];rfl,rfl⟩
theorem z5D (v:Value) (l:List Int) (gap:Int) (w:World) (h:zu w v l) :
  Calls Tryz.prog 22 #[v,.int .i64 gap] w fun e w'=>e=.returned (.int .i64 (z1H l gap))∧w'=w:=by
 obtain ⟨a,cap,rfl,hlen⟩:=h.form;have H:=Hd h;clear h;by_cases h0:l.length=0
 ·have HV:=Hd (zc0 h0 gap);rw [h0] at H ⊢;clear h0;go_enter Tryz.func22,Tryz.ntmps22;go_wp2;go_ret;exact ⟨by rw [HV.out];rfl,rfl⟩
 ·have HV:Hid (z1H l gap=wrap64 (wrap64 l.sum+wrap64 (gap * ((l.length:Int) - 1)))):=(by rw [Hid,z3f h0,z9n,zfl]);have h0':((l.length:Int) == 0)=false:=beq_eq_false_iff_ne.2 (by omega);have KS:=Hd (zeT _ l w H.out);go_enter Tryz.func22,Tryz.ntmps22;go_wp2_with fail
  refine KS.out.mono ?_;rintro e w1 ⟨rfl,rfl⟩;go_wp2;go_ret;exact ⟨by rw [HV.out];rfl,rfl⟩
def z1S (x:GC) (k:Nat):Bool:=z0H (k:Int) x.col x.cols
def z2k (l:List Int) (gap:Int) (x:GC):Int:=z1H (z2m l (z1S x) l.length) gap
theorem z6T:(Tryz.prog.info? 3).map (fun i=>(i.zero,i.size,i.bytes))=some (some (Value.int .i64 0),1,8):=by kernel_rfl
theorem z3i {w w3 w4:World} {B n:Nat} {xs:List Value} {x:Int} {o:Value} (hB:w.heap.size≤B) (hO:w3.ownsRow B 3 1 o n xs) (K:Below w.heap.size w w3)
  (hg:(w3.alloc (.cells #[.int .i64 x] 3)).grownBy w4 o.ownBlock):Below w.heap.size w w4∧∀ g,g < B→g < w3.heap.size→w4.heap[g]?=w3.heap[g]?:=by
 have hA:=ze K (.cells #[.int .i64 x] 3);refine ⟨⟨hg.os.trans hA.os,hg.tape.trans hA.tape,hg.output.trans hA.output,Nat.le_trans hA.size hg.size,fun k hk=>(hg.block k (Nat.lt_of_lt_of_le hk hA.size) (fun hb=>?_)).trans (hA.block k hk)⟩,fun k hk hl=>(hg.block k (by simp;omega) (fun hb=>?_)).trans (Below.heap_alloc _ _ _ hl)⟩
 ·have:=(hO.lt k hb.symm).1;omega
 ·have:=(hO.lt k hb.symm).1;omega
theorem z9b {l:List Int} {p:Nat→Bool} {k:Nat} (h:p k=true):z2m l p (k+1)=z2m l p k ++ [l.getD k 0]:=by rw [z2m,if_pos h]
theorem zaE {l:List Int} {p:Nat→Bool} {k:Nat} (h:p k=false):z2m l p (k+1)=z2m l p k:=by rw [z2m,if_neg (by rw [h];simp)]
theorem z8S (v:Value) (l:List Int) (hl:l.length≤1048576) (gap:Int) (x:GC) (hx:GOk x) (w:World) (h:zu w v l) :
  Calls Tryz.prog 117 #[v,.int .i64 gap,.agg #[.int .i64 x.row,.int .i64 x.col,.int .i64 x.rows,.int .i64 x.cols,.int .i64 x.ins]] w fun e w'=>e=.returned (.int .i64 (z2k l gap x))∧Below w.heap.size w w':=by
 obtain ⟨i0,hi,hz0,hz1,hz2⟩:=info_parts z6T;obtain ⟨a,cap,rfl,hlen⟩:=h.form;obtain ⟨_,b1,_,b3,_⟩:=hx;have K0:=ze (Below.refl w.heap.size w) (.cells #[.int .i64 x.row,.int .i64 x.col,.int .i64 x.rows,.int .i64 x.cols,.int .i64 x.ins] 112);have X0:=zj w (.cells #[.int .i64 x.row,.int .i64 x.col,.int .i64 x.rows,.int .i64 x.cols,.int .i64 x.ins] 112);have H:=Hd h;have HR:=Hd (fun (k:Nat) (hk:k≤1048576)=>z8G (k:Int) x.col x.cols (by unfold I64;omega) b1 b3);clear h b1 b3;go_enter Tryz.func117,Tryz.ntmps117;go_wp2_with fail
 go_loopw [7,12] (fun o i W=>∃ k:Nat,i=.int .i64 k∧k≤l.length∧Hid (W.ownsRow (w.heap.size+1) 3 1 o (z2m l (z1S x) k).length ((z2m l (z1S x) k).map (Value.int .i64)))∧Hid (Below w.heap.size w W)∧Hid (W.heap[w.heap.size]?=some (.cells #[.int .i64 x.row,.int .i64 x.col,.int .i64 x.rows,.int .i64 x.cols,.int .i64 x.ins] 112))) (fun _ i _=>l.length - (intOf i).toNat)
 case atStart=>exact ⟨0,rfl,Nat.zero_le _,⟨by simp [z2m],.inl ⟨rfl,rfl⟩⟩,K0,X0⟩
 case round =>
  obtain ⟨k,rfl,hk,HO,HB,HX⟩:=hrel;have c1:wr.cell? ⟨w.heap.size,1,none⟩=some (.int .i64 x.col):=zf HX.out;have c3:wr.cell? ⟨w.heap.size,3,none⟩=some (.int .i64 x.cols):=zf HX.out;by_cases hlt:k < l.length
  ·obtain ⟨b,off,cap',e',hc1,hc2,hbl,hy⟩:=(H.out.kept HB.out).get hlt;simp only [Value.slice.injEq,true_and] at e';obtain ⟨rfl,rfl⟩:=e';unfold maxLen at hc2;have KR:=Hd (HR.out k (by omega) wr);have hol:=zbZ l (z1S x) k
   cases hin:z1S x k with
   | false =>
    have HL:=Hd (zaE (l:=l) hin);have hin':z0H (k:Int) x.col x.cols=false:=hin;rw [hin'] at KR;clear hin hin';generalize l.getD k 0=y at hy;go_wp2_with fail
    refine KR.out.mono ?_;rintro e w1 ⟨rfl,rfl⟩;go_wp2;go_roundw
    case rel=>exact ⟨k+1,by go_num,by omega,by rw [HL.out];exact HO,HB,HX⟩
    case measure=>simp [intOf];omega
   | true =>
    have HL:=Hd (z9b (l:=l) hin);have hin':z0H (k:Int) x.col x.cols=true:=hin;rw [hin'] at KR;clear hin hin';generalize l.getD k 0=y at hy HL;generalize z2m l (z1S x) k=xs at HO HL hol;go_wp2_with fail
    refine KR.out.mono ?_;rintro e w1 ⟨rfl,rfl⟩;have hO4:=HO.out;have hsz:w.heap.size < w1.heap.size:=(bL HX.out);go_wp2_with (at_builtin;refine wpList_append_own _ rfl _ _ 36 rfl (w.heap.size+1) 3 i0 (.int .i64 0) 1 8 Tryz.underlying36 hi hz0 hz1 hz2 rfl (by decide) _ _ _ rfl (hO4.alloc _) ⟨w1.heap.size,0,none⟩ 1 1 [.int .i64 y] rfl rfl ?c1 ?c2 ?c3 ?c4 ?c5 ?_)
    case c1 =>
     intro i u hi
     match i,hi with
     | 0,hi=>simp at hi;subst hi;simp [Addr.add]
    case c2=>intro u hu;simp at hu;subst hu;rfl
    case c3=>unfold maxLen;omega
    case c4=>omega
    case c5=>simp;omega
    intro v' w5 hown' hgrow' _;obtain ⟨hB5,hX5⟩:=z3i (Nat.le_succ _) hO4 HB.out hgrow';have HB5:=Hd hB5;have HX5:=Hd ((hX5 w.heap.size (Nat.lt_succ_self _) (bL HX.out)).trans HX.out);have HO5:Hid (w5.ownsRow (w.heap.size+1) 3 1 v' (xs ++ [y]).length ((xs ++ [y]).map (Value.int .i64))):=(by rw [List.length_append,List.map_append];exact hown');obtain ⟨g',cap'',rfl⟩:=Joins.ownsRow_form hown' (by omega);clear hown' hgrow' hO4 hB5 hX5 HO HB HX;go_wp2;go_roundw
    case rel=>exact ⟨k+1,by go_num,by omega,by rw [HL.out];exact HO5,HB5,HX5⟩
    case measure=>simp [intOf];omega
  ·obtain rfl:k=l.length:=by omega
   have hI:=(zq.of_owns HO.out).at;obtain ⟨aa,cc,rfl,_⟩:=hI.form;have KA:=Hd (z5D _ _ gap wr hI);have HV:Hid (z2k l gap x=z1H (z2m l (z1S x) l.length) gap):=rfl;clear hI;go_wp2_with fail
   refine KA.out.mono ?_;rintro e w1 ⟨rfl,rfl⟩;go_wp2;go_ret;exact ⟨rfl,HB.out⟩
def sd (ps:List (Int × Int)) (q:Int):Int × Int:=if inB q 0 (ps.length - 1)=true then ps.getD q.toNat (0,0) else (0,0)
theorem z9S {ps:List (Int × Int)} {q:Int} (h:inB q 0 (ps.length - 1)=false):sd ps q=(0,0):=by unfold sd;rw [if_neg (by rw [h];simp)]
theorem z88 {ps:List (Int × Int)} {k:Nat} (h:k < ps.length):sd ps k=ps.getD k (0,0):=by unfold sd;rw [if_pos (z4n (by omega) (by omega)),Int.toNat_natCast]
def sdT (t:T) (q:Int):Int × Int:=if zC t=true then sd t.cols q else (0,0)
def z2r (s:ByteArray):Nat:=if z0k s=true then s.size else 0
theorem z8a (s:ByteArray):z2r s≤30:=by
 unfold z2r
 split
 ·rename_i h
  exact ((z2t s).1 h).1
 ·omega
def zk (P:Nat→Bool) (n:Nat):List Nat:=(List.range n).filter P
def z09 (l:List Int) (P:Nat→Bool) (n:Nat):List Int:=(zk P n).map (fun i=>l.getD i 0)
theorem z2a (l:List Int) (P:Nat→Bool) (n:Nat):(z09 l P n).length=(zk P n).length:=by simp [z09]
theorem z8c (P:Nat→Bool) (n:Nat):zk P (n+1)=zk P n ++ if P n=true then [n] else []:=by
 unfold zk;rw [List.range_succ,List.filter_append]
 congr 1
 by_cases h:P n=true
 ·simp [h]
 ·simp [h]
theorem z3q {P:Nat→Bool} {n p:Nat} (h:p < (zk P n).length):(zk P n)[p] < n∧P (zk P n)[p]=true:=by
 have:=List.getElem_mem h;unfold zk at this;rw [List.mem_filter,List.mem_range] at this;exact this
theorem z3j {P:Nat→Bool} {n p q:Nat} (hp:p < (zk P n).length) (hq:q < (zk P n).length) (h:p < q):(zk P n)[p] < (zk P n)[q] :=
 List.pairwise_iff_getElem.1 (List.Pairwise.filter P List.pairwise_lt_range) p q hp hq h
theorem z3R {l:List Int} {P:Nat→Bool} {n p:Nat} (h:p < (zk P n).length):(z09 l P n).getD p 0=l.getD (zk P n)[p] 0:=by
 simp [z09,List.getD,h]
theorem z5h {l:List Int} {P:Nat→Bool}:∀ n,n≤l.length→(∀ i,i < n→P i=false→l.getD i 0=0)→(z09 l P n).sum=zF l n
 | 0,_,_=>by simp [z09,zk,zF]
 | n+1,hn,hz=>by
  have ih:=z5h n (by omega) (fun i hi=>hz i (by omega))
  have e:z09 l P (n+1)=z09 l P n ++ if P n=true then [l.getD n 0] else []:=by
   unfold z09;rw [z8c,List.map_append]
   congr 1
   split <;> rfl
  rw [e,List.sum_append,ih,z1A (by omega)]
  cases hP:P n with
  | true=>simp
  | false=>rw [hz n (by omega) hP];simp
theorem zcV:∀ {a b:List Int},a.length=b.length→(∀ i,i < a.length→a.getD i 0≤b.getD i 0)→∀ p,p < a.length→a.getD p 0 < b.getD p 0→a.sum < b.sum
 | [],_,_,_,p,hp,_=>absurd hp (Nat.not_lt_zero _)
 | _ :: _,[],h,_,_,_,_=>absurd h (by simp)
 | x :: a,y :: b,h,hle,p,hp,hlt=>by
  have hab:a.length=b.length:=(by simpa using h);have h0:x≤y:=(by have:=hle 0 (by simp);simpa using this);have hr:∀ i,i < a.length→a.getD i 0≤b.getD i 0:=fun i hi=>by have:=hle (i+1) (by simpa using hi);simpa using this
  rw [List.sum_cons,List.sum_cons]
  cases p with
  | zero =>
   have h1:x < y:=(by simpa using hlt)
   have h2:a.sum≤b.sum:=by
    clear hlt hp hle h h0 h1
    induction a generalizing b with
    | nil=>cases b with
     | nil=>exact Int.le_refl _
     | cons _ _=>simp at hab
    | cons u a ih=>cases b with
     | nil=>simp at hab
     | cons v b =>
      have h3:u≤v:=(by have:=hr 0 (by simp);simpa using this);have:=ih (b:=b) (by simpa using hab) (fun i hi=>by have:=hr (i+1) (by simpa using hi);simpa using this);rw [List.sum_cons,List.sum_cons];omega
   omega
  | succ p =>
   have:=zcV hab hr p (by simpa using hp) (by simpa using hlt);omega
theorem zbt {a b:List Int} (hl:a.length=b.length) (hs:a.sum=b.sum) {p:Nat} (hp:p < a.length) (h:a.getD p 0 < b.getD p 0):∃ q,q < a.length∧b.getD q 0 < a.getD q 0:=by
 apply Classical.byContradiction;intro hn;have:=zcV hl (fun i hi=>Int.not_lt.1 (fun hlt=>hn ⟨i,hi,hlt⟩)) p hp h;omega
theorem zcW {l:List Int} (h:l.sum ≠ 0):wts l=l:=by unfold wts;rw [if_neg h]
theorem zbu {t:Int} {l:List Int} {P:Nat→Bool} (hok:zB t l=true) (hz:∀ i,i < l.length→P i=false→l.getD i 0=0) (hs:l.sum ≠ 0) :
  zB t (z09 l P l.length)=true∧zt t (z09 l P l.length)=z09 (zt t l) P l.length:=by
 obtain ⟨ht,hlen,hw⟩:=z03 hok;have hsum:(z09 l P l.length).sum=l.sum:=(by rw [z5h l.length (Nat.le_refl _) hz,z1v]);have hs':(z09 l P l.length).sum ≠ 0:=(by rw [hsum];exact hs);have hnl:(zk P l.length).length≤l.length:=(by unfold zk;have:=List.length_filter_le P (List.range l.length);simpa using this)
 have hok':zB t (z09 l P l.length)=true:=by
  simp only [zB,Bool.and_eq_true,decide_eq_true_eq,List.all_eq_true];refine ⟨⟨by simp only [wtB,decide_eq_true_eq];exact ht,by rw [z2a];omega⟩,fun x hx=>?_⟩;unfold z09 at hx;obtain ⟨i,hi,rfl⟩:=List.mem_map.1 hx;unfold zk at hi;have hil:=List.mem_range.1 (List.mem_filter.1 hi).1;rw [show l.getD i 0=l[i] by simp [List.getD,hil]];exact List.all_eq_true.1 hw _ (List.getElem_mem hil)
 refine ⟨hok',?_⟩
 have hpos:0 < l.length:=by
  cases l with
  | nil=>simp at hs
  | cons _ _=>simp
 have hpos':0 < (z09 l P l.length).length:=by
  cases h:z09 l P l.length with
  | nil=>rw [h] at hs';simp at hs'
  | cons _ _=>simp
 have hL:=z1r hok;have hL':=z1r hok'
 have hsh:(z09 (zt t l) P l.length).sum=(zt t l).sum:=by
  have:=z5h (l:=zt t l) (P:=P) l.length (by omega) (fun i hi hP=>z5O hok hs hi (hz i hi hP));rw [this,← hL,z1v]
 have hss:(zt t (z09 l P l.length)).sum=(z09 (zt t l) P l.length).sum:=(by rw [hsh,z3g hok hpos,z3g hok' hpos']);have hll:(zt t (z09 l P l.length)).length=(z09 (zt t l) P l.length).length:=(by rw [hL',z2a,z2a]);have hw1:=zcW hs;have hw2:=zcW hs'
 -- the two orders are one
 have hord:∀ p q,(hp:p < (zk P l.length).length)→(hq:q < (zk P l.length).length)→tB (cl t (z09 l P l.length) p) (cl t (z09 l P l.length) q)=tB (cl t l (zk P l.length)[p]) (cl t l (zk P l.length)[q]):=by
  intro p q hp hq;rw [Bool.eq_iff_iff,z6a,z6a];simp only [cl,hsum,z3R hp,z3R hq]
  have hm:((p:Int) < (q:Int)) ↔ (((zk P l.length)[p]:Nat):Int) < (((zk P l.length)[q]:Nat):Int):=by
   constructor
   ·intro h;have:=z3j hp hq (by omega);omega
   ·intro h
    rcases Nat.lt_trichotomy p q with h1 | h1 | h1
    ·omega
    ·subst h1;omega
    ·have:=z3j hq hp h1;omega
  have he:((p:Int)=(q:Int)) ↔ (((zk P l.length)[p]:Nat):Int)=(((zk P l.length)[q]:Nat):Int):=by
   constructor
   ·intro h;have:p=q:=by omega
    subst this;rfl
   ·intro h
    rcases Nat.lt_trichotomy p q with h1 | h1 | h1
    ·have:=z3j hp hq h1;omega
    ·omega
    ·have:=z3j hq hp h1;omega
  rw [hm,he]
 have hA:∀ p,(hp:p < (zk P l.length).length)→(zt t (z09 l P l.length)).getD p 0=t * l.getD (zk P l.length)[p] 0 / l.sum+if cl t (z09 l P l.length) p ∈ (zW t (z09 l P l.length)).take (z2v t (z09 l P l.length)) then 1 else 0:=by
  intro p hp;rw [z6q hok' (by rw [z2a];exact hp),hw2,hsum,z3R hp]
 have hB:∀ p,(hp:p < (zk P l.length).length)→(z09 (zt t l) P l.length).getD p 0=t * l.getD (zk P l.length)[p] 0 / l.sum+if cl t l (zk P l.length)[p] ∈ (zW t l).take (z2v t l) then 1 else 0:=by
  intro p hp;rw [z3R hp,z6q hok (z3q hp).1,hw1]
 -- one that got z0e here and one that got z0e there cannot both be
 have hno:∀ p q,(hp:p < (zk P l.length).length)→(hq:q < (zk P l.length).length)→(zt t (z09 l P l.length)).getD p 0 < (z09 (zt t l) P l.length).getD p 0→(z09 (zt t l) P l.length).getD q 0 < (zt t (z09 l P l.length)).getD q 0→False:=by
  intro p q hp hq h1 h2;rw [hA p hp,hB p hp] at h1;rw [hA q hq,hB q hq] at h2;have hpl:p < (z09 l P l.length).length:=(by rw [z2a];exact hp);have hql:q < (z09 l P l.length).length:=(by rw [z2a];exact hq);by_cases a1:cl t (z09 l P l.length) p ∈ (zW t (z09 l P l.length)).take (z2v t (z09 l P l.length))
  ·rw [if_pos a1] at h1;split at h1 <;> omega
  by_cases a2:cl t l (zk P l.length)[q] ∈ (zW t l).take (z2v t l)
  ·rw [if_pos a2] at h2;split at h2 <;> omega
  by_cases b1:cl t l (zk P l.length)[p] ∈ (zW t l).take (z2v t l)
  case neg=>rw [if_neg a1,if_neg b1] at h1;omega
  by_cases b2:cl t (z09 l P l.length) q ∈ (zW t (z09 l P l.length)).take (z2v t (z09 l P l.length))
  case neg=>rw [if_neg a2,if_neg b2] at h2;omega
  have hpq:p ≠ q:=fun e=>by subst e;exact a1 b2
  have htot:tB (cl t l (zk P l.length)[p]) (cl t l (zk P l.length)[q])=true∨tB (cl t l (zk P l.length)[q]) (cl t l (zk P l.length)[p])=true:=by
   rw [z6a,z6a];simp only [cl]
   have:(zk P l.length)[p] ≠ (zk P l.length)[q]:=by
    rcases Nat.lt_or_gt_of_ne hpq with h | h
    ·have:=z3j hp hq h;omega
    ·have:=z3j hq hp h;omega
   omega
  rcases htot with h | h
  ·rw [← hord p q hp hq] at h;exact a1 (zbj hpl h b2)
  ·exact a2 (zbj (z3q hq).1 h b1)
 apply List.ext_getElem hll;intro p h1 h2;have hp:p < (zk P l.length).length:=(by rw [hL',z2a] at h1;exact h1);have e1:(zt t (z09 l P l.length))[p]=(zt t (z09 l P l.length)).getD p 0:=(by simp [List.getD,h1]);have e2:(z09 (zt t l) P l.length)[p]=(z09 (zt t l) P l.length).getD p 0:=(by simp [List.getD,h2]);rw [e1,e2];apply Classical.byContradiction;intro hne
 rcases Int.lt_or_gt_of_ne hne with h | h
 ·obtain ⟨q,hq,hlt⟩:=zbt hll hss h1 h;exact hno p q hp (by rw [hL',z2a] at hq;exact hq) h hlt
 ·obtain ⟨q,hq,hlt⟩:=zbt hll.symm hss.symm h2 h;have hq':q < (zk P l.length).length:=(by rw [z2a] at hq;exact hq);exact hno q p hq' hp hlt h
def z0x (t:Int) (l:List Int):List Int:=if zB t l=true then (if l.sum≤t then l else zt t l) else []
def z2d (t:Int) (l:List Int):Int:=if zB t l=true then (if l.sum≤t then t - l.sum else 0) else 0
theorem z3S {t:Int} {l:List Int} (h:zB t l=true) (hs:l.sum≤t):z0x t l=l∧z2d t l=t - l.sum:=by simp [z0x,z2d,h,hs]
theorem z31 {t:Int} {l:List Int} (h:zB t l=true) (hs:¬ l.sum≤t):z0x t l=zt t l∧z2d t l=0:=by simp [z0x,z2d,h,hs]
theorem z8d {x:Value} {a b:Int} (h:a=b):Ending.returned (.tuple #[x,.int .i64 a])=.returned (.tuple #[x,.int .i64 b]):=by rw [h]
theorem zgv {t:Int} {l:List Int} {P:Nat→Bool} (hok:zB t l=true):zB t (z09 l P l.length)=true:=by
 obtain ⟨ht,hlen,hw⟩:=z03 hok;have hnl:(zk P l.length).length≤l.length:=(by unfold zk;have:=List.length_filter_le P (List.range l.length);simpa using this);simp only [zB,Bool.and_eq_true,decide_eq_true_eq,List.all_eq_true];refine ⟨⟨by simp only [wtB,decide_eq_true_eq];exact ht,by rw [z2a];omega⟩,fun x hx=>?_⟩;unfold z09 at hx;obtain ⟨i,hi,rfl⟩:=List.mem_map.1 hx;unfold zk at hi;have hil:=List.mem_range.1 (List.mem_filter.1 hi).1;rw [show l.getD i 0=l[i] by simp [List.getD,hil]];exact List.all_eq_true.1 hw _ (List.getElem_mem hil)
theorem zhT {t:Int} {l:List Int} {P:Nat→Bool} (hok:zB t l=true) (hz:∀ i,i < l.length→P i=false→l.getD i 0=0) :
  z0x t (z09 l P l.length)=z09 (z0x t l) P l.length∧z2d t (z09 l P l.length)=z2d t l:=by
 have hsum:(z09 l P l.length).sum=l.sum:=(by rw [z5h l.length (Nat.le_refl _) hz,z1v]);have hok':=zgv (P:=P) hok;by_cases hs:l.sum≤t
 ·rw [(z3S hok hs).1,(z3S hok hs).2,(z3S hok' (by rw [hsum];exact hs)).1,(z3S hok' (by rw [hsum];exact hs)).2,hsum];exact ⟨rfl,rfl⟩
 ·have ht:=(z03 hok).1.1;rw [(z31 hok hs).1,(z31 hok hs).2,(z31 hok' (by rw [hsum];exact hs)).1,(z31 hok' (by rw [hsum];exact hs)).2];exact ⟨(zbu hok hz (by omega)).2,rfl⟩
def z0y (P:Nat→Bool) (n:Nat):List Int:=(List.range n).map (fun i=>if P i=true then 1 else 0)
theorem z0R (P:Nat→Bool) (n:Nat):(z0y P n).length=n:=by simp [z0y]
theorem z5i {P:Nat→Bool} {n i:Nat} (h:i < n):(z0y P n).getD i 0=if P i=true then 1 else 0:=by simp [z0y,List.getD,h]
theorem z3e {t:Int} (P:Nat→Bool) {n:Nat} (ht:0≤t∧t≤100000) (hn:n≤100):zB t (z0y P n)=true:=by
 simp only [zB,Bool.and_eq_true,decide_eq_true_eq,List.all_eq_true];refine ⟨⟨by simp only [wtB,decide_eq_true_eq];exact ht,by rw [z0R];exact hn⟩,fun x hx=>?_⟩;unfold z0y at hx;obtain ⟨i,_,rfl⟩:=List.mem_map.1 hx;simp only [wtB,decide_eq_true_eq]
 split <;> omega
theorem zaF (P:Nat→Bool) (n:Nat):z09 (z0y P n) P n=List.replicate (zk P n).length 1:=by
 apply List.ext_getElem (by simp [z09]);intro p h1 h2;have hp:p < (zk P n).length:=(by simpa [z09] using h1);have hg:=z3q hp;have e:(z09 (z0y P n) P n)[p]=(z09 (z0y P n) P n).getD p 0:=(by simp [List.getD,h1]);rw [e,z3R hp,z5i hg.1,if_pos hg.2];simp
theorem zhU (m:Nat):wts (List.replicate m (0:Int))=List.replicate m 1:=by
 unfold wts
 rw [if_pos (by induction m with
  | zero=>rfl
  | succ m ih=>rw [List.replicate_succ,List.sum_cons,ih];rfl)]
 simp
theorem zj1 (m:Nat):wts (List.replicate m (1:Int))=List.replicate m 1:=by
 unfold wts
 split
 ·simp
 ·rfl
theorem z9T {t:Int} (P:Nat→Bool) {n:Nat} (ht:0≤t∧t≤100000) (hn:n≤100) (h0:0 < (zk P n).length) :
  zt t (List.replicate (zk P n).length 0)=z09 (zt t (z0y P n)) P n:=by
 have hok:=z3e P (n:=n) ht hn
 have hz:∀ i,i < (z0y P n).length→P i=false→(z0y P n).getD i 0=0:=fun i hi hP=>by
  rw [z0R] at hi;rw [z5i hi,if_neg (by rw [hP];simp)]
 have hnl:(zk P n).length≤n:=(by unfold zk;have:=List.length_filter_le P (List.range n);simpa using this)
 have hsum:(z0y P n).sum=((zk P n).length:Int):=by
  have:=z5h (l:=z0y P n) (P:=P) (z0y P n).length (Nat.le_refl _) hz;rw [z1v,z0R,zaF,z69] at this;exact this.symm
 have h1:=(zbu hok hz (by rw [hsum];omega)).2;rw [z0R,zaF] at h1;rw [← h1]
 have hok0:zB t (List.replicate (zk P n).length 0)=true:=by
  simp only [zB,Bool.and_eq_true,decide_eq_true_eq,List.all_eq_true];exact ⟨⟨by simp only [wtB,decide_eq_true_eq];exact ht,by simp;omega⟩,fun x hx=>by rw [List.eq_of_mem_replicate hx];rfl⟩
 have hok1:zB t (List.replicate (zk P n).length 1)=true:=by
  simp only [zB,Bool.and_eq_true,decide_eq_true_eq,List.all_eq_true];exact ⟨⟨by simp only [wtB,decide_eq_true_eq];exact ht,by simp;omega⟩,fun x hx=>by rw [List.eq_of_mem_replicate hx];rfl⟩
 rw [z2B hok0 (by rw [← List.length_pos_iff];simpa using h0),z2B hok1 (by rw [← List.length_pos_iff];simpa using h0),zhU,zj1]
def z1g (a b:List Int):List Int:=List.zipWith (·+·) a b
def z0J (l:List Int) (js:List Nat) (g:List Int):Nat→List Int
 | 0=>l
 | k+1=>(z0J l js g k).set (js.getD k 0) ((z0J l js g k).getD (js.getD k 0) 0+g.getD k 0)
theorem z4V (l:List Int) (js:List Nat) (g:List Int):∀ k,(z0J l js g k).length=l.length
 | 0=>rfl
 | k+1=>by rw [z0J,List.length_set];exact z4V l js g k
theorem z7m (l:List Int) (js:List Nat) (g:List Int) {i:Nat}:∀ k,(∀ p,p < k→js.getD p 0 ≠ i)→(z0J l js g k).getD i 0=l.getD i 0
 | 0,_=>rfl
 | k+1,h=>by
  rw [z0J];simp only [List.getD,List.getElem?_set_ne (show js[k]?.getD 0 ≠ i from h k (by omega))];exact z7m l js g k (fun p hp=>h p (by omega))
theorem zbv {l:List Int} {P:Nat→Bool} {n:Nat} (hn:n≤l.length) (g:List Int) {p:Nat}:∀ k,k≤(zk P n).length→p < k→(z0J l (zk P n) g k).getD ((zk P n).getD p 0) 0=l.getD ((zk P n).getD p 0) 0+g.getD p 0
 | k+1,hk,hp=>by
  have hkl:k < (zk P n).length:=(by omega);have ek:(zk P n).getD k 0=(zk P n)[k]:=(by simp [List.getD,hkl]);have hpl:p < (zk P n).length:=(by omega);have ep:(zk P n).getD p 0=(zk P n)[p]:=(by simp [List.getD,hpl]);rw [z0J];by_cases e:p=k
  ·subst e;have hlt:(zk P n).getD p 0 < (z0J l (zk P n) g p).length:=(by rw [z4V,ep];have:=(z3q hpl).1;omega)
   have ho:=z7m l (zk P n) g (i:=(zk P n).getD p 0) p (fun q hq=>by
    have hql:q < (zk P n).length:=(by omega);have:=z3j hql hpl hq;rw [ep,show (zk P n).getD q 0=(zk P n)[q] by simp [List.getD,hql]]
    omega)
   rw [ho];generalize (zk P n).getD p 0=j at hlt;simp only [List.getD,List.getElem?_set_self hlt,Option.getD_some]
  ·have hne:(zk P n).getD k 0 ≠ (zk P n).getD p 0:=by
    have:=z3j hpl hkl (by omega);rw [ek,ep];omega
   have ih:=zbv (P:=P) hn g (p:=p) k (by omega) (by omega);rw [← ih];generalize (zk P n).getD k 0=j at hne;generalize (zk P n).getD p 0=i at hne;simp only [List.getD,List.getElem?_set_ne hne]
theorem zcX {l z0e:List Int} {P:Nat→Bool} (hl:z0e.length=l.length) (hz:∀ i,i < l.length→P i=false→z0e.getD i 0=0):z0J l (zk P l.length) (z09 z0e P l.length) (zk P l.length).length=z1g l z0e:=by
 have hlen:(z0J l (zk P l.length) (z09 z0e P l.length) (zk P l.length).length).length=(z1g l z0e).length:=(by rw [z4V,z1g,List.length_zipWith,hl];omega);apply List.ext_getElem hlen;intro i h1 h2;have hi:i < l.length:=(by rw [z4V] at h1;exact h1);have hm:i < z0e.length:=(by omega);have e1:(z0J l (zk P l.length) (z09 z0e P l.length) (zk P l.length).length)[i]=(z0J l (zk P l.length) (z09 z0e P l.length) (zk P l.length).length).getD i 0:=(by simp [List.getD,h1]);have e2:(z1g l z0e)[i]=l.getD i 0+z0e.getD i 0:=(by simp [z1g,List.getD,hi,hm]);rw [e1,e2]
 cases hP:P i with
 | false =>
  rw [hz i hi hP,z7m l _ _ _ (fun p hp e=>by
   have:=(z3q hp).2;rw [show (zk P l.length).getD p 0=(zk P l.length)[p] by simp [List.getD,hp]] at e;rw [e,hP] at this
   cases this)]
  omega
 | true =>
  have hmem:i ∈ zk P l.length:=(by unfold zk;rw [List.mem_filter];exact ⟨List.mem_range.2 hi,hP⟩);obtain ⟨p,hp,hpe⟩:=List.getElem_of_mem hmem;have hd:(zk P l.length).getD p 0=i:=(by simp [List.getD,hp,hpe]);have:=zbv (l:=l) (P:=P) (n:=l.length) (Nat.le_refl _) (z09 z0e P l.length) (p:=p) (zk P l.length).length (Nat.le_refl _) hp;rw [hd,z3R hp,hpe] at this;exact this
theorem zcY {l:List Int} {x:GC} {c m:Nat} (hc:x.col=c) (hm:x.cols=m):∀ k,k≤l.length→(z2m l (z1S x) k).length=min m (k - c)∧(z2m l (z1S x) k).sum=zF l (min k (c+m)) - zF l (min k c)
 | 0,_=>by simp [z2m,zF]
 | k+1,hk=>by
  obtain ⟨h1,h2⟩:=zcY (l:=l) hc hm k (by omega);by_cases hin:c≤k∧k < c+m
  ·have e:z1S x k=true:=(by simp [z1S,z0H,hc,hm];omega);rw [z9b e,List.length_append,List.sum_append,h1,h2];have e1:min (k+1) (c+m)=k+1:=(by omega);have e2:min k (c+m)=k:=(by omega);have e3:min (k+1) c=c:=(by omega);have e4:min k c=c:=(by omega);rw [e1,e2,e3,e4,z1A (by omega)];simp;omega
  ·have e:z1S x k=false:=(by simp [z1S,z0H,hc,hm];omega);rw [zaE e,h1,h2];have e1:min (k+1) (c+m)=min k (c+m)∨min (k+1) c=k+1:=(by omega);by_cases hkc:k < c
   ·have a1:min (k+1) (c+m)=k+1:=(by omega);have a2:min k (c+m)=k:=(by omega);have a3:min (k+1) c=k+1:=(by omega);have a4:min k c=k:=(by omega);rw [a1,a2,a3,a4];omega
   ·have a1:min (k+1) (c+m)=min k (c+m):=(by omega);have a3:min (k+1) c=min k c:=(by omega);rw [a1,a3];omega
def zcZ (x:GC):GC:=⟨0,x.row,0,x.rows,0⟩
theorem zj2 {x:GC} (h:GOk x):GOk (zcZ x):=by
 obtain ⟨a,b,c,d,e⟩:=h;exact ⟨⟨by show (-9223372036854775808:Int)≤0;omega,by show (0:Int) < 9223372036854775808;omega⟩,a,⟨by show (-9223372036854775808:Int)≤0;omega,by show (0:Int) < 9223372036854775808;omega⟩,c,⟨by show (-9223372036854775808:Int)≤0;omega,by show (0:Int) < 9223372036854775808;omega⟩⟩
def z7n (l:List Int) (x:GC):Int:=z2k l 0 (zcZ x)
theorem zdD (v:Value) (l:List Int) (hl:l.length≤1048576) (x:GC) (hx:GOk x) (w:World) (h:zu w v l) :
  Calls Tryz.prog 78 #[v,.agg #[.int .i64 x.row,.int .i64 x.col,.int .i64 x.rows,.int .i64 x.cols,.int .i64 x.ins]] w fun e w'=>e=.returned (.int .i64 (z7n l x))∧Below w.heap.size w w':=by
 obtain ⟨a,cap,rfl,hlen⟩:=h.form;have KC:=Hd (fun W=>z8S (.slice a l.length cap) l hl 0 (zcZ x) (zj2 hx) W);have K0:=ze (Below.refl w.heap.size w) (.cells #[.int .i64 x.row,.int .i64 x.col,.int .i64 x.rows,.int .i64 x.cols,.int .i64 x.ins] 112);have HK:=Hd K0;have H:=Hd (h.kept K0);clear h hx K0;go_enter Tryz.func78,Tryz.ntmps78;go_wp2_with fail
 refine (KC.out _ H.out).mono ?_;rintro e w1 ⟨rfl,hb1⟩;have HK1:=Hd (zh HK.out hb1);have HV:Hid (z2k l 0 (zcZ x)=z7n l x):=rfl;rw [HV.out];clear hb1 H HK;go_wp2;go_ret;exact ⟨rfl,HK1.out⟩
def z2x (w:World) (z:Nat) (v:Value) (ls:List (List ByteArray)):Prop:=At w z v ls.length 1 (fun i b o=>∃ u,w.cell? ⟨b,o,none⟩=some u∧z2M w z u (ls.getD i []))
theorem z2M.base {w:World} {z z':Nat} {v:Value} {ss:List ByteArray} (h:z2M w z v ss) (hz:z'≤z):z2M w z' v ss:=At.mono h (Nat.le_refl _) hz (fun _ _ _ _ _ _ he=>he)
theorem z2x.since {w w':World} {z:Nat} {v:Value} {ls:List (List ByteArray)} (h:z2x w z v ls) (k:z0A z w w'):z2x w' z v ls :=
 At.mono h k.size (Nat.le_refl _) (fun _ _ _ _ hb hz ⟨u,h1,h2⟩=>⟨u,(k.cell hz hb _).trans h1,h2.since k⟩)
theorem z2x.kept {w w':World} {z:Nat} {v:Value} {ls:List (List ByteArray)} (h:z2x w z v ls) (k:Below w.heap.size w w'):z2x w' z v ls:=h.since (.of_below k)
theorem z2x.base {w:World} {z z':Nat} {v:Value} {ls:List (List ByteArray)} (h:z2x w z v ls) (hz:z'≤z):z2x w z' v ls:=At.mono h (Nat.le_refl _) hz (fun _ _ _ _ _ _ ⟨u,h1,h2⟩=>⟨u,h1,h2.base hz⟩)
theorem z2x.get {w:World} {z:Nat} {v:Value} {ls:List (List ByteArray)} (h:z2x w z v ls) {i:Nat} (hi:i < ls.length):∃ b off cap u,v=.slice (some ⟨b,off,none⟩) ls.length cap∧ls.length≤cap∧cap≤maxLen∧b < w.heap.size∧w.cell? ⟨b,off+i,none⟩=some u∧z2M w z u (ls.getD i []):=by
 obtain ⟨b,off,cap,e,h1,h2,h3,u,h4,h5⟩:=At.get h hi;rw [Nat.mul_one] at h4;exact ⟨b,off,cap,u,e,h1,h2,h3,h4,h5⟩
def z6v (w:World) (z:Nat) (us:List Value) (ls:List (List ByteArray)):Prop:=us.length=ls.length∧∀ i,i < ls.length→z2M w z (us.getD i (.slice none 0 0)) (ls.getD i [])
theorem z6v.nil (w:World) (z:Nat):z6v w z [] []:=⟨rfl,fun i hi=>absurd hi (Nat.not_lt_zero i)⟩
theorem z6v.since {w w':World} {z:Nat} {us:List Value} {ls:List (List ByteArray)} (h:z6v w z us ls) (k:z0A z w w'):z6v w' z us ls:=⟨h.1,fun i hi=>(h.2 i hi).since k⟩
theorem z6v.next {w:World} {z:Nat} {us:List Value} {ls:List (List ByteArray)} (h:z6v w z us ls) {u:Value} {l:List ByteArray} (hu:z2M w z u l):z6v w z (us ++ [u]) (ls ++ [l]):=by
 refine ⟨by rw [List.length_append,List.length_append,h.1];rfl,fun i hi=>?_⟩;rw [List.length_append,List.length_singleton] at hi
 rcases Nat.lt_or_ge i ls.length with h1 | h1
 ·have e1:(us ++ [u]).getD i (.slice none 0 0)=us.getD i (.slice none 0 0):=by
   rw [List.getD_eq_getElem?_getD,List.getElem?_append_left (by rw [h.1];exact h1),← List.getD_eq_getElem?_getD]
  have e2:(ls ++ [l]).getD i []=ls.getD i []:=by
   rw [List.getD_eq_getElem?_getD,List.getElem?_append_left h1,← List.getD_eq_getElem?_getD]
  rw [e1,e2];exact h.2 i h1
 ·obtain rfl:i=ls.length:=by omega
  have e1:(us ++ [u]).getD ls.length (.slice none 0 0)=u:=by
   rw [List.getD_eq_getElem?_getD,List.getElem?_append_right (by rw [h.1];omega),h.1,Nat.sub_self];rfl
  have e2:(ls ++ [l]).getD ls.length []=l:=by
   rw [List.getD_eq_getElem?_getD,List.getElem?_append_right (Nat.le_refl _),Nat.sub_self];rfl
  rw [e1,e2];exact hu
theorem zgy:(Tryz.prog.info? 119).map (fun i=>(i.zero,i.size,i.bytes))=some (some (Value.slice none 0 0),1,24):=by kernel_rfl
theorem zgz {w:World} {B:Nat} {v:Value} {l:List ByteArray} (h:z1y w B v l) (hs:∀ x ∈ l,x.size≤maxLen):z2M w B v l:=by
 unfold z2M
 rcases h with ⟨rfl,rfl⟩ | ⟨g,cap,cur,hv,hb,hg,h1,h2,h3,h4⟩
 ·exact ⟨none,0,rfl,Nat.le_refl _,Nat.zero_le _,fun i hi=>absurd hi (Nat.not_lt_zero _)⟩
 ·refine ⟨some ⟨g,0,none⟩,cap,hv,h1,h2,fun i hi=>⟨g,0,rfl,(bL hg),hb,?_,?_⟩⟩
  ·rw [Nat.zero_add,Nat.mul_one,zf hg,h4 i hi];rfl
  ·have:=hs l[i] (List.getElem_mem hi)
   simpa [List.getD,hi] using this
theorem z1y.grown {w w':World} {B base:Nat} {v U:Value} {l:List ByteArray} {m:Nat} {xs:List Value} (h:z1y w B v l) (hU:w.ownsRow base 119 1 U m xs) (k:w.grownBy w' U.ownBlock):z1y w' B v l:=by
 rcases h with h | ⟨g,cap,cur,hv,hb,hg,r⟩
 ·exact .inl h
 ·exact .inr ⟨g,cap,cur,hv,hb,zY hg k (z08 (zo hU hg (by decide))),r⟩
def z2y (w:World) (B:Nat) (us:List Value) (ls:List (List ByteArray)):Prop:=us.length=ls.length∧∀ i,i < ls.length→z1y w B (us.getD i (.slice none 0 0)) (ls.getD i [])
theorem z2y.nil (w:World) (B:Nat):z2y w B [] []:=⟨rfl,fun i hi=>absurd hi (Nat.not_lt_zero i)⟩
theorem z2y.kept {w w':World} {B:Nat} {us:List Value} {ls:List (List ByteArray)} (h:z2y w B us ls) (k:Below w.heap.size w w'):z2y w' B us ls:=⟨h.1,fun i hi=>(h.2 i hi).below k (Nat.le_refl _)⟩
theorem z2y.grown {w w':World} {B base:Nat} {U:Value} {us:List Value} {ls:List (List ByteArray)} {m:Nat} {xs:List Value} (h:z2y w B us ls) (hU:w.ownsRow base 119 1 U m xs) (k:w.grownBy w' U.ownBlock):z2y w' B us ls:=⟨h.1,fun i hi=>(h.2 i hi).grown hU k⟩
theorem z2y.next {w:World} {B:Nat} {us:List Value} {ls:List (List ByteArray)} (h:z2y w B us ls) {u:Value} {l:List ByteArray} (hu:z1y w B u l):z2y w B (us ++ [u]) (ls ++ [l]):=by
 refine ⟨by rw [List.length_append,List.length_append,h.1];rfl,fun i hi=>?_⟩;rw [List.length_append,List.length_singleton] at hi
 rcases Nat.lt_or_ge i ls.length with h1 | h1
 ·have e1:(us ++ [u]).getD i (.slice none 0 0)=us.getD i (.slice none 0 0):=by
   rw [List.getD_eq_getElem?_getD,List.getElem?_append_left (by rw [h.1];exact h1),← List.getD_eq_getElem?_getD]
  have e2:(ls ++ [l]).getD i []=ls.getD i []:=by
   rw [List.getD_eq_getElem?_getD,List.getElem?_append_left h1,← List.getD_eq_getElem?_getD]
  rw [e1,e2];exact h.2 i h1
 ·obtain rfl:i=ls.length:=by omega
  have e1:(us ++ [u]).getD ls.length (.slice none 0 0)=u:=by
   rw [List.getD_eq_getElem?_getD,List.getElem?_append_right (by rw [h.1];omega),h.1,Nat.sub_self];rfl
  have e2:(ls ++ [l]).getD ls.length []=l:=by
   rw [List.getD_eq_getElem?_getD,List.getElem?_append_right (Nat.le_refl _),Nat.sub_self];rfl
  rw [e1,e2];exact hu
theorem z2y.lls {w:World} {B base z:Nat} {v:Value} {us:List Value} {ls:List (List ByteArray)} (h:z2y w B us ls) (hO:w.ownsRow base 119 1 v us.length us) (hz:z≤base) (hzB:z≤B) (hs:∀ l ∈ ls,∀ x ∈ l,x.size≤maxLen):z2x w z v ls:=by
 unfold z2x;have hul:=h.1
 rcases hO.2 with ⟨hv,h0⟩ | ⟨g,cap,cur,hv,hb,hg,h1,h2,h3,h4⟩
 ·exact ⟨none,0,by rw [← hul,h0];exact hv,by omega,Nat.zero_le _,fun i hi=>by omega⟩
 ·refine ⟨some ⟨g,0,none⟩,cap,by rw [← hul];exact hv,by omega,h2,fun i hi=>⟨g,0,rfl,(bL hg),by omega,us.getD i (.slice none 0 0),?_,?_⟩⟩
  ·have:cur.toList[i]?=us[i]?:=(by rw [← h4,List.getElem?_take_of_lt (by omega)]);rw [Nat.zero_add,Nat.mul_one,zf hg,← Array.getElem?_toList,this];simp [List.getD,show i < us.length by omega]
  ·have hl:ls.getD i []=ls[i]:=(by simp [List.getD,hi]);exact (zgz (h.2 i hi) (by rw [hl];exact hs _ (List.getElem_mem hi))).base hzB
end
section
open Go.RowKit
section
variable {P:Program} {ops:Array Oper} {C:World→Prop}
def z7o (ops:Array Oper) (z:Nat):Bool:=(List.range z).all fun i=>(List.range (z+1)).any fun j=>decide (i < j) && z9D ops j i
theorem z8f {z:Nat} {L:Nat→Bool} (hs:z7o ops z=true) (hc:z3a ops L) {o:Oper} (ho:ops[z]?=some o) (ha:∀ e ∈ o.after,Region.binds .any e=true→L e.on=true):∀ n i,z - i≤n→i < z→L i=true
 | 0,i,h,hi=>by omega
 | n+1,i,h,hi=>by
  have h1:=List.all_eq_true.1 hs i (List.mem_range.2 hi);obtain ⟨j,hj,h2⟩:=List.any_eq_true.1 h1;have hjz:=List.mem_range.1 hj;rw [Bool.and_eq_true] at h2;obtain ⟨h3,h4⟩:=h2;have h3:=of_decide_eq_true h3;by_cases e:j=z
  ·subst e;unfold z9D at h4;rw [ho] at h4;simp only [Option.map_some,Option.getD_some,List.any_eq_true,Bool.and_eq_true,beq_iff_eq] at h4;obtain ⟨e,he1,he2,he3⟩:=h4;have:=ha e (by simpa using he1) he2
   rwa [he3] at this
  ·have hLj:=z8f hs hc ho ha n j (by omega) (by omega)
   cases hLi:L i with
   | true=>rfl
   | false=>rw [hc j i h4 hLi] at hLj;cases hLj
theorem z5R {listed:Array Bool} {j:Nat} (h:z3a ops (fun k=>listed.getD k false)) (hj:j ∈ Region.ready .any ops listed):z3a ops (fun k=>(listed.setIfInBounds j true).getD k false):=by
 obtain ⟨h0,o,ho,ha⟩:=mem_ready.1 hj
 have hlt:j < listed.size:=by
  rcases Nat.lt_or_ge j listed.size with h' | h'
  ·exact h'
  ·rw [Array.getD_eq_getD_getElem?,Array.getElem?_eq_none h'] at h0
   cases h0
 rw [z9B hlt];exact h.next ho ha
def z8g (P:Program) (ops:Array Oper) (C:World→Prop) (z:Nat) (R:Act→Prop):Nat→Array Bool→Act→Prop
 | 0,_,_=>False
 | fuel+1,listed,a=>Region.ready .any ops listed ≠ []∧∀ i ∈ Region.ready .any ops listed,if i=z then (fuel=0∧Region.ready .any ops (listed.setIfInBounds z true)=[]∧R a) else qOp P ops C i (z8g P ops C z R fuel (listed.setIfInBounds i true)) a
theorem z9W {Q:Exit→Act→World→Prop} {R:Act→Prop} {z:Nat} (hR:∀ a w,C w→R a→wpOp P ops Q z (fun a' w'=>Q .normal a' w') a w):∀ (fuel:Nat) (listed:Array Bool) (a:Act) (w:World),C w→z8g P ops C z R fuel listed a→wpAny P .any ops Q fuel listed a w
 | 0,_,_,_,_,h=>h.elim
 | fuel+1,listed,a,w,hw,h=>⟨fun h0=>absurd h0 h.1,fun i hi=>by
   have h2:=h.2 i hi;by_cases hz:i=z
   ·rw [if_pos hz] at h2;obtain ⟨h3,hr,hRa⟩:=h2;subst h3;subst hz;exact wpOp_mono (fun a' w' h'=>⟨hr,h'⟩) (hR a w hw hRa)
   ·rw [if_neg hz] at h2;exact wpOp_of_qOp hw (fun a' w' hw'=>z9W hR fuel _ a' w' hw') h2⟩
theorem zd0 {R:Act→Prop} {z i:Nat} {oi:Oper} {v:Value} (hs:z7o ops z=true) (hi:ops[i]?=some oi) (hiz:i < z) (hsel:∀ (j:Nat) (o:Oper) cs b,ops[j]?=some o→o.op ≠ .select cs b) :
  ∀ (fuel:Nat) (listed:Array Bool) (a:Act),z3a ops (fun k=>listed.getD k false) →
   (∀ j oj,ops[j]?=some oj→j ≠ i→listed.getD j true=false→(∀ e ∈ oj.after,Region.binds .any e=true→e.on ≠ i)→oi.apart ops oj=true) →
   i ∈ Region.ready .any ops listed→YieldsIn P ops C oi v a →
   z8g P ops C z R fuel (listed.setIfInBounds i true) (a.put oi.dst v)→z8g P ops C z R (fuel+1) listed a:=by
 intro fuel
 induction fuel with
 | zero=>intro listed a _ _ _ _ H;exact H.elim
 | succ fuel ih =>
  intro listed a hcl hfree hr hy H;refine ⟨fun h=>(by rw [h] at hr;cases hr),fun j hj=>?_⟩;by_cases hji:j=i
  ·rw [if_neg (by omega)];subst hji;exact hy.qOp hi H
  ·have hjz:j ≠ z:=fun e=>by
    subst e;obtain ⟨_,o,ho,ha⟩:=mem_ready.1 hj;have h1:=z8f hs hcl ho ha _ i (Nat.le_refl _) hiz;have h0:=(mem_ready.1 hr).1
    rcases Nat.lt_or_ge i listed.size with h' | h'
    ·simp [h'] at h0 h1;rw [h0] at h1;cases h1
    ·simp [Array.getElem?_eq_none h'] at h1
   rw [if_neg hjz];have h1:=H.2 j (ready_mono hj hji);rw [if_neg hjz] at h1;obtain ⟨hjun,oj,hoj,hall⟩:=mem_ready.1 hj
   have hnot:∀ e ∈ oj.after,Region.binds .any e=true→e.on ≠ i:=fun e he hb heq=>by
    have h1:=hall e he hb;have h0:=(mem_ready.1 hr).1;rw [heq] at h1
    rcases Nat.lt_or_ge i listed.size with h' | h'
    ·simp [h'] at h0 h1;rw [h0] at h1;cases h1
    ·simp [Array.getElem?_eq_none h'] at h1
   have h2:=qOp_put hoj (hfree j oj hoj hji hjun hnot) (fun cs b=>hsel i oi cs b hi) (fun cs b=>hsel j oj cs b hoj) hy h1
   have hfree':∀ k ok,ops[k]?=some ok→k ≠ i→(listed.setIfInBounds j true).getD k true=false →
     (∀ e ∈ ok.after,Region.binds .any e=true→e.on ≠ i)→oi.apart ops ok=true:=fun k ok hk hki hun hno=>by
    refine hfree k ok hk hki ?_ hno;by_cases hjk:j=k
    ·subst hjk;exact hjun
    ·rw [getD_set_ne true hjk] at hun;exact hun
   refine qOp_mono (fun a' h3=>ih (listed.setIfInBounds j true) a' (z5R hcl hj) hfree' (ready_mono hr (Ne.symm hji)) h3.1 ?_) h2;rw [Array.setIfInBounds_comm _ _ hji];exact h3.2
theorem z9X {R:Act→Prop} {z:Nat} (hns:Region.noSelect ops=true) (hs:z7o ops z=true):∀ (l:List Oper) (k:Nat) (listed:Array Bool) (a:Act),k+l.length=z→(∀ j,j < l.length→l[j]?=ops[k+j]?)→z3a ops (fun k=>listed.getD k false) →
  Region.lexFrom .any ops (l.length+1) k listed=true→wpQuiet P ops C R l a→z8g P ops C z R (l.length+1) listed a
 | [],k,listed,a,hk,_,_,hB,h=>by
  simp only [List.length_nil,Region.lexFrom,Bool.and_eq_true] at hB;obtain ⟨⟨hr,_⟩,he⟩:=hB;have hk':k=z:=(by simpa using hk);subst hk';have hr':k ∈ Region.ready .any ops listed:=(by simpa using hr);have he':Region.ready .any ops (listed.setIfInBounds k true)=[]:=(by simpa using he);refine ⟨fun h=>(by rw [h] at hr';cases hr'),fun i hi=>?_⟩;by_cases hik:i=k
  ·rw [if_pos hik];exact ⟨rfl,he',h⟩
  ·have:=ready_mono hi hik;rw [he'] at this
   cases this
 | o :: l,k,listed,a,hk,hl,hcl,hB,h=>by
  have h0:ops[k]?=some o:=(by simpa using (hl 0 (by simp)).symm);simp only [List.length_cons] at hk hB ⊢;rw [Region.lexFrom] at hB;simp only [Bool.and_eq_true] at hB;obtain ⟨⟨hr,hf⟩,hB'⟩:=hB;have hr':k ∈ Region.ready .any ops listed:=(by simpa using hr);have hst:qOp P ops C k (wpQuiet P ops C R l) a:=(by unfold qOp;simp only [h0];exact h);obtain ⟨v,hy,hK⟩:=yieldsIn_of_qOp h0 hst
  exact zd0 hs h0 (by omega) (Region.noSelect_spec hns) (l.length+1) listed a hcl (Region.free_spec h0 hf) hr' hy
   (z9X hns hs l (k+1) _ _ (by omega) (fun j hj=>by have:=hl (j+1) (by simpa using hj);simpa [Nat.add_assoc,Nat.add_comm 1 j] using this) (z5R hcl hr') hB' hK)
end
theorem z17 {P:Program} {id:Nat} {Q:Exit→Act→World→Prop} {a:Act} {w:World} {l:List Oper} (n:Nat) {o:Oper} (hm:P.follows .mixedOrders=true) (hl:l.length=n+1) (ho:l[n]?=some o) (hB:Region.lexB .any l.toArray=true) (hs:z7o l.toArray n=true)
  (h:wpQuiet P l.toArray (fun w'=>∃ p:BW w,w'=p.u) (fun a'=>∀ w',(∃ p:BW w,w'=p.u)→if Region.wanted o (yielded l.toArray a'.tmps)=true then o.wp P a' w' (fun a w=>Q .normal a w) Q else Q .normal (a'.put o.dst undef) w') (l.take n) a):(Code.region id l.toArray true).wp P Q a w:=by
 simp only [Region.lexB,Bool.and_eq_true] at hB;have hlt:(l.take n).length=n:=(by rw [List.length_take];omega);refine wp_region_any hm (z9W (C:=fun w'=>∃ p:BW w,w'=p.u) (z:=n) (R:=fun a'=>∀ w',(∃ p:BW w,w'=p.u)→if Region.wanted o (yielded l.toArray a'.tmps)=true then o.wp P a' w' (fun a w=>Q .normal a w) Q else Q .normal (a'.put o.dst undef) w') ?_ _ _ _ _ ⟨⟨_,z1a (Below.refl _ _)⟩,rfl⟩ ?_)
 ·intro a' w' hw' hR;have h1:=hR w' hw';unfold wpOp;rw [show l.toArray[n]?=some o by simpa using ho];dsimp only
  split
  ·rename_i hw;rw [if_pos hw] at h1;exact .inl h1
  ·rename_i hw;rw [if_neg hw] at h1;exact h1
 ·have:=z9X (P:=P) (C:=fun w'=>∃ p:BW w,w'=p.u) hB.1 hs (l.take n) 0 (Array.replicate l.toArray.size false) a (by omega) (fun j hj=>by rw [hlt] at hj;simp [hj]) (fun j i _ _=>by
   show (Array.replicate l.toArray.size false).getD j false=false;rw [Array.getD_eq_getD_getElem?,Array.getElem?_replicate]
   split <;> rfl) (by rw [hlt,← hl];simpa using hB.2) h
  rw [hlt,← hl] at this
  simpa using this
end
section
open Go.RowKit
theorem za2 (v:Value) (ps:List (Int × Int)) (q:Int) (w:World) {z:Nat} (h:z07 w z v ps) :
  Calls Tryz.prog 54 #[v,.int .i64 q] w fun e w'=>e=.returned (.agg #[.int .i64 (sd ps q).1,.int .i64 (sd ps q).2])∧Below w.heap.size w w':=by
 obtain ⟨a,cap,rfl,hlen⟩:=At.form h;have HI:=Hd (zO q 0 ((ps.length:Int) - 1));unfold maxLen at hlen
 cases hin:inB q 0 ((ps.length:Int) - 1) with
 | false =>
  rw [hin] at HI;rw [z9S hin];clear hin h;go_enter Tryz.func54,Tryz.ntmps54;go_wp2_with fail
  refine (HI.out _).mono ?_;rintro e w1 ⟨rfl,rfl⟩;go_wp2;exact bodyPost_ret (v:=.agg #[.int .i64 0,.int .i64 0]) (by simp [results,Tryz.results54,go_sem]) rfl ⟨rfl,by repeat (first | exact Below.refl _ _ | apply ze)⟩
 | true =>
  rw [hin] at HI;have hk:0≤q∧q≤(ps.length:Int) - 1:=(by simpa [inB] using hin);clear hin;obtain ⟨k,rfl⟩:=Int.eq_ofNat_of_zero_le hk.1;have hkl:k < ps.length:=(by omega);rw [z88 hkl];obtain ⟨b,off,cap',e',hc1,hc2,hbl,hx0,hx1⟩:=At.get h hkl;simp only [Value.slice.injEq,true_and] at e';obtain ⟨rfl,rfl⟩:=e';unfold maxLen at hc2;generalize ps.getD k (0,0)=p at hx0 hx1 ⊢;clear h;go_enter Tryz.func54,Tryz.ntmps54;go_wp2_with fail
  refine (HI.out _).mono ?_;rintro e w1 ⟨rfl,rfl⟩;go_wp2;exact bodyPost_ret (v:=.agg #[.int .i64 p.1,.int .i64 p.2]) (by simp [results,Tryz.results54,go_sem]) rfl ⟨rfl,by repeat (first | exact Below.refl _ _ | apply ze)⟩
theorem zd1 (a b:Value) (W:World):(Instr.field 67 (.agg #[a,b]) 0).run Tryz.prog W=.ok a W:=by
 kernel_rfl
theorem zjC (a b:Value) (W:World):(Instr.field 67 (.agg #[a,b]) 1).run Tryz.prog W=.ok b W:=by
 kernel_rfl
end
section
open Go.RowKit Go.Shelf Go.Lib Go.Sort
theorem zdF (a b:Int) (w:World):Calls Tryz.prog 133 #[.int .i64 a,.int .i64 b] w fun e w'=>e=.returned (.int .i64 (if a < b then -1 else if b < a then 1 else 0))∧w'=w:=by
 have hn:∀ (x:Int) (W:World),Calls Tryz.prog 151 #[.int .i64 x] W fun e w'=>e=.returned (.bool false)∧w'=W:=fun x W=>by
  have hx:(x != x)=false:=(by simp);go_enter Tryz.func151,Tryz.ntmps151;go_wp2;go_ret;exact ⟨rfl,rfl⟩
 by_cases h1:a < b
 ·rw [if_pos h1];go_enter Tryz.func133,Tryz.ntmps133;go_wp2_with (go_at_call 151;refine (hn _ _).mono ?_;rintro e w' ⟨rfl,rfl⟩)
  go_ret;exact ⟨rfl,rfl⟩
 ·rw [if_neg h1];by_cases h2:b < a
  ·rw [if_pos h2];go_enter Tryz.func133,Tryz.ntmps133;go_wp2_with (go_at_call 151;refine (hn _ _).mono ?_;rintro e w' ⟨rfl,rfl⟩)
   go_ret;exact ⟨rfl,rfl⟩
  ·rw [if_neg h2];go_enter Tryz.func133,Tryz.ntmps133;go_wp2_with (go_at_call 151;refine (hn _ _).mono ?_;rintro e w' ⟨rfl,rfl⟩)
   go_ret;exact ⟨rfl,rfl⟩
theorem zhW (x y:Cl) (W:World):Calls Tryz.prog 107 #[.agg #[.int .i64 x.p,.int .i64 x.w,.int .i64 x.o],.agg #[.int .i64 y.p,.int .i64 y.w,.int .i64 y.o]] W fun e w'=>e=.returned (.int .i64 (cfC x y))∧∃ q os',w'=grow (W.drewN q) os':=by
 have hcon:=fun W'=>zdF y.o x.o W';have he:cfC x y=(if y.o < x.o then -1 else if x.o < y.o then 1 else 0):=rfl;rw [he];generalize (if y.o < x.o then (-1:Int) else if x.o < y.o then 1 else 0)=r at hcon;go_enter Tryz.func107,Tryz.ntmps107;go_wp2_with (go_at_call 133;refine (hcon _).mono ?_;rintro e w' ⟨rfl,rfl⟩)
 go_ret;exact ⟨rfl,0,_,by rw [alloc_eq_grow,alloc_eq_grow,grow_grow];rfl⟩
theorem zd2 (blk off size:Nat) (w:World):CmpLays Tryz.prog 107 #[] z1J 3 cfC blk off size w:=fun _ _ _ _ x y=>zhW x y _
theorem egC:∀ args w,(callFunc 107 args).run Tryz.prog w=.ok (.enter 107 args) w:=enters_of Tryz.func107 (by kernel_rfl) rfl
theorem z7B (lt:Cl→Cl→Bool) (a:Nat):∀ (j:Nat) (d:Array Cl),(insInner lt a j d).size=d.size
 | 0,d=>by unfold insInner;rfl
 | j+1,d=>by
  unfold insInner
  split
  ·rw [z7B lt a j,size_swp]
  ·rfl
theorem z7C (lt:Cl→Cl→Bool) (a b:Nat):∀ (n i:Nat) (d:Array Cl),b - i=n→(insOuter lt a b i d).size=d.size
 | 0,i,d,hn=>by rw [insOuter_stop _ _ _ _ _ (by omega)]
 | n+1,i,d,hn=>by rw [insOuter_go _ _ _ _ _ (by omega),z7C lt a b n (i+1) _ (by omega),z7B]
theorem zhX (d:Array Cl) (a b:Nat):(Sort.insertionSort (ltOf cfC) d a b).size=d.size:=z7C _ _ _ _ _ _ rfl
shelf_lay_g SlLaysF0.n20 Slsf 20 at Tryz 149 as insC
theorem zj6 (blk off cap a b:Nat) (d0 d:Array Cl) (w0 w:World) (R:RowK z1J 3 w0 blk off d0) (hs:d0.size=d.size) (S:SWK z1J 3 w0 blk off d w) (hab:a≤b) (hb:b≤d.size) (hsz:d.size < 4611686018427387904) :
  Calls Tryz.prog 149 #[.slice (some ⟨blk,off,none⟩) d.size cap,.int .i64 a,.int .i64 b,.func (.func 107) #[] #[]] w fun e w' =>
   e=.returned (.tuple #[])∧SWK z1J 3 w0 blk off (Sort.insertionSort (ltOf cfC) d a b) w':=by
 have hbl:blk < w.heap.size:=Nat.lt_of_lt_of_le R.hblk S.le;refine (AnyQ.insertionSortCmpFunc insC 3 Tryz.isAgg143 Tryz.sizeOf143 z1J z98 z99 cfC 107 #[] blk off cap a b d w egC (zd2 blk off d.size w) (S.holds R.hblk R.hH (by omega)) hbl hab hb hsz).mono ?_;rintro e w' ⟨rfl,n,os,rfl⟩;exact ⟨rfl,S.on R.hblk n _ os (zhX d a b)⟩
end
end Go.Proofs.YtggmjiddadjilamGreat
