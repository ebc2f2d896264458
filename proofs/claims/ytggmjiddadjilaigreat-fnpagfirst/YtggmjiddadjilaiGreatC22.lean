/-
  PROVED HERE: what the program's sumOf answers of any list of numbers in memory; nothing in memory is turned. Also: 16 more texts of the same proof.
-/
import Derived.Test.YtggmjiddadjilaiGreatC21
import Derived.Test.YtggmjiddadjilaiGreatC17
set_option maxRecDepth 1000000
set_option maxHeartbeats 40000000
namespace Go.Proofs.YtggmjiddadjilaiGreat
section
open Go.RowKit
theorem zdf (v:Value) (l:List Int) (w:World) (h:zH w v l) :
  Calls Tryz.prog 63 #[v] w fun e w'=>e=.returned (.int .i64 (wrap64 l.sum))∧w'=w:=by
 obtain ⟨a,cap,rfl,hlen⟩:=h.form;have H:=Hd h;clear h;go_enter Tryz.func63,Tryz.ntmps63;go_wp2_with fail
 go_loop [3,8] (fun s i=>∃ k:Nat,k≤l.length∧i=.int .i64 k∧s=.int .i64 (wrap64 (zv l k))) (fun _ i=>l.length - (intOf i).toNat)
 case atStart=>exact ⟨0,Nat.zero_le _,rfl,by simp [zv,z8V]⟩
 case round =>
  obtain ⟨k,hk,rfl,rfl⟩:=hrel;by_cases hlt:k < l.length
  ·obtain ⟨b,off,cap',e',hc1,hc2,hbl,hx⟩:=H.out.get hlt;simp only [Value.slice.injEq,true_and] at e';obtain ⟨rfl,rfl⟩:=e';have HS:Hid (wrap64 (wrap64 (zv l k)+l.getD k 0)=wrap64 (zv l (k+1))):=(by rw [Hid,z18 hlt,zav]);generalize l.getD k 0=x at hx HS;generalize wrap64 (zv l k)=s at HS ⊢;unfold maxLen at hc2;go_wp2
   go_round
   case rel=>exact ⟨k+1,by omega,by go_num,by rw [← HS.out]⟩
   case measure=>simp [intOf];omega
  ·obtain rfl:k=l.length:=by omega
   have HE:=Hd (z1b l);go_wp2;go_ret;exact ⟨by rw [← HE.out];rfl,rfl⟩
theorem z4B (v:Value) (l:List Int) (gap:Int) (w:World) (h:zH w v l) :
  Calls Tryz.prog 53 #[v,.int .i64 gap] w fun e w'=>e=.returned (.int .i64 (z1R l gap))∧w'=w:=by
 obtain ⟨a,cap,rfl,hlen⟩:=h.form;have H:=Hd h;clear h;by_cases h0:l.length=0
 ·have HV:=Hd (zfb h0 gap);rw [h0] at H ⊢;clear h0;go_enter Tryz.func53,Tryz.ntmps53;go_wp2;go_ret;exact ⟨by rw [HV.out];rfl,rfl⟩
 ·have HV:Hid (z1R l gap=wrap64 (wrap64 l.sum+wrap64 (gap * ((l.length:Int) - 1)))):=(by rw [Hid,z4o h0,zav,zdy]);have h0':((l.length:Int) == 0)=false:=beq_eq_false_iff_ne.2 (by omega);have KS:=Hd (zdf _ l w H.out);go_enter Tryz.func53,Tryz.ntmps53;go_wp2_with fail
  refine KS.out.mono ?_;rintro e w1 ⟨rfl,rfl⟩;go_wp2;go_ret;exact ⟨by rw [HV.out];rfl,rfl⟩
def z2u (x:GC) (k:Nat):Bool:=z1I (k:Int) x.col x.cols
def z2N (l:List Int) (gap:Int) (x:GC):Int:=z1R (z2z l (z2u x) l.length) gap
theorem zeA:(Tryz.prog.info? 3).map (fun i=>(i.zero,i.size,i.bytes))=some (some (Value.int .i64 0),1,8):=by kernel_rfl
theorem z9T {w w3 w4:World} {B n:Nat} {xs:List Value} {x:Int} {o:Value} (hB:w.heap.size≤B) (hO:w3.ownsRow B 3 1 o n xs) (K:Below w.heap.size w w3)
  (hg:(w3.alloc (.cells #[.int .i64 x] 3)).grownBy w4 o.ownBlock):Below w.heap.size w w4∧∀ g,g < B→g < w3.heap.size→w4.heap[g]?=w3.heap[g]?:=by
 have hA:=ze K (.cells #[.int .i64 x] 3);refine ⟨⟨hg.os.trans hA.os,hg.tape.trans hA.tape,hg.output.trans hA.output,Nat.le_trans hA.size hg.size,fun k hk=>(hg.block k (Nat.lt_of_lt_of_le hk hA.size) (fun hb=>?_)).trans (hA.block k hk)⟩,fun k hk hl=>(hg.block k (by simp;omega) (fun hb=>?_)).trans (Below.heap_alloc _ _ _ hl)⟩
 ·have:=(hO.lt k hb.symm).1;omega
 ·have:=(hO.lt k hb.symm).1;omega
theorem zbj {l:List Int} {p:Nat→Bool} {k:Nat} (h:p k=true):z2z l p (k+1)=z2z l p k ++ [l.getD k 0]:=by rw [z2z,if_pos h]
theorem zcK {l:List Int} {p:Nat→Bool} {k:Nat} (h:p k=false):z2z l p (k+1)=z2z l p k:=by rw [z2z,if_neg (by rw [h];simp)]
theorem z7y (v:Value) (l:List Int) (hl:l.length≤1048576) (gap:Int) (x:GC) (hx:GOk x) (w:World) (h:zH w v l) :
  Calls Tryz.prog 27 #[v,.int .i64 gap,.agg #[.int .i64 x.row,.int .i64 x.col,.int .i64 x.rows,.int .i64 x.cols,.int .i64 x.ins]] w fun e w'=>e=.returned (.int .i64 (z2N l gap x))∧Below w.heap.size w w':=by
 obtain ⟨i0,hi,hz0,hz1,hz2⟩:=info_parts zeA;obtain ⟨a,cap,rfl,hlen⟩:=h.form;obtain ⟨_,b1,_,b3,_⟩:=hx;have K0:=ze (Below.refl w.heap.size w) (.cells #[.int .i64 x.row,.int .i64 x.col,.int .i64 x.rows,.int .i64 x.cols,.int .i64 x.ins] 59);have X0:=zl w (.cells #[.int .i64 x.row,.int .i64 x.col,.int .i64 x.rows,.int .i64 x.cols,.int .i64 x.ins] 59);have H:=Hd h;have HR:=Hd (fun (k:Nat) (hk:k≤1048576)=>z7o (k:Int) x.col x.cols (by unfold I64;omega) b1 b3);clear h b1 b3;go_enter Tryz.func27,Tryz.ntmps27;go_wp2_with fail
 go_loopw [7,12] (fun o i W=>∃ k:Nat,i=.int .i64 k∧k≤l.length∧Hid (W.ownsRow (w.heap.size+1) 3 1 o (z2z l (z2u x) k).length ((z2z l (z2u x) k).map (Value.int .i64)))∧Hid (Below w.heap.size w W)∧Hid (W.heap[w.heap.size]?=some (.cells #[.int .i64 x.row,.int .i64 x.col,.int .i64 x.rows,.int .i64 x.cols,.int .i64 x.ins] 59))) (fun _ i _=>l.length - (intOf i).toNat)
 case atStart=>exact ⟨0,rfl,Nat.zero_le _,⟨by simp [z2z],.inl ⟨rfl,rfl⟩⟩,K0,X0⟩
 case round =>
  obtain ⟨k,rfl,hk,HO,HB,HX⟩:=hrel;have c1:wr.cell? ⟨w.heap.size,1,none⟩=some (.int .i64 x.col):=zf HX.out;have c3:wr.cell? ⟨w.heap.size,3,none⟩=some (.int .i64 x.cols):=zf HX.out;by_cases hlt:k < l.length
  ·obtain ⟨b,off,cap',e',hc1,hc2,hbl,hy⟩:=(H.out.kept HB.out).get hlt;simp only [Value.slice.injEq,true_and] at e';obtain ⟨rfl,rfl⟩:=e';unfold maxLen at hc2;have KR:=Hd (HR.out k (by omega) wr);have hol:=zaw l (z2u x) k
   cases hin:z2u x k with
   | false =>
    have HL:=Hd (zcK (l:=l) hin);have hin':z1I (k:Int) x.col x.cols=false:=hin;rw [hin'] at KR;clear hin hin';generalize l.getD k 0=y at hy;go_wp2_with fail
    refine KR.out.mono ?_;rintro e w1 ⟨rfl,rfl⟩;go_wp2;go_roundw
    case rel=>exact ⟨k+1,by go_num,by omega,by rw [HL.out];exact HO,HB,HX⟩
    case measure=>simp [intOf];omega
   | true =>
    have HL:=Hd (zbj (l:=l) hin);have hin':z1I (k:Int) x.col x.cols=true:=hin;rw [hin'] at KR;clear hin hin';generalize l.getD k 0=y at hy HL;generalize z2z l (z2u x) k=xs at HO HL hol;go_wp2_with fail
    refine KR.out.mono ?_;rintro e w1 ⟨rfl,rfl⟩;have hO4:=HO.out;have hsz:w.heap.size < w1.heap.size:=(bL HX.out);go_wp2_with (at_builtin;refine wpList_append_own _ rfl _ _ 34 rfl (w.heap.size+1) 3 i0 (.int .i64 0) 1 8 Tryz.underlying34 hi hz0 hz1 hz2 rfl (by decide) _ _ _ rfl (hO4.alloc _) ⟨w1.heap.size,0,none⟩ 1 1 [.int .i64 y] rfl rfl ?c1 ?c2 ?c3 ?c4 ?c5 ?_)
    case c1 =>
     intro i u hi
     match i,hi with
     | 0,hi=>simp at hi;subst hi;simp [Addr.add]
    case c2=>intro u hu;simp at hu;subst hu;rfl
    case c3=>unfold maxLen;omega
    case c4=>omega
    case c5=>simp;omega
    intro v' w5 hown' hgrow' _;obtain ⟨hB5,hX5⟩:=z9T (Nat.le_succ _) hO4 HB.out hgrow';have HB5:=Hd hB5;have HX5:=Hd ((hX5 w.heap.size (Nat.lt_succ_self _) (bL HX.out)).trans HX.out);have HO5:Hid (w5.ownsRow (w.heap.size+1) 3 1 v' (xs ++ [y]).length ((xs ++ [y]).map (Value.int .i64))):=(by rw [List.length_append,List.map_append];exact hown');obtain ⟨g',cap'',rfl⟩:=Joins.ownsRow_form hown' (by omega);clear hown' hgrow' hO4 hB5 hX5 HO HB HX;go_wp2;go_roundw
    case rel=>exact ⟨k+1,by go_num,by omega,by rw [HL.out];exact HO5,HB5,HX5⟩
    case measure=>simp [intOf];omega
  ·obtain rfl:k=l.length:=by omega
   have hI:=(zz.of_owns HO.out).at;obtain ⟨aa,cc,rfl,_⟩:=hI.form;have KA:=Hd (z4B _ _ gap wr hI);have HV:Hid (z2N l gap x=z1R (z2z l (z2u x) l.length) gap):=rfl;clear hI;go_wp2_with fail
   refine KA.out.mono ?_;rintro e w1 ⟨rfl,rfl⟩;go_wp2;go_ret;exact ⟨rfl,HB.out⟩
def sd (ps:List (Int × Int)) (q:Int):Int × Int:=if inB q 0 (ps.length - 1)=true then ps.getD q.toNat (0,0) else (0,0)
theorem zat {ps:List (Int × Int)} {q:Int} (h:inB q 0 (ps.length - 1)=false):sd ps q=(0,0):=by unfold sd;rw [if_neg (by rw [h];simp)]
theorem z8x {ps:List (Int × Int)} {k:Nat} (h:k < ps.length):sd ps k=ps.getD k (0,0):=by unfold sd;rw [if_pos (z3o (by omega) (by omega)),Int.toNat_natCast]
def sdT (t:T) (q:Int):Int × Int:=if zr t=true then sd t.cols q else (0,0)
def z4w (s:ByteArray):Nat:=if z00 s=true then s.size else 0
theorem z9V (s:ByteArray):z4w s≤30:=by
 unfold z4w
 split
 ·rename_i h
  exact ((z2A s).1 h).1
 ·omega
def zi (P:Nat→Bool) (n:Nat):List Nat:=(List.range n).filter P
def zG (l:List Int) (P:Nat→Bool) (n:Nat):List Int:=(zi P n).map (fun i=>l.getD i 0)
theorem z1z (l:List Int) (P:Nat→Bool) (n:Nat):(zG l P n).length=(zi P n).length:=by simp [zG]
theorem z6W (P:Nat→Bool) (n:Nat):zi P (n+1)=zi P n ++ if P n=true then [n] else []:=by
 unfold zi;rw [List.range_succ,List.filter_append]
 congr 1
 by_cases h:P n=true
 ·simp [h]
 ·simp [h]
theorem z2F {P:Nat→Bool} {n p:Nat} (h:p < (zi P n).length):(zi P n)[p] < n∧P (zi P n)[p]=true:=by
 have:=List.getElem_mem h;unfold zi at this;rw [List.mem_filter,List.mem_range] at this;exact this
theorem z2y {P:Nat→Bool} {n p q:Nat} (hp:p < (zi P n).length) (hq:q < (zi P n).length) (h:p < q):(zi P n)[p] < (zi P n)[q] :=
 List.pairwise_iff_getElem.1 (List.Pairwise.filter P List.pairwise_lt_range) p q hp hq h
theorem z35 {l:List Int} {P:Nat→Bool} {n p:Nat} (h:p < (zi P n).length):(zG l P n).getD p 0=l.getD (zi P n)[p] 0:=by
 simp [zG,List.getD,h]
theorem z4a {l:List Int} {P:Nat→Bool}:∀ n,n≤l.length→(∀ i,i < n→P i=false→l.getD i 0=0)→(zG l P n).sum=zv l n
 | 0,_,_=>by simp [zG,zi,zv]
 | n+1,hn,hz=>by
  have ih:=z4a n (by omega) (fun i hi=>hz i (by omega))
  have e:zG l P (n+1)=zG l P n ++ if P n=true then [l.getD n 0] else []:=by
   unfold zG;rw [z6W,List.map_append]
   congr 1
   split <;> rfl
  rw [e,List.sum_append,ih,z18 (by omega)]
  cases hP:P n with
  | true=>simp
  | false=>rw [hz n (by omega) hP];simp
theorem zbo:∀ {a b:List Int},a.length=b.length→(∀ i,i < a.length→a.getD i 0≤b.getD i 0)→∀ p,p < a.length→a.getD p 0 < b.getD p 0→a.sum < b.sum
 | [],_,_,_,p,hp,_=>absurd hp (Nat.not_lt_zero _)
 | _ :: _,[],h,_,_,_,_=>absurd h (by simp)
 | x :: a,y :: b,h,hle,p,hp,hlt=>by
  have hab:a.length=b.length:=(by simpa using h);have h0:x≤y:=(by have:=hle 0 (by simp);simpa using this);have hr:∀ i,i < a.length→a.getD i 0≤b.getD i 0:=fun i hi=>by have:=hle (i+1) (by simpa using hi);simpa using this
  rw [List.sum_cons,List.sum_cons]
  cases p with
  | zero =>
   have h1:x < y:=(by simpa using hlt)
   have h2:a.sum≤b.sum:=by
    clear hlt hp hle h h0 h1
    induction a generalizing b with
    | nil=>cases b with
     | nil=>exact Int.le_refl _
     | cons _ _=>simp at hab
    | cons u a ih=>cases b with
     | nil=>simp at hab
     | cons v b =>
      have h3:u≤v:=(by have:=hr 0 (by simp);simpa using this);have:=ih (b:=b) (by simpa using hab) (fun i hi=>by have:=hr (i+1) (by simpa using hi);simpa using this);rw [List.sum_cons,List.sum_cons];omega
   omega
  | succ p =>
   have:=zbo hab hr p (by simpa using hp) (by simpa using hlt);omega
theorem z9Y {a b:List Int} (hl:a.length=b.length) (hs:a.sum=b.sum) {p:Nat} (hp:p < a.length) (h:a.getD p 0 < b.getD p 0):∃ q,q < a.length∧b.getD q 0 < a.getD q 0:=by
 apply Classical.byContradiction;intro hn;have:=zbo hl (fun i hi=>Int.not_lt.1 (fun hlt=>hn ⟨i,hi,hlt⟩)) p hp h;omega
theorem zbp {l:List Int} (h:l.sum ≠ 0):wts l=l:=by unfold wts;rw [if_neg h]
theorem z9Z {t:Int} {l:List Int} {P:Nat→Bool} (hok:zq t l=true) (hz:∀ i,i < l.length→P i=false→l.getD i 0=0) (hs:l.sum ≠ 0) :
  zq t (zG l P l.length)=true∧zo t (zG l P l.length)=zG (zo t l) P l.length:=by
 obtain ⟨ht,hlen,hw⟩:=z01 hok;have hsum:(zG l P l.length).sum=l.sum:=(by rw [z4a l.length (Nat.le_refl _) hz,z1b]);have hs':(zG l P l.length).sum ≠ 0:=(by rw [hsum];exact hs);have hnl:(zi P l.length).length≤l.length:=(by unfold zi;have:=List.length_filter_le P (List.range l.length);simpa using this)
 have hok':zq t (zG l P l.length)=true:=by
  simp only [zq,Bool.and_eq_true,decide_eq_true_eq,List.all_eq_true];refine ⟨⟨by simp only [wtB,decide_eq_true_eq];exact ht,by rw [z1z];omega⟩,fun x hx=>?_⟩;unfold zG at hx;obtain ⟨i,hi,rfl⟩:=List.mem_map.1 hx;unfold zi at hi;have hil:=List.mem_range.1 (List.mem_filter.1 hi).1;rw [show l.getD i 0=l[i] by simp [List.getD,hil]];exact List.all_eq_true.1 hw _ (List.getElem_mem hil)
 refine ⟨hok',?_⟩
 have hpos:0 < l.length:=by
  cases l with
  | nil=>simp at hs
  | cons _ _=>simp
 have hpos':0 < (zG l P l.length).length:=by
  cases h:zG l P l.length with
  | nil=>rw [h] at hs';simp at hs'
  | cons _ _=>simp
 have hL:=z1m hok;have hL':=z1m hok'
 have hsh:(zG (zo t l) P l.length).sum=(zo t l).sum:=by
  have:=z4a (l:=zo t l) (P:=P) l.length (by omega) (fun i hi hP=>z4K hok hs hi (hz i hi hP));rw [this,← hL,z1b]
 have hss:(zo t (zG l P l.length)).sum=(zG (zo t l) P l.length).sum:=(by rw [hsh,z33 hok hpos,z33 hok' hpos']);have hll:(zo t (zG l P l.length)).length=(zG (zo t l) P l.length).length:=(by rw [hL',z1z,z1z]);have hw1:=zbp hs;have hw2:=zbp hs'
 -- the two orders are one
 have hord:∀ p q,(hp:p < (zi P l.length).length)→(hq:q < (zi P l.length).length)→tB (cl t (zG l P l.length) p) (cl t (zG l P l.length) q)=tB (cl t l (zi P l.length)[p]) (cl t l (zi P l.length)[q]):=by
  intro p q hp hq;rw [Bool.eq_iff_iff,z5d,z5d];simp only [cl,hsum,z35 hp,z35 hq]
  have hm:((p:Int) < (q:Int)) ↔ (((zi P l.length)[p]:Nat):Int) < (((zi P l.length)[q]:Nat):Int):=by
   constructor
   ·intro h;have:=z2y hp hq (by omega);omega
   ·intro h
    rcases Nat.lt_trichotomy p q with h1 | h1 | h1
    ·omega
    ·subst h1;omega
    ·have:=z2y hq hp h1;omega
  have he:((p:Int)=(q:Int)) ↔ (((zi P l.length)[p]:Nat):Int)=(((zi P l.length)[q]:Nat):Int):=by
   constructor
   ·intro h;have:p=q:=by omega
    subst this;rfl
   ·intro h
    rcases Nat.lt_trichotomy p q with h1 | h1 | h1
    ·have:=z2y hp hq h1;omega
    ·omega
    ·have:=z2y hq hp h1;omega
  rw [hm,he]
 have hA:∀ p,(hp:p < (zi P l.length).length)→(zo t (zG l P l.length)).getD p 0=t * l.getD (zi P l.length)[p] 0 / l.sum+if cl t (zG l P l.length) p ∈ (zP t (zG l P l.length)).take (z2d t (zG l P l.length)) then 1 else 0:=by
  intro p hp;rw [z5z hok' (by rw [z1z];exact hp),hw2,hsum,z35 hp]
 have hB:∀ p,(hp:p < (zi P l.length).length)→(zG (zo t l) P l.length).getD p 0=t * l.getD (zi P l.length)[p] 0 / l.sum+if cl t l (zi P l.length)[p] ∈ (zP t l).take (z2d t l) then 1 else 0:=by
  intro p hp;rw [z35 hp,z5z hok (z2F hp).1,hw1]
 -- one that got zN here and one that got zN there cannot both be
 have hno:∀ p q,(hp:p < (zi P l.length).length)→(hq:q < (zi P l.length).length)→(zo t (zG l P l.length)).getD p 0 < (zG (zo t l) P l.length).getD p 0→(zG (zo t l) P l.length).getD q 0 < (zo t (zG l P l.length)).getD q 0→False:=by
  intro p q hp hq h1 h2;rw [hA p hp,hB p hp] at h1;rw [hA q hq,hB q hq] at h2;have hpl:p < (zG l P l.length).length:=(by rw [z1z];exact hp);have hql:q < (zG l P l.length).length:=(by rw [z1z];exact hq);by_cases a1:cl t (zG l P l.length) p ∈ (zP t (zG l P l.length)).take (z2d t (zG l P l.length))
  ·rw [if_pos a1] at h1;split at h1 <;> omega
  by_cases a2:cl t l (zi P l.length)[q] ∈ (zP t l).take (z2d t l)
  ·rw [if_pos a2] at h2;split at h2 <;> omega
  by_cases b1:cl t l (zi P l.length)[p] ∈ (zP t l).take (z2d t l)
  case neg=>rw [if_neg a1,if_neg b1] at h1;omega
  by_cases b2:cl t (zG l P l.length) q ∈ (zP t (zG l P l.length)).take (z2d t (zG l P l.length))
  case neg=>rw [if_neg a2,if_neg b2] at h2;omega
  have hpq:p ≠ q:=fun e=>by subst e;exact a1 b2
  have htot:tB (cl t l (zi P l.length)[p]) (cl t l (zi P l.length)[q])=true∨tB (cl t l (zi P l.length)[q]) (cl t l (zi P l.length)[p])=true:=by
   rw [z5d,z5d];simp only [cl]
   have:(zi P l.length)[p] ≠ (zi P l.length)[q]:=by
    rcases Nat.lt_or_gt_of_ne hpq with h | h
    ·have:=z2y hp hq h;omega
    ·have:=z2y hq hp h;omega
   omega
  rcases htot with h | h
  ·rw [← hord p q hp hq] at h;exact a1 (z9N hpl h b2)
  ·exact a2 (z9N (z2F hq).1 h b1)
 apply List.ext_getElem hll;intro p h1 h2;have hp:p < (zi P l.length).length:=(by rw [hL',z1z] at h1;exact h1);have e1:(zo t (zG l P l.length))[p]=(zo t (zG l P l.length)).getD p 0:=(by simp [List.getD,h1]);have e2:(zG (zo t l) P l.length)[p]=(zG (zo t l) P l.length).getD p 0:=(by simp [List.getD,h2]);rw [e1,e2];apply Classical.byContradiction;intro hne
 rcases Int.lt_or_gt_of_ne hne with h | h
 ·obtain ⟨q,hq,hlt⟩:=z9Y hll hss h1 h;exact hno p q hp (by rw [hL',z1z] at hq;exact hq) h hlt
 ·obtain ⟨q,hq,hlt⟩:=z9Y hll.symm hss.symm h2 h;have hq':q < (zi P l.length).length:=(by rw [z1z] at hq;exact hq);exact hno q p hq' hp hlt h
def z0i (t:Int) (l:List Int):List Int:=if zq t l=true then (if l.sum≤t then l else zo t l) else []
def z2e (t:Int) (l:List Int):Int:=if zq t l=true then (if l.sum≤t then t - l.sum else 0) else 0
theorem z3r {t:Int} {l:List Int} (h:zq t l=true) (hs:l.sum≤t):z0i t l=l∧z2e t l=t - l.sum:=by simp [z0i,z2e,h,hs]
theorem z2G {t:Int} {l:List Int} (h:zq t l=true) (hs:¬ l.sum≤t):z0i t l=zo t l∧z2e t l=0:=by simp [z0i,z2e,h,hs]
theorem zdi {x:Value} {a b:Int} (h:a=b):Ending.returned (.tuple #[x,.int .i64 a])=.returned (.tuple #[x,.int .i64 b]):=by rw [h]
theorem zeB {t:Int} {l:List Int} {P:Nat→Bool} (hok:zq t l=true):zq t (zG l P l.length)=true:=by
 obtain ⟨ht,hlen,hw⟩:=z01 hok;have hnl:(zi P l.length).length≤l.length:=(by unfold zi;have:=List.length_filter_le P (List.range l.length);simpa using this);simp only [zq,Bool.and_eq_true,decide_eq_true_eq,List.all_eq_true];refine ⟨⟨by simp only [wtB,decide_eq_true_eq];exact ht,by rw [z1z];omega⟩,fun x hx=>?_⟩;unfold zG at hx;obtain ⟨i,hi,rfl⟩:=List.mem_map.1 hx;unfold zi at hi;have hil:=List.mem_range.1 (List.mem_filter.1 hi).1;rw [show l.getD i 0=l[i] by simp [List.getD,hil]];exact List.all_eq_true.1 hw _ (List.getElem_mem hil)
theorem zg3 {t:Int} {l:List Int} {P:Nat→Bool} (hok:zq t l=true) (hz:∀ i,i < l.length→P i=false→l.getD i 0=0) :
  z0i t (zG l P l.length)=zG (z0i t l) P l.length∧z2e t (zG l P l.length)=z2e t l:=by
 have hsum:(zG l P l.length).sum=l.sum:=(by rw [z4a l.length (Nat.le_refl _) hz,z1b]);have hok':=zeB (P:=P) hok;by_cases hs:l.sum≤t
 ·rw [(z3r hok hs).1,(z3r hok hs).2,(z3r hok' (by rw [hsum];exact hs)).1,(z3r hok' (by rw [hsum];exact hs)).2,hsum];exact ⟨rfl,rfl⟩
 ·have ht:=(z01 hok).1.1;rw [(z2G hok hs).1,(z2G hok hs).2,(z2G hok' (by rw [hsum];exact hs)).1,(z2G hok' (by rw [hsum];exact hs)).2];exact ⟨(z9Z hok hz (by omega)).2,rfl⟩
def z0Y (P:Nat→Bool) (n:Nat):List Int:=(List.range n).map (fun i=>if P i=true then 1 else 0)
theorem z1A (P:Nat→Bool) (n:Nat):(z0Y P n).length=n:=by simp [z0Y]
theorem z5j {P:Nat→Bool} {n i:Nat} (h:i < n):(z0Y P n).getD i 0=if P i=true then 1 else 0:=by simp [z0Y,List.getD,h]
theorem z7c {t:Int} (P:Nat→Bool) {n:Nat} (ht:0≤t∧t≤100000) (hn:n≤100):zq t (z0Y P n)=true:=by
 simp only [zq,Bool.and_eq_true,decide_eq_true_eq,List.all_eq_true];refine ⟨⟨by simp only [wtB,decide_eq_true_eq];exact ht,by rw [z1A];exact hn⟩,fun x hx=>?_⟩;unfold z0Y at hx;obtain ⟨i,_,rfl⟩:=List.mem_map.1 hx;simp only [wtB,decide_eq_true_eq]
 split <;> omega
theorem z9a (P:Nat→Bool) (n:Nat):zG (z0Y P n) P n=List.replicate (zi P n).length 1:=by
 apply List.ext_getElem (by simp [zG]);intro p h1 h2;have hp:p < (zi P n).length:=(by simpa [zG] using h1);have hg:=z2F hp;have e:(zG (z0Y P n) P n)[p]=(zG (z0Y P n) P n).getD p 0:=(by simp [List.getD,h1]);rw [e,z35 hp,z5j hg.1,if_pos hg.2];simp
theorem zg4 (m:Nat):wts (List.replicate m (0:Int))=List.replicate m 1:=by
 unfold wts
 rw [if_pos (by induction m with
  | zero=>rfl
  | succ m ih=>rw [List.replicate_succ,List.sum_cons,ih];rfl)]
 simp
theorem zh7 (m:Nat):wts (List.replicate m (1:Int))=List.replicate m 1:=by
 unfold wts
 split
 ·simp
 ·rfl
theorem z8y {t:Int} (P:Nat→Bool) {n:Nat} (ht:0≤t∧t≤100000) (hn:n≤100) (h0:0 < (zi P n).length) :
  zo t (List.replicate (zi P n).length 0)=zG (zo t (z0Y P n)) P n:=by
 have hok:=z7c P (n:=n) ht hn
 have hz:∀ i,i < (z0Y P n).length→P i=false→(z0Y P n).getD i 0=0:=fun i hi hP=>by
  rw [z1A] at hi;rw [z5j hi,if_neg (by rw [hP];simp)]
 have hnl:(zi P n).length≤n:=(by unfold zi;have:=List.length_filter_le P (List.range n);simpa using this)
 have hsum:(z0Y P n).sum=((zi P n).length:Int):=by
  have:=z4a (l:=z0Y P n) (P:=P) (z0Y P n).length (Nat.le_refl _) hz;rw [z1b,z1A,z9a,z5b] at this;exact this.symm
 have h1:=(z9Z hok hz (by rw [hsum];omega)).2;rw [z1A,z9a] at h1;rw [← h1]
 have hok0:zq t (List.replicate (zi P n).length 0)=true:=by
  simp only [zq,Bool.and_eq_true,decide_eq_true_eq,List.all_eq_true];exact ⟨⟨by simp only [wtB,decide_eq_true_eq];exact ht,by simp;omega⟩,fun x hx=>by rw [List.eq_of_mem_replicate hx];rfl⟩
 have hok1:zq t (List.replicate (zi P n).length 1)=true:=by
  simp only [zq,Bool.and_eq_true,decide_eq_true_eq,List.all_eq_true];exact ⟨⟨by simp only [wtB,decide_eq_true_eq];exact ht,by simp;omega⟩,fun x hx=>by rw [List.eq_of_mem_replicate hx];rfl⟩
 rw [z2m hok0 (by rw [← List.length_pos_iff];simpa using h0),z2m hok1 (by rw [← List.length_pos_iff];simpa using h0),zg4,zh7]
def z1o (a b:List Int):List Int:=List.zipWith (·+·) a b
def z0j (l:List Int) (js:List Nat) (g:List Int):Nat→List Int
 | 0=>l
 | k+1=>(z0j l js g k).set (js.getD k 0) ((z0j l js g k).getD (js.getD k 0) 0+g.getD k 0)
theorem z3S (l:List Int) (js:List Nat) (g:List Int):∀ k,(z0j l js g k).length=l.length
 | 0=>rfl
 | k+1=>by rw [z0j,List.length_set];exact z3S l js g k
theorem z6h (l:List Int) (js:List Nat) (g:List Int) {i:Nat}:∀ k,(∀ p,p < k→js.getD p 0 ≠ i)→(z0j l js g k).getD i 0=l.getD i 0
 | 0,_=>rfl
 | k+1,h=>by
  rw [z0j];simp only [List.getD,List.getElem?_set_ne (show js[k]?.getD 0 ≠ i from h k (by omega))];exact z6h l js g k (fun p hp=>h p (by omega))
theorem za0 {l:List Int} {P:Nat→Bool} {n:Nat} (hn:n≤l.length) (g:List Int) {p:Nat}:∀ k,k≤(zi P n).length→p < k→(z0j l (zi P n) g k).getD ((zi P n).getD p 0) 0=l.getD ((zi P n).getD p 0) 0+g.getD p 0
 | k+1,hk,hp=>by
  have hkl:k < (zi P n).length:=(by omega);have ek:(zi P n).getD k 0=(zi P n)[k]:=(by simp [List.getD,hkl]);have hpl:p < (zi P n).length:=(by omega);have ep:(zi P n).getD p 0=(zi P n)[p]:=(by simp [List.getD,hpl]);rw [z0j];by_cases e:p=k
  ·subst e;have hlt:(zi P n).getD p 0 < (z0j l (zi P n) g p).length:=(by rw [z3S,ep];have:=(z2F hpl).1;omega)
   have ho:=z6h l (zi P n) g (i:=(zi P n).getD p 0) p (fun q hq=>by
    have hql:q < (zi P n).length:=(by omega);have:=z2y hql hpl hq;rw [ep,show (zi P n).getD q 0=(zi P n)[q] by simp [List.getD,hql]]
    omega)
   rw [ho];generalize (zi P n).getD p 0=j at hlt;simp only [List.getD,List.getElem?_set_self hlt,Option.getD_some]
  ·have hne:(zi P n).getD k 0 ≠ (zi P n).getD p 0:=by
    have:=z2y hpl hkl (by omega);rw [ek,ep];omega
   have ih:=za0 (P:=P) hn g (p:=p) k (by omega) (by omega);rw [← ih];generalize (zi P n).getD k 0=j at hne;generalize (zi P n).getD p 0=i at hne;simp only [List.getD,List.getElem?_set_ne hne]
theorem zbq {l zN:List Int} {P:Nat→Bool} (hl:zN.length=l.length) (hz:∀ i,i < l.length→P i=false→zN.getD i 0=0):z0j l (zi P l.length) (zG zN P l.length) (zi P l.length).length=z1o l zN:=by
 have hlen:(z0j l (zi P l.length) (zG zN P l.length) (zi P l.length).length).length=(z1o l zN).length:=(by rw [z3S,z1o,List.length_zipWith,hl];omega);apply List.ext_getElem hlen;intro i h1 h2;have hi:i < l.length:=(by rw [z3S] at h1;exact h1);have hm:i < zN.length:=(by omega);have e1:(z0j l (zi P l.length) (zG zN P l.length) (zi P l.length).length)[i]=(z0j l (zi P l.length) (zG zN P l.length) (zi P l.length).length).getD i 0:=(by simp [List.getD,h1]);have e2:(z1o l zN)[i]=l.getD i 0+zN.getD i 0:=(by simp [z1o,List.getD,hi,hm]);rw [e1,e2]
 cases hP:P i with
 | false =>
  rw [hz i hi hP,z6h l _ _ _ (fun p hp e=>by
   have:=(z2F hp).2;rw [show (zi P l.length).getD p 0=(zi P l.length)[p] by simp [List.getD,hp]] at e;rw [e,hP] at this
   cases this)]
  omega
 | true =>
  have hmem:i ∈ zi P l.length:=(by unfold zi;rw [List.mem_filter];exact ⟨List.mem_range.2 hi,hP⟩);obtain ⟨p,hp,hpe⟩:=List.getElem_of_mem hmem;have hd:(zi P l.length).getD p 0=i:=(by simp [List.getD,hp,hpe]);have:=za0 (l:=l) (P:=P) (n:=l.length) (Nat.le_refl _) (zG zN P l.length) (p:=p) (zi P l.length).length (Nat.le_refl _) hp;rw [hd,z35 hp,hpe] at this;exact this
theorem zbs {l:List Int} {x:GC} {c m:Nat} (hc:x.col=c) (hm:x.cols=m):∀ k,k≤l.length→(z2z l (z2u x) k).length=min m (k - c)∧(z2z l (z2u x) k).sum=zv l (min k (c+m)) - zv l (min k c)
 | 0,_=>by simp [z2z,zv]
 | k+1,hk=>by
  obtain ⟨h1,h2⟩:=zbs (l:=l) hc hm k (by omega);by_cases hin:c≤k∧k < c+m
  ·have e:z2u x k=true:=(by simp [z2u,z1I,hc,hm];omega);rw [zbj e,List.length_append,List.sum_append,h1,h2];have e1:min (k+1) (c+m)=k+1:=(by omega);have e2:min k (c+m)=k:=(by omega);have e3:min (k+1) c=c:=(by omega);have e4:min k c=c:=(by omega);rw [e1,e2,e3,e4,z18 (by omega)];simp;omega
  ·have e:z2u x k=false:=(by simp [z2u,z1I,hc,hm];omega);rw [zcK e,h1,h2];have e1:min (k+1) (c+m)=min k (c+m)∨min (k+1) c=k+1:=(by omega);by_cases hkc:k < c
   ·have a1:min (k+1) (c+m)=k+1:=(by omega);have a2:min k (c+m)=k:=(by omega);have a3:min (k+1) c=k+1:=(by omega);have a4:min k c=k:=(by omega);rw [a1,a2,a3,a4];omega
   ·have a1:min (k+1) (c+m)=min k (c+m):=(by omega);have a3:min (k+1) c=min k c:=(by omega);rw [a1,a3];omega
def zbt (x:GC):GC:=⟨0,x.row,0,x.rows,0⟩
theorem zh8 {x:GC} (h:GOk x):GOk (zbt x):=by
 obtain ⟨a,b,c,d,e⟩:=h;exact ⟨⟨by show (-9223372036854775808:Int)≤0;omega,by show (0:Int) < 9223372036854775808;omega⟩,a,⟨by show (-9223372036854775808:Int)≤0;omega,by show (0:Int) < 9223372036854775808;omega⟩,c,⟨by show (-9223372036854775808:Int)≤0;omega,by show (0:Int) < 9223372036854775808;omega⟩⟩
def z6i (l:List Int) (x:GC):Int:=z2N l 0 (zbt x)
theorem zc4 (v:Value) (l:List Int) (hl:l.length≤1048576) (x:GC) (hx:GOk x) (w:World) (h:zH w v l) :
  Calls Tryz.prog 28 #[v,.agg #[.int .i64 x.row,.int .i64 x.col,.int .i64 x.rows,.int .i64 x.cols,.int .i64 x.ins]] w fun e w'=>e=.returned (.int .i64 (z6i l x))∧Below w.heap.size w w':=by
 obtain ⟨a,cap,rfl,hlen⟩:=h.form;have KC:=Hd (fun W=>z7y (.slice a l.length cap) l hl 0 (zbt x) (zh8 hx) W);have K0:=ze (Below.refl w.heap.size w) (.cells #[.int .i64 x.row,.int .i64 x.col,.int .i64 x.rows,.int .i64 x.cols,.int .i64 x.ins] 59);have HK:=Hd K0;have H:=Hd (h.kept K0);clear h hx K0;go_enter Tryz.func28,Tryz.ntmps28;go_wp2_with fail
 refine (KC.out _ H.out).mono ?_;rintro e w1 ⟨rfl,hb1⟩;have HK1:=Hd (zh HK.out hb1);have HV:Hid (z2N l 0 (zbt x)=z6i l x):=rfl;rw [HV.out];clear hb1 H HK;go_wp2;go_ret;exact ⟨rfl,HK1.out⟩
def z2O (w:World) (z:Nat) (v:Value) (ls:List (List ByteArray)):Prop:=At w z v ls.length 1 (fun i b o=>∃ u,w.cell? ⟨b,o,none⟩=some u∧z29 w z u (ls.getD i []))
theorem z29.base {w:World} {z z':Nat} {v:Value} {ss:List ByteArray} (h:z29 w z v ss) (hz:z'≤z):z29 w z' v ss:=At.mono h (Nat.le_refl _) hz (fun _ _ _ _ _ _ he=>he)
theorem z2O.since {w w':World} {z:Nat} {v:Value} {ls:List (List ByteArray)} (h:z2O w z v ls) (k:z08 z w w'):z2O w' z v ls :=
 At.mono h k.size (Nat.le_refl _) (fun _ _ _ _ hb hz ⟨u,h1,h2⟩=>⟨u,(k.cell hz hb _).trans h1,h2.since k⟩)
theorem z2O.kept {w w':World} {z:Nat} {v:Value} {ls:List (List ByteArray)} (h:z2O w z v ls) (k:Below w.heap.size w w'):z2O w' z v ls:=h.since (.of_below k)
theorem z2O.base {w:World} {z z':Nat} {v:Value} {ls:List (List ByteArray)} (h:z2O w z v ls) (hz:z'≤z):z2O w z' v ls:=At.mono h (Nat.le_refl _) hz (fun _ _ _ _ _ _ ⟨u,h1,h2⟩=>⟨u,h1,h2.base hz⟩)
theorem z2O.get {w:World} {z:Nat} {v:Value} {ls:List (List ByteArray)} (h:z2O w z v ls) {i:Nat} (hi:i < ls.length):∃ b off cap u,v=.slice (some ⟨b,off,none⟩) ls.length cap∧ls.length≤cap∧cap≤maxLen∧b < w.heap.size∧w.cell? ⟨b,off+i,none⟩=some u∧z29 w z u (ls.getD i []):=by
 obtain ⟨b,off,cap,e,h1,h2,h3,u,h4,h5⟩:=At.get h hi;rw [Nat.mul_one] at h4;exact ⟨b,off,cap,u,e,h1,h2,h3,h4,h5⟩
def z5C (w:World) (z:Nat) (us:List Value) (ls:List (List ByteArray)):Prop:=us.length=ls.length∧∀ i,i < ls.length→z29 w z (us.getD i (.slice none 0 0)) (ls.getD i [])
theorem z5C.nil (w:World) (z:Nat):z5C w z [] []:=⟨rfl,fun i hi=>absurd hi (Nat.not_lt_zero i)⟩
theorem z5C.since {w w':World} {z:Nat} {us:List Value} {ls:List (List ByteArray)} (h:z5C w z us ls) (k:z08 z w w'):z5C w' z us ls:=⟨h.1,fun i hi=>(h.2 i hi).since k⟩
theorem z5C.next {w:World} {z:Nat} {us:List Value} {ls:List (List ByteArray)} (h:z5C w z us ls) {u:Value} {l:List ByteArray} (hu:z29 w z u l):z5C w z (us ++ [u]) (ls ++ [l]):=by
 refine ⟨by rw [List.length_append,List.length_append,h.1];rfl,fun i hi=>?_⟩;rw [List.length_append,List.length_singleton] at hi
 rcases Nat.lt_or_ge i ls.length with h1 | h1
 ·have e1:(us ++ [u]).getD i (.slice none 0 0)=us.getD i (.slice none 0 0):=by
   rw [List.getD_eq_getElem?_getD,List.getElem?_append_left (by rw [h.1];exact h1),← List.getD_eq_getElem?_getD]
  have e2:(ls ++ [l]).getD i []=ls.getD i []:=by
   rw [List.getD_eq_getElem?_getD,List.getElem?_append_left h1,← List.getD_eq_getElem?_getD]
  rw [e1,e2];exact h.2 i h1
 ·obtain rfl:i=ls.length:=by omega
  have e1:(us ++ [u]).getD ls.length (.slice none 0 0)=u:=by
   rw [List.getD_eq_getElem?_getD,List.getElem?_append_right (by rw [h.1];omega),h.1,Nat.sub_self];rfl
  have e2:(ls ++ [l]).getD ls.length []=l:=by
   rw [List.getD_eq_getElem?_getD,List.getElem?_append_right (Nat.le_refl _),Nat.sub_self];rfl
  rw [e1,e2];exact hu
theorem zhH:(Tryz.prog.info? 100).map (fun i=>(i.zero,i.size,i.bytes))=some (some (Value.slice none 0 0),1,24):=by kernel_rfl
theorem zeF {w:World} {B:Nat} {v:Value} {l:List ByteArray} (h:z28 w B v l) (hs:∀ x ∈ l,x.size≤maxLen):z29 w B v l:=by
 unfold z29
 rcases h with ⟨rfl,rfl⟩ | ⟨g,cap,cur,hv,hb,hg,h1,h2,h3,h4⟩
 ·exact ⟨none,0,rfl,Nat.le_refl _,Nat.zero_le _,fun i hi=>absurd hi (Nat.not_lt_zero _)⟩
 ·refine ⟨some ⟨g,0,none⟩,cap,hv,h1,h2,fun i hi=>⟨g,0,rfl,(bL hg),hb,?_,?_⟩⟩
  ·rw [Nat.zero_add,Nat.mul_one,zf hg,h4 i hi];rfl
  ·have:=hs l[i] (List.getElem_mem hi)
   simpa [List.getD,hi] using this
theorem z28.grown {w w':World} {B base:Nat} {v U:Value} {l:List ByteArray} {m:Nat} {xs:List Value} (h:z28 w B v l) (hU:w.ownsRow base 100 1 U m xs) (k:w.grownBy w' U.ownBlock):z28 w' B v l:=by
 rcases h with h | ⟨g,cap,cur,hv,hb,hg,r⟩
 ·exact .inl h
 ·exact .inr ⟨g,cap,cur,hv,hb,z03 hg k (z07 (zk hU hg (by decide))),r⟩
def z2o (w:World) (B:Nat) (us:List Value) (ls:List (List ByteArray)):Prop:=us.length=ls.length∧∀ i,i < ls.length→z28 w B (us.getD i (.slice none 0 0)) (ls.getD i [])
theorem z2o.nil (w:World) (B:Nat):z2o w B [] []:=⟨rfl,fun i hi=>absurd hi (Nat.not_lt_zero i)⟩
theorem z2o.kept {w w':World} {B:Nat} {us:List Value} {ls:List (List ByteArray)} (h:z2o w B us ls) (k:Below w.heap.size w w'):z2o w' B us ls:=⟨h.1,fun i hi=>(h.2 i hi).below k (Nat.le_refl _)⟩
theorem z2o.grown {w w':World} {B base:Nat} {U:Value} {us:List Value} {ls:List (List ByteArray)} {m:Nat} {xs:List Value} (h:z2o w B us ls) (hU:w.ownsRow base 100 1 U m xs) (k:w.grownBy w' U.ownBlock):z2o w' B us ls:=⟨h.1,fun i hi=>(h.2 i hi).grown hU k⟩
theorem z2o.next {w:World} {B:Nat} {us:List Value} {ls:List (List ByteArray)} (h:z2o w B us ls) {u:Value} {l:List ByteArray} (hu:z28 w B u l):z2o w B (us ++ [u]) (ls ++ [l]):=by
 refine ⟨by rw [List.length_append,List.length_append,h.1];rfl,fun i hi=>?_⟩;rw [List.length_append,List.length_singleton] at hi
 rcases Nat.lt_or_ge i ls.length with h1 | h1
 ·have e1:(us ++ [u]).getD i (.slice none 0 0)=us.getD i (.slice none 0 0):=by
   rw [List.getD_eq_getElem?_getD,List.getElem?_append_left (by rw [h.1];exact h1),← List.getD_eq_getElem?_getD]
  have e2:(ls ++ [l]).getD i []=ls.getD i []:=by
   rw [List.getD_eq_getElem?_getD,List.getElem?_append_left h1,← List.getD_eq_getElem?_getD]
  rw [e1,e2];exact h.2 i h1
 ·obtain rfl:i=ls.length:=by omega
  have e1:(us ++ [u]).getD ls.length (.slice none 0 0)=u:=by
   rw [List.getD_eq_getElem?_getD,List.getElem?_append_right (by rw [h.1];omega),h.1,Nat.sub_self];rfl
  have e2:(ls ++ [l]).getD ls.length []=l:=by
   rw [List.getD_eq_getElem?_getD,List.getElem?_append_right (Nat.le_refl _),Nat.sub_self];rfl
  rw [e1,e2];exact hu
theorem z2o.lls {w:World} {B base z:Nat} {v:Value} {us:List Value} {ls:List (List ByteArray)} (h:z2o w B us ls) (hO:w.ownsRow base 100 1 v us.length us) (hz:z≤base) (hzB:z≤B) (hs:∀ l ∈ ls,∀ x ∈ l,x.size≤maxLen):z2O w z v ls:=by
 unfold z2O;have hul:=h.1
 rcases hO.2 with ⟨hv,h0⟩ | ⟨g,cap,cur,hv,hb,hg,h1,h2,h3,h4⟩
 ·exact ⟨none,0,by rw [← hul,h0];exact hv,by omega,Nat.zero_le _,fun i hi=>by omega⟩
 ·refine ⟨some ⟨g,0,none⟩,cap,by rw [← hul];exact hv,by omega,h2,fun i hi=>⟨g,0,rfl,(bL hg),by omega,us.getD i (.slice none 0 0),?_,?_⟩⟩
  ·have:cur.toList[i]?=us[i]?:=(by rw [← h4,List.getElem?_take_of_lt (by omega)]);rw [Nat.zero_add,Nat.mul_one,zf hg,← Array.getElem?_toList,this];simp [List.getD,show i < us.length by omega]
  ·have hl:ls.getD i []=ls[i]:=(by simp [List.getD,hi]);exact (zeF (h.2 i hi) (by rw [hl];exact hs _ (List.getElem_mem hi))).base hzB
end
section
open Go.RowKit
section
variable {P:Program} {ops:Array Oper} {C:World→Prop}
def z6j (ops:Array Oper) (z:Nat):Bool:=(List.range z).all fun i=>(List.range (z+1)).any fun j=>decide (i < j) && z89 ops j i
theorem z6Y {z:Nat} {L:Nat→Bool} (hs:z6j ops z=true) (hc:z2s ops L) {o:Oper} (ho:ops[z]?=some o) (ha:∀ e ∈ o.after,Region.binds .any e=true→L e.on=true):∀ n i,z - i≤n→i < z→L i=true
 | 0,i,h,hi=>by omega
 | n+1,i,h,hi=>by
  have h1:=List.all_eq_true.1 hs i (List.mem_range.2 hi);obtain ⟨j,hj,h2⟩:=List.any_eq_true.1 h1;have hjz:=List.mem_range.1 hj;rw [Bool.and_eq_true] at h2;obtain ⟨h3,h4⟩:=h2;have h3:=of_decide_eq_true h3;by_cases e:j=z
  ·subst e;unfold z89 at h4;rw [ho] at h4;simp only [Option.map_some,Option.getD_some,List.any_eq_true,Bool.and_eq_true,beq_iff_eq] at h4;obtain ⟨e,he1,he2,he3⟩:=h4;have:=ha e (by simpa using he1) he2
   rwa [he3] at this
  ·have hLj:=z6Y hs hc ho ha n j (by omega) (by omega)
   cases hLi:L i with
   | true=>rfl
   | false=>rw [hc j i h4 hLi] at hLj;cases hLj
theorem z4O {listed:Array Bool} {j:Nat} (h:z2s ops (fun k=>listed.getD k false)) (hj:j ∈ Region.ready .any ops listed):z2s ops (fun k=>(listed.setIfInBounds j true).getD k false):=by
 obtain ⟨h0,o,ho,ha⟩:=mem_ready.1 hj
 have hlt:j < listed.size:=by
  rcases Nat.lt_or_ge j listed.size with h' | h'
  ·exact h'
  ·rw [Array.getD_eq_getD_getElem?,Array.getElem?_eq_none h'] at h0
   cases h0
 rw [z87 hlt];exact h.next ho ha
def z6Z (P:Program) (ops:Array Oper) (C:World→Prop) (z:Nat) (R:Act→Prop):Nat→Array Bool→Act→Prop
 | 0,_,_=>False
 | fuel+1,listed,a=>Region.ready .any ops listed ≠ []∧∀ i ∈ Region.ready .any ops listed,if i=z then (fuel=0∧Region.ready .any ops (listed.setIfInBounds z true)=[]∧R a) else qOp P ops C i (z6Z P ops C z R fuel (listed.setIfInBounds i true)) a
theorem z8B {Q:Exit→Act→World→Prop} {R:Act→Prop} {z:Nat} (hR:∀ a w,C w→R a→wpOp P ops Q z (fun a' w'=>Q .normal a' w') a w):∀ (fuel:Nat) (listed:Array Bool) (a:Act) (w:World),C w→z6Z P ops C z R fuel listed a→wpAny P .any ops Q fuel listed a w
 | 0,_,_,_,_,h=>h.elim
 | fuel+1,listed,a,w,hw,h=>⟨fun h0=>absurd h0 h.1,fun i hi=>by
   have h2:=h.2 i hi;by_cases hz:i=z
   ·rw [if_pos hz] at h2;obtain ⟨h3,hr,hRa⟩:=h2;subst h3;subst hz;exact wpOp_mono (fun a' w' h'=>⟨hr,h'⟩) (hR a w hw hRa)
   ·rw [if_neg hz] at h2;exact wpOp_of_qOp hw (fun a' w' hw'=>z8B hR fuel _ a' w' hw') h2⟩
theorem zbu {R:Act→Prop} {z i:Nat} {oi:Oper} {v:Value} (hs:z6j ops z=true) (hi:ops[i]?=some oi) (hiz:i < z) (hsel:∀ (j:Nat) (o:Oper) cs b,ops[j]?=some o→o.op ≠ .select cs b) :
  ∀ (fuel:Nat) (listed:Array Bool) (a:Act),z2s ops (fun k=>listed.getD k false) →
   (∀ j oj,ops[j]?=some oj→j ≠ i→listed.getD j true=false→(∀ e ∈ oj.after,Region.binds .any e=true→e.on ≠ i)→oi.apart ops oj=true) →
   i ∈ Region.ready .any ops listed→YieldsIn P ops C oi v a →
   z6Z P ops C z R fuel (listed.setIfInBounds i true) (a.put oi.dst v)→z6Z P ops C z R (fuel+1) listed a:=by
 intro fuel
 induction fuel with
 | zero=>intro listed a _ _ _ _ H;exact H.elim
 | succ fuel ih =>
  intro listed a hcl hfree hr hy H;refine ⟨fun h=>(by rw [h] at hr;cases hr),fun j hj=>?_⟩;by_cases hji:j=i
  ·rw [if_neg (by omega)];subst hji;exact hy.qOp hi H
  ·have hjz:j ≠ z:=fun e=>by
    subst e;obtain ⟨_,o,ho,ha⟩:=mem_ready.1 hj;have h1:=z6Y hs hcl ho ha _ i (Nat.le_refl _) hiz;have h0:=(mem_ready.1 hr).1
    rcases Nat.lt_or_ge i listed.size with h' | h'
    ·simp [h'] at h0 h1;rw [h0] at h1;cases h1
    ·simp [Array.getElem?_eq_none h'] at h1
   rw [if_neg hjz];have h1:=H.2 j (ready_mono hj hji);rw [if_neg hjz] at h1;obtain ⟨hjun,oj,hoj,hall⟩:=mem_ready.1 hj
   have hnot:∀ e ∈ oj.after,Region.binds .any e=true→e.on ≠ i:=fun e he hb heq=>by
    have h1:=hall e he hb;have h0:=(mem_ready.1 hr).1;rw [heq] at h1
    rcases Nat.lt_or_ge i listed.size with h' | h'
    ·simp [h'] at h0 h1;rw [h0] at h1;cases h1
    ·simp [Array.getElem?_eq_none h'] at h1
   have h2:=qOp_put hoj (hfree j oj hoj hji hjun hnot) (fun cs b=>hsel i oi cs b hi) (fun cs b=>hsel j oj cs b hoj) hy h1
   have hfree':∀ k ok,ops[k]?=some ok→k ≠ i→(listed.setIfInBounds j true).getD k true=false →
     (∀ e ∈ ok.after,Region.binds .any e=true→e.on ≠ i)→oi.apart ops ok=true:=fun k ok hk hki hun hno=>by
    refine hfree k ok hk hki ?_ hno;by_cases hjk:j=k
    ·subst hjk;exact hjun
    ·rw [getD_set_ne true hjk] at hun;exact hun
   refine qOp_mono (fun a' h3=>ih (listed.setIfInBounds j true) a' (z4O hcl hj) hfree' (ready_mono hr (Ne.symm hji)) h3.1 ?_) h2;rw [Array.setIfInBounds_comm _ _ hji];exact h3.2
theorem z8C {R:Act→Prop} {z:Nat} (hns:Region.noSelect ops=true) (hs:z6j ops z=true):∀ (l:List Oper) (k:Nat) (listed:Array Bool) (a:Act),k+l.length=z→(∀ j,j < l.length→l[j]?=ops[k+j]?)→z2s ops (fun k=>listed.getD k false) →
  Region.lexFrom .any ops (l.length+1) k listed=true→wpQuiet P ops C R l a→z6Z P ops C z R (l.length+1) listed a
 | [],k,listed,a,hk,_,_,hB,h=>by
  simp only [List.length_nil,Region.lexFrom,Bool.and_eq_true] at hB;obtain ⟨⟨hr,_⟩,he⟩:=hB;have hk':k=z:=(by simpa using hk);subst hk';have hr':k ∈ Region.ready .any ops listed:=(by simpa using hr);have he':Region.ready .any ops (listed.setIfInBounds k true)=[]:=(by simpa using he);refine ⟨fun h=>(by rw [h] at hr';cases hr'),fun i hi=>?_⟩;by_cases hik:i=k
  ·rw [if_pos hik];exact ⟨rfl,he',h⟩
  ·have:=ready_mono hi hik;rw [he'] at this
   cases this
 | o :: l,k,listed,a,hk,hl,hcl,hB,h=>by
  have h0:ops[k]?=some o:=(by simpa using (hl 0 (by simp)).symm);simp only [List.length_cons] at hk hB ⊢;rw [Region.lexFrom] at hB;simp only [Bool.and_eq_true] at hB;obtain ⟨⟨hr,hf⟩,hB'⟩:=hB;have hr':k ∈ Region.ready .any ops listed:=(by simpa using hr);have hst:qOp P ops C k (wpQuiet P ops C R l) a:=(by unfold qOp;simp only [h0];exact h);obtain ⟨v,hy,hK⟩:=yieldsIn_of_qOp h0 hst
  exact zbu hs h0 (by omega) (Region.noSelect_spec hns) (l.length+1) listed a hcl (Region.free_spec h0 hf) hr' hy
   (z8C hns hs l (k+1) _ _ (by omega) (fun j hj=>by have:=hl (j+1) (by simpa using hj);simpa [Nat.add_assoc,Nat.add_comm 1 j] using this) (z4O hcl hr') hB' hK)
end
theorem z1B {P:Program} {id:Nat} {Q:Exit→Act→World→Prop} {a:Act} {w:World} {l:List Oper} (n:Nat) {o:Oper} (hm:P.follows .mixedOrders=true) (hl:l.length=n+1) (ho:l[n]?=some o) (hB:Region.lexB .any l.toArray=true) (hs:z6j l.toArray n=true)
  (h:wpQuiet P l.toArray (fun w'=>∃ p:BW w,w'=p.u) (fun a'=>∀ w',(∃ p:BW w,w'=p.u)→if Region.wanted o (yielded l.toArray a'.tmps)=true then o.wp P a' w' (fun a w=>Q .normal a w) Q else Q .normal (a'.put o.dst undef) w') (l.take n) a):(Code.region id l.toArray true).wp P Q a w:=by
 simp only [Region.lexB,Bool.and_eq_true] at hB;have hlt:(l.take n).length=n:=(by rw [List.length_take];omega);refine wp_region_any hm (z8B (C:=fun w'=>∃ p:BW w,w'=p.u) (z:=n) (R:=fun a'=>∀ w',(∃ p:BW w,w'=p.u)→if Region.wanted o (yielded l.toArray a'.tmps)=true then o.wp P a' w' (fun a w=>Q .normal a w) Q else Q .normal (a'.put o.dst undef) w') ?_ _ _ _ _ ⟨⟨_,z1U (Below.refl _ _)⟩,rfl⟩ ?_)
 ·intro a' w' hw' hR;have h1:=hR w' hw';unfold wpOp;rw [show l.toArray[n]?=some o by simpa using ho];dsimp only
  split
  ·rename_i hw;rw [if_pos hw] at h1;exact .inl h1
  ·rename_i hw;rw [if_neg hw] at h1;exact h1
 ·have:=z8C (P:=P) (C:=fun w'=>∃ p:BW w,w'=p.u) hB.1 hs (l.take n) 0 (Array.replicate l.toArray.size false) a (by omega) (fun j hj=>by rw [hlt] at hj;simp [hj]) (fun j i _ _=>by
   show (Array.replicate l.toArray.size false).getD j false=false;rw [Array.getD_eq_getD_getElem?,Array.getElem?_replicate]
   split <;> rfl) (by rw [hlt,← hl];simpa using hB.2) h
  rw [hlt,← hl] at this
  simpa using this
end
section
open Go.RowKit
theorem z8H (v:Value) (ps:List (Int × Int)) (q:Int) (w:World) {z:Nat} (h:zX w z v ps) :
  Calls Tryz.prog 109 #[v,.int .i64 q] w fun e w'=>e=.returned (.agg #[.int .i64 (sd ps q).1,.int .i64 (sd ps q).2])∧Below w.heap.size w w':=by
 obtain ⟨a,cap,rfl,hlen⟩:=At.form h;have HI:=Hd (zw q 0 ((ps.length:Int) - 1));unfold maxLen at hlen
 cases hin:inB q 0 ((ps.length:Int) - 1) with
 | false =>
  rw [hin] at HI;rw [zat hin];clear hin h;go_enter Tryz.func109,Tryz.ntmps109;go_wp2_with fail
  refine (HI.out _).mono ?_;rintro e w1 ⟨rfl,rfl⟩;go_wp2;exact bodyPost_ret (v:=.agg #[.int .i64 0,.int .i64 0]) (by simp [results,Tryz.results109,go_sem]) rfl ⟨rfl,by repeat (first | exact Below.refl _ _ | apply ze)⟩
 | true =>
  rw [hin] at HI;have hk:0≤q∧q≤(ps.length:Int) - 1:=(by simpa [inB] using hin);clear hin;obtain ⟨k,rfl⟩:=Int.eq_ofNat_of_zero_le hk.1;have hkl:k < ps.length:=(by omega);rw [z8x hkl];obtain ⟨b,off,cap',e',hc1,hc2,hbl,hx0,hx1⟩:=At.get h hkl;simp only [Value.slice.injEq,true_and] at e';obtain ⟨rfl,rfl⟩:=e';unfold maxLen at hc2;generalize ps.getD k (0,0)=p at hx0 hx1 ⊢;clear h;go_enter Tryz.func109,Tryz.ntmps109;go_wp2_with fail
  refine (HI.out _).mono ?_;rintro e w1 ⟨rfl,rfl⟩;go_wp2;exact bodyPost_ret (v:=.agg #[.int .i64 p.1,.int .i64 p.2]) (by simp [results,Tryz.results109,go_sem]) rfl ⟨rfl,by repeat (first | exact Below.refl _ _ | apply ze)⟩
theorem zhI (a b:Value) (W:World):(Instr.field 90 (.agg #[a,b]) 0).run Tryz.prog W=.ok a W:=by
 kernel_rfl
end
section
open Go.RowKit Go.Shelf Go.Lib Go.Sort
theorem zc6 (a b:Int) (w:World):Calls Tryz.prog 157 #[.int .i64 a,.int .i64 b] w fun e w'=>e=.returned (.int .i64 (if a < b then -1 else if b < a then 1 else 0))∧w'=w:=by
 have hn:∀ (x:Int) (W:World),Calls Tryz.prog 164 #[.int .i64 x] W fun e w'=>e=.returned (.bool false)∧w'=W:=fun x W=>by
  have hx:(x != x)=false:=(by simp);go_enter Tryz.func164,Tryz.ntmps164;go_wp2;go_ret;exact ⟨rfl,rfl⟩
 by_cases h1:a < b
 ·rw [if_pos h1];go_enter Tryz.func157,Tryz.ntmps157;go_wp2_with (go_at_call 164;refine (hn _ _).mono ?_;rintro e w' ⟨rfl,rfl⟩)
  go_ret;exact ⟨rfl,rfl⟩
 ·rw [if_neg h1];by_cases h2:b < a
  ·rw [if_pos h2];go_enter Tryz.func157,Tryz.ntmps157;go_wp2_with (go_at_call 164;refine (hn _ _).mono ?_;rintro e w' ⟨rfl,rfl⟩)
   go_ret;exact ⟨rfl,rfl⟩
  ·rw [if_neg h2];go_enter Tryz.func157,Tryz.ntmps157;go_wp2_with (go_at_call 164;refine (hn _ _).mono ?_;rintro e w' ⟨rfl,rfl⟩)
   go_ret;exact ⟨rfl,rfl⟩
theorem zg6 (x y:Cl) (W:World):Calls Tryz.prog 141 #[.agg #[.int .i64 x.p,.int .i64 x.w,.int .i64 x.o],.agg #[.int .i64 y.p,.int .i64 y.w,.int .i64 y.o]] W fun e w'=>e=.returned (.int .i64 (cfC x y))∧∃ q os',w'=grow (W.drewN q) os':=by
 have hcon:=fun W'=>zc6 y.o x.o W';have he:cfC x y=(if y.o < x.o then -1 else if x.o < y.o then 1 else 0):=rfl;rw [he];generalize (if y.o < x.o then (-1:Int) else if x.o < y.o then 1 else 0)=r at hcon;go_enter Tryz.func141,Tryz.ntmps141;go_wp2_with (go_at_call 157;refine (hcon _).mono ?_;rintro e w' ⟨rfl,rfl⟩)
 go_ret;exact ⟨rfl,0,_,by rw [alloc_eq_grow,alloc_eq_grow,grow_grow];rfl⟩
theorem zbv (blk off size:Nat) (w:World):CmpLays Tryz.prog 141 #[] z11 3 cfC blk off size w:=fun _ _ _ _ x y=>zg6 x y _
theorem egC:∀ args w,(callFunc 141 args).run Tryz.prog w=.ok (.enter 141 args) w:=enters_of Tryz.func141 (by kernel_rfl) rfl
theorem z6u (lt:Cl→Cl→Bool) (a:Nat):∀ (j:Nat) (d:Array Cl),(insInner lt a j d).size=d.size
 | 0,d=>by unfold insInner;rfl
 | j+1,d=>by
  unfold insInner
  split
  ·rw [z6u lt a j,size_swp]
  ·rfl
theorem z6v (lt:Cl→Cl→Bool) (a b:Nat):∀ (n i:Nat) (d:Array Cl),b - i=n→(insOuter lt a b i d).size=d.size
 | 0,i,d,hn=>by rw [insOuter_stop _ _ _ _ _ (by omega)]
 | n+1,i,d,hn=>by rw [insOuter_go _ _ _ _ _ (by omega),z6v lt a b n (i+1) _ (by omega),z6u]
theorem zg7 (d:Array Cl) (a b:Nat):(Sort.insertionSort (ltOf cfC) d a b).size=d.size:=z6v _ _ _ _ _ _ rfl
shelf_lay_g SlLaysF0.n20 Slsf 20 at Tryz 162 as insC
theorem zhd (blk off cap a b:Nat) (d0 d:Array Cl) (w0 w:World) (R:RowK z11 3 w0 blk off d0) (hs:d0.size=d.size) (S:SWK z11 3 w0 blk off d w) (hab:a≤b) (hb:b≤d.size) (hsz:d.size < 4611686018427387904) :
  Calls Tryz.prog 162 #[.slice (some ⟨blk,off,none⟩) d.size cap,.int .i64 a,.int .i64 b,.func (.func 141) #[] #[]] w fun e w' =>
   e=.returned (.tuple #[])∧SWK z11 3 w0 blk off (Sort.insertionSort (ltOf cfC) d a b) w':=by
 have hbl:blk < w.heap.size:=Nat.lt_of_lt_of_le R.hblk S.le;refine (AnyQ.insertionSortCmpFunc insC 3 Tryz.isAgg183 Tryz.sizeOf183 z11 z7G z7H cfC 141 #[] blk off cap a b d w egC (zbv blk off d.size w) (S.holds R.hblk R.hH (by omega)) hbl hab hb hsz).mono ?_;rintro e w' ⟨rfl,n,os,rfl⟩;exact ⟨rfl,S.on R.hblk n _ os (zg7 d a b)⟩
end
section
open Go.Sort
structure SwR (a b n:Nat) (d d':Array Cl):Prop where
 size:d'.size=d.size
 left:∀ t,t < n→d'[a+t]! = d[b+t]!
 right:∀ t,t < n→d'[b+t]! = d[a+t]!
 rest:∀ t,(t < a∨a+n≤t)→(t < b∨b+n≤t)→d'[t]! = d[t]!
theorem SwR.zero (a b:Nat) (d:Array Cl):SwR a b 0 d d:=⟨rfl,fun _ h=>absurd h (Nat.not_lt_zero _),fun _ h=>absurd h (Nat.not_lt_zero _),fun _ _ _=>rfl⟩
theorem SwR.next {a b i:Nat} {d dk:Array Cl} (h:SwR a b i d dk) (hab:a+i < b) (hb:b+i < d.size):SwR a b (i+1) d (swp dk (a+i) (b+i)):=by
 have hs:=h.size;refine ⟨by rw [size_swp];exact hs,fun t ht=>?_,fun t ht=>?_,fun t h1 h2=>?_⟩
 ·by_cases e:t=i
  ·subst e;rw [swp_left _ _ _ (by omega) (by omega)];exact h.rest _ (by omega) (by omega)
  ·rw [swp_other _ _ _ _ (by omega) (by omega)];exact h.left t (by omega)
 ·by_cases e:t=i
  ·subst e;rw [swp_right _ _ _ (by omega)];exact h.rest _ (by omega) (by omega)
  ·rw [swp_other _ _ _ _ (by omega) (by omega)];exact h.right t (by omega)
 ·rw [swp_other _ _ _ _ (by omega) (by omega)];exact h.rest t (by omega) (by omega)
theorem ix {d:Array Cl} {i j:Nat} (h:i=j):d[i]! = d[j]! := by rw [h]
structure z0r (a m b:Nat) (d d':Array Cl):Prop where
 size:d'.size=d.size
 low:∀ t,a≤t→t < a+(b - m)→d'[t]! = d[t+(m - a)]!
 high:∀ t,a+(b - m)≤t→t < b→d'[t]! = d[t - (b - m)]!
 rest:∀ t,t < a∨b≤t→d'[t]! = d[t]!
theorem z0r.left_none (m b:Nat) (d:Array Cl):z0r m m b d d :=
 ⟨rfl,fun t _ _=>ix (by omega),fun t h1 h2=>by omega,fun _ _=>rfl⟩
theorem z0r.right_none (a m:Nat) (d:Array Cl):z0r a m m d d :=
 ⟨rfl,fun t h1 h2=>by omega,fun t _ _=>ix (by omega),fun _ _=>rfl⟩
theorem z0r.more {m i j:Nat} {d dk f:Array Cl} (hj:j < i) (hi:i≤m) (h:SwR (m - i) m j d dk) (k:z0r (m - i+j) m (m+j) dk f):z0r (m - i) m (m+j) d f:=by
 refine ⟨k.size.trans h.size,fun t h1 h2=>?_,fun t h1 h2=>?_,fun t h1=>?_⟩
 ·rw [k.rest t (by omega),ix (show t=m - i+(t - (m - i)) by omega),h.left _ (by omega)];exact ix (by omega)
 ·by_cases e:t < m - i+j+j
  ·rw [k.low t (by omega) (by omega),ix (show t+(m - (m - i+j))=m+(t+i - j - m) by omega),h.right _ (by omega)];exact ix (by omega)
  ·rw [k.high t (by omega) (by omega),h.rest _ (by omega) (by omega)]
 ·rw [k.rest t (by omega),h.rest t (by omega) (by omega)]
theorem z0r.less {m i j:Nat} {d dk f:Array Cl} (hj:i < j) (hi:i≤m) (h:SwR (m - i) (m+j - i) i d dk) (k:z0r (m - i) m (m+j - i) dk f):z0r (m - i) m (m+j) d f:=by
 refine ⟨k.size.trans h.size,fun t h1 h2=>?_,fun t h1 h2=>?_,fun t h1=>?_⟩
 ·by_cases e:t < m - i+(j - i)
  ·rw [k.low t (by omega) (by omega),h.rest _ (by omega) (by omega)]
  ·rw [k.high t (by omega) (by omega),ix (show t - (m+j - i - m)=m - i+(t - (j - i) - (m - i)) by omega),h.left _ (by omega)];exact ix (by omega)
 ·rw [k.rest t (by omega),ix (show t=m+j - i+(t - (m+j - i)) by omega),h.right _ (by omega)];exact ix (by omega)
 ·rw [k.rest t (by omega),h.rest t (by omega) (by omega)]
theorem z0r.even {m i:Nat} {d f:Array Cl} (hi:i≤m) (h:SwR (m - i) m i d f):z0r (m - i) m (m+i) d f:=by
 refine ⟨h.size,fun t h1 h2=>?_,fun t h1 h2=>?_,fun t h1=>h.rest t (by omega) (by omega)⟩
 ·rw [ix (show t=m - i+(t - (m - i)) by omega),h.left _ (by omega)];exact ix (by omega)
 ·rw [ix (show t=m+(t - m) by omega),h.right _ (by omega)];exact ix (by omega)
theorem z0r.up {a k:Nat} {d dk:Array Cl} (h:z0r a (a+1) (k+1) d dk) (hk:a≤k) (hs:k+1 < d.size):z0r a (a+1) (k+2) d (swp dk k (k+1)):=by
 have hz:=h.size;refine ⟨by rw [size_swp];exact hz,fun t h1 h2=>?_,fun t h1 h2=>?_,fun t h1=>?_⟩
 ·by_cases e:t=k
  ·subst e;rw [swp_left _ _ _ (by omega) (by omega),h.rest _ (by omega)];exact ix (by omega)
  ·rw [swp_other _ _ _ _ (by omega) (by omega),h.low t (by omega) (by omega)]
 ·obtain rfl:t=k+1:=by omega
  rw [swp_right _ _ _ (by omega),h.high k (by omega) (by omega)];exact ix (by omega)
 ·rw [swp_other _ _ _ _ (by omega) (by omega),h.rest t (by omega)]
theorem z0r.down {m k:Nat} {d dk:Array Cl} (h:z0r (k+1) m (m+1) d dk) (hk:k+1≤m) (hs:m < d.size):z0r k m (m+1) d (swp dk (k+1) k):=by
 have hz:=h.size;refine ⟨by rw [size_swp];exact hz,fun t h1 h2=>?_,fun t h1 h2=>?_,fun t h1=>?_⟩
 ·obtain rfl:t=k:=by omega
  rw [swp_right _ _ _ (by omega),h.low (t+1) (by omega) (by omega)];exact ix (by omega)
 ·by_cases e:t=k+1
  ·subst e;rw [swp_left _ _ _ (by omega) (by omega),h.rest k (by omega)];exact ix (by omega)
  ·rw [swp_other _ _ _ _ (by omega) (by omega),h.high t (by omega) (by omega)]
 ·rw [swp_other _ _ _ _ (by omega) (by omega),h.rest t (by omega)]
theorem z0r.perm {a m b:Nat} {d d':Array Cl} (h:z0r a m b d d') (h1:a≤m) (h2:m≤b) (hb:b≤d.size):PermIn a b d d':=by
 refine ⟨h.size,h.rest,?_⟩;rw [extract_toList _ _ _ (by rw [h.size];exact hb),extract_toList _ _ _ hb]
 have e1:(List.range' a (b - a)).map (fun i=>d'[i]!)=(List.range' m (b - m)).map (fun i=>d[i]!) ++ (List.range' a (m - a)).map (fun i=>d[i]!):=by
  apply List.ext_getElem
  ·simp;omega
  ·intro i g1 g2;simp only [List.length_map,List.length_range'] at g1;by_cases e:i < b - m
   ·rw [List.getElem_append_left (by simpa using e)];simp only [List.getElem_map,List.getElem_range'];rw [h.low _ (by omega) (by omega)];exact ix (by omega)
   ·rw [List.getElem_append_right (by simp;omega)];simp only [List.getElem_map,List.getElem_range',List.length_map,List.length_range'];rw [h.high _ (by omega) (by omega)];exact ix (by omega)
 have e2:(List.range' a (b - a)).map (fun i=>d[i]!)=(List.range' a (m - a)).map (fun i=>d[i]!) ++ (List.range' m (b - m)).map (fun i=>d[i]!):=by
  rw [← List.map_append]
  have e3:List.range' a (b - a)=List.range' a (m - a) ++ List.range' m (b - m):=by
   have:=List.range'_append (s:=a) (m:=m - a) (n:=b - m) (step:=1);rw [show a+1 * (m - a)=m by omega,show m - a+(b - m)=b - a by omega] at this;exact this.symm
  rw [e3]
 rw [e1,e2];exact List.perm_append_comm
def zie (a m b:Nat) (d:Array Cl):Prop:=∀ x y,a≤x→x < m→m≤y→y < b→d[x]!.p < d[y]!.p
structure z37 (a m b:Nat) (d:Array Cl):Prop where
 l:SortedIn tB a m d
 r:SortedIn tB m b d
 c:zie a m b d
theorem z4P {d:Array Cl} {a b i j:Nat} (h:SortedIn tB a b d) (h1:a≤i) (h2:i≤j) (h3:j < b):tB d[j]! d[i]! = false:=by
 rcases Nat.lt_or_eq_of_le h2 with h4 | rfl
 ·exact h i j h1 h4 h3
 ·exact z3q.irrefl _
theorem z9b {a i b:Nat} {d d':Array Cl} (h:z37 a (a+1) b d) (hr:z0r a (a+1) i d d') (hi:a+1≤i) (hib:i≤b)
  (h1:a+1 < i→tB d[i - 1]! d[a]! = true) (h2:i < b→tB d[i]! d[a]! = false):SortedIn tB a b d':=by
 have hx:∀ q,a+1≤q→q < i→tB d[a]! d[q]! = false:=fun q g1 g2 =>
  z3q.ntrans _ d[i - 1]! _ (z5e (h1 (by omega))) (z4P h.r g1 (by omega) (by omega))
 have hy:∀ q,i≤q→q < b→tB d[q]! d[a]! = false:=fun q g1 g2 =>
  z3q.ntrans _ d[i]! _ (z4P h.r (by omega) g1 g2) (h2 (by omega))
 intro x y g1 g2 g3;have lo:∀ t,a≤t→t < i - 1→d'[t]! = d[t+1]! := fun t q1 q2=>by rw [hr.low t q1 (by omega)];exact ix (by omega)
 have mi:d'[i - 1]! = d[a]! := by rw [hr.high (i - 1) (by omega) (by omega)];exact ix (by omega)
 have hh:∀ t,i≤t→d'[t]! = d[t]! := fun t q=>hr.rest t (by omega);by_cases e1:y < i - 1
 ·rw [lo x g1 (by omega),lo y (by omega) e1];exact h.r _ _ (by omega) (by omega) (by omega)
 ·by_cases e2:y=i - 1
  ·rw [e2,mi,lo x g1 (by omega)];exact hx _ (by omega) (by omega)
  ·rw [hh y (by omega)];by_cases e3:x < i - 1
   ·rw [lo x g1 e3];exact h.r _ _ (by omega) (by omega) g3
   ·by_cases e4:x=i - 1
    ·rw [e4,mi];exact hy y (by omega) g3
    ·rw [hh x (by omega)];exact h.r _ _ (by omega) g2 g3
theorem z8I {a i m:Nat} {d d':Array Cl} (h:z37 a m (m+1) d) (hr:z0r i m (m+1) d d') (hi:a≤i) (hib:i≤m)
  (h1:a < i→tB d[m]! d[i - 1]! = false) (h2:i < m→tB d[m]! d[i]! = true):SortedIn tB a (m+1) d':=by
 have hx:∀ q,a≤q→q < i→tB d[m]! d[q]! = false:=fun q g1 g2 =>
  z3q.ntrans _ d[i - 1]! _ (h1 (by omega)) (z4P h.l g1 (by omega) (by omega))
 have hy:∀ q,i≤q→q < m→tB d[q]! d[m]! = false:=fun q g1 g2 =>
  z3q.ntrans _ d[i]! _ (z4P h.l hi g1 g2) (z5e (h2 (by omega))) |> fun _=>by
   have t1:=z5e (h2 (by omega))
   cases e:tB d[q]! d[m]!
   ·rfl
   ·have:=z3q.trans _ _ _ e (h2 (by omega));rw [z4P h.l hi g1 g2] at this
    cases this
 intro x y g1 g2 g3;have lo:∀ t,t < i→d'[t]! = d[t]! := fun t q=>hr.rest t (by omega);have mi:d'[i]! = d[m]! := by rw [hr.low i (by omega) (by omega)];exact ix (by omega)
 have hh:∀ t,i < t→t < m+1→d'[t]! = d[t - 1]! := fun t q1 q2=>by rw [hr.high t (by omega) (by omega)];exact ix (by omega)
 by_cases e1:y < i
 ·rw [lo x (by omega),lo y e1];exact h.l _ _ g1 g2 (by omega)
 ·by_cases e2:y=i
  ·rw [e2,mi,lo x (by omega)];exact hx x g1 (by omega)
  ·rw [hh y (by omega) g3];by_cases e3:x < i
   ·rw [lo x e3];exact h.l _ _ g1 (by omega) (by omega)
   ·by_cases e4:x=i
    ·rw [e4,mi];exact hy _ (by omega) (by omega)
    ·rw [hh x (by omega) (by omega)];exact h.l _ _ (by omega) (by omega) (by omega)
end
end Go.Proofs.YtggmjiddadjilaiGreat
