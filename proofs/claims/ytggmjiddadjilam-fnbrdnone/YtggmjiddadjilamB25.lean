/-
  PROVED HERE: how many borders that can be seen the model's BrdShown counts, at a drawn table. Also: 2 more texts of the same proof.
-/
import Derived.Test.YtggmjiddadjilamB24
import Derived.Test.YtggmjiddadjilamB19
set_option maxRecDepth 1000000
set_option maxHeartbeats 40000000
namespace Go.Proofs.Ytggmjiddadjilam
section
open Go.RowKit Go.BigFrame
theorem z4v (ac ar:Option Addr) (cc cr:Nat) (t:T) (hD:z0o t) (w:World) {z:Nat} (hC:zY w z (.slice ac t.cols.length cc) t.cols) (hW:zD w z (.slice ar t.rows.length cr) t.rows) :
  Calls Try.prog 9 #[.agg #[.slice ac t.cols.length cc,.int .i64 t.head,.int .i64 t.foot,.slice ar t.rows.length cr,.int .i64 t.gap]] w fun e w'=>e=.returned (.int .i64 ((z0I (z0y t) (z0y t).length:Nat):Int))∧Below w.heap.size w w':=by
 have HK0:=Hd (zb (Below.refl w.heap.size w) (.cells #[.slice ac t.cols.length cc,.int .i64 t.head,.int .i64 t.foot,.slice ar t.rows.length cr,.int .i64 t.gap] 26));have HX0:=Hd (zf w (.cells #[.slice ac t.cols.length cc,.int .i64 t.head,.int .i64 t.foot,.slice ar t.rows.length cr,.int .i64 t.gap] 26));have HT0:Hid (TA (w.alloc (.cells #[.slice ac t.cols.length cc,.int .i64 t.head,.int .i64 t.foot,.slice ar t.rows.length cr,.int .i64 t.gap] 26)) z ac ar cc cr t):=TA.kept ⟨hC,hW⟩ HK0.out;have KF:=Hd (fun W (h:TA W z ac ar cc cr t)=>z5l ac ar cc cr t hD W h.1 h.2);have hlen:=z4n hD;clear hC hW hD;generalize z0y t=l at KF hlen ⊢;go_enter Try.func9,Try.ntmps9;go_upto_region 1 with fail
 generalize w.alloc (.cells #[.slice ac t.cols.length cc,.int .i64 t.head,.int .i64 t.foot,.slice ar t.rows.length cr,.int .i64 t.gap] 26)=W0 at HK0 HX0 HT0 ⊢;obtain ⟨b0,b1,b2,b3,b4⟩:=z0z HX0.out;go_wp2_with fail
 refine (KF.out _ HT0.out).mono ?_;rintro e W1 ⟨v,rfl,hF,hb1⟩;obtain ⟨av,cv,rfl,_⟩:=At.form hF;have HF:=Hd hF;have HK1:=Hd (ze HK0.out hb1);clear hF hb1 b0 b1 b2 b3 b4 HX0 HK0 HT0 KF;go_wp2_with fail
 go_loopw [4,5] (fun n i W=>∃ k:Nat,k≤l.length∧i=.int .i64 (k:Int)∧n=.int .i64 ((z0I l k:Nat):Int)∧Hid (Below W1.heap.size W1 W)) (fun _ i _=>l.length - (intOf i).toNat)
 case atStart=>exact ⟨0,Nat.zero_le _,rfl,by rw [z3Q];rfl,Below.refl _ _⟩
 case round =>
  obtain ⟨k,hk,rfl,rfl,HB⟩:=hrel;by_cases hlt:k < l.length
  case neg =>
   obtain rfl:k=l.length:=by omega
   have HKe:=Hd (HK1.out.trans (HB.out.mono HK1.out.size));go_wp2;go_ret;exact ⟨rfl,HKe.out⟩
  case pos =>
   obtain ⟨b,off,cap',e',hc1,hc2,hbl,x0,x1,x2⟩:=At.get (HF.out.kept HB.out) hlt;simp only [Value.slice.injEq,true_and] at e';obtain ⟨rfl,rfl⟩:=e';unfold maxLen at hc2;have HN:=Hd (z3R hlt);have hn:=z4T l k;generalize l.getD k dF=x at x0 x1 x2 HN;generalize z0I l k=n at HN hn ⊢;have hlt':(k:Int) < (l.length:Int):=(by omega);have hwn:IntKind.i64.wrap ((n:Int)+1)=((n+1:Nat):Int):=(by rw [IntKind.wrap_i64];omega);have hsb:shB x=inB x.s 1 3:=(by simp [shB,inB]);rw [hsb] at HN;go_wp2_with fail
   refine (z06 x.s 1 3 _).mono ?_;rintro e W5 ⟨rfl,rfl⟩;clear x0 x1 x2 hsb
   cases hi:inB x.s 1 3 with
   | true =>
    have HY:Hid (z0I l (k+1)=n+1):=(by show _=_;rw [HN.out,if_pos hi]);clear hi HN;go_wp2;go_roundw
    case rel=>exact ⟨k+1,by omega,by go_num,by rw [HY.out];rfl,HB⟩
    case measure=>simp [intOf];omega
   | false =>
    have HY:Hid (z0I l (k+1)=n):=(by show _=_;rw [HN.out,if_neg (by rw [hi];simp)];rfl);clear hi HN;go_wp2;go_roundw
    case rel=>exact ⟨k+1,by omega,by go_num,by rw [HY.out],HB⟩
    case measure=>simp [intOf];omega
end
section
open Go.RowKit
theorem z6R {w:World} {g:Nat} {x0 x1 x2 x3 x4 x5 x6 x7 x8 x9 x10:Value} {t:TypeId} (h:w.heap[g]?=some (.cells #[x0,x1,x2,x3,x4,x5,x6,x7,x8,x9,x10] t)) :
  w.cell? ⟨g,0,none⟩=some x0∧w.cell? ⟨g,1,none⟩=some x1∧w.cell? ⟨g,2,none⟩=some x2∧w.cell? ⟨g,3,none⟩=some x3∧w.cell? ⟨g,4,none⟩=some x4∧w.cell? ⟨g,5,none⟩=some x5∧w.cell? ⟨g,6,none⟩=some x6∧w.cell? ⟨g,7,none⟩=some x7∧w.cell? ⟨g,8,none⟩=some x8∧w.cell? ⟨g,9,none⟩=some x9∧w.cell? ⟨g,10,none⟩=some x10 :=
 ⟨Joins.cell_of_block h 0,Joins.cell_of_block h 1,Joins.cell_of_block h 2,Joins.cell_of_block h 3,Joins.cell_of_block h 4,Joins.cell_of_block h 5,Joins.cell_of_block h 6,Joins.cell_of_block h 7,Joins.cell_of_block h 8,Joins.cell_of_block h 9,Joins.cell_of_block h 10⟩
theorem z3x {w:World} {g:Nat} {x0 x1 x2 x3 x4:Value} {t:TypeId} (h:w.heap[g]?=some (.cells #[x0,x1,x2,x3,x4] t)) :
  (w.cell? ⟨g,0,none⟩=some x0∧w.cell? ⟨g,1,none⟩=some x1∧w.cell? ⟨g,2,none⟩=some x2∧w.cell? ⟨g,3,none⟩=some x3∧w.cell? ⟨g,4,none⟩=some x4)∧w.frozen? ⟨g,0,none⟩=false∧w.frozen? ⟨g,1,none⟩=false∧w.frozen? ⟨g,2,none⟩=false∧w.frozen? ⟨g,3,none⟩=false∧w.frozen? ⟨g,4,none⟩=false :=
 ⟨⟨zc h,zc h,zc h,zc h,zc h⟩,zn h,zn h,zn h,zn h,zn h⟩
theorem z1o {w:World} {g:Nat} {o:Obj} (h:w.heap[g]?=some o) (q:Obj):(w.alloc q).heap[g]?=some o:=(Below.heap_alloc _ _ _ (bL h)).trans h
structure PlW (w:World) (ac ar:Option Addr) (cc cr:Nat) (t:T) (vr:Value) (ur:List (Value × R)) (W:World):Prop where
 bel:Below w.heap.size w W
 box:W.heap[w.heap.size]?=some (.cells #[.slice ac t.cols.length cc,.int .i64 t.head,.int .i64 t.foot,.slice ar t.rows.length cr,.int .i64 t.gap] 26)
 res:W.heap[w.heap.size+1]?=some (.cells #[.slice none 0 0,.int .i64 0,.int .i64 0,.slice none 0 0,.int .i64 0] 26)
 xb:W.heap[w.heap.size+1+1]?=some (.cells #[.slice (some ⟨w.heap.size+1+1+1,0,none⟩) 0 0,.int .i64 t.head,.int .i64 t.foot,vr,.int .i64 t.gap] 26)
 col:W.heap[w.heap.size+1+1+1]?=some (.cells #[] 46)
 rows:zC W (w.heap.size+1+1) vr ur
theorem PlW.kept {w:World} {ac ar:Option Addr} {cc cr:Nat} {t:T} {vr:Value} {ur:List (Value × R)} {W W':World} (h:PlW w ac ar cc cr t vr ur W) (k:Below W.heap.size W W'):PlW w ac ar cc cr t vr ur W' :=
 ⟨ze h.bel k,(k.block _ (bL h.box)).trans h.box,(k.block _ (bL h.res)).trans h.res,(k.block _ (bL h.xb)).trans h.xb,(k.block _ (bL h.col)).trans h.col,h.rows.kept k⟩
theorem z4z {α β:Type} (f:α→β) (d:α) {l:List α} {j:Nat} (h:j < l.length):(l.take (j+1)).map f=(l.take j).map f ++ [f (l.getD j d)]:=by
 have e:l.getD j d=l[j]:=(by simp [List.getD,h]);rw [List.take_succ_eq_append_getElem h,List.map_append,e];rfl
end
section
open Go.RowKit Go.BigFrame
structure BnW (w:World) (ac ar:Option Addr) (cc cr:Nat) (t:T) (b:Int) (vr:Value) (ur:List (Value × R)) (W:World):Prop where
 bel:Below w.heap.size w W
 box:W.heap[w.heap.size]?=some (.cells #[.slice ac t.cols.length cc,.int .i64 t.head,.int .i64 t.foot,.slice ar t.rows.length cr,.int .i64 t.gap] 26)
 xb:W.heap[w.heap.size+1]?=some (.cells #[.slice ac t.cols.length cc,.int .i64 t.head,.int .i64 t.foot,vr,.int .i64 t.gap] 26)
 bb:W.heap[w.heap.size+1+1+1+1]?=some (.cells #[.int .i64 b,.int .i64 0] 30)
 rows:zC W (w.heap.size+1) vr ur
theorem BnW.kept {w:World} {ac ar:Option Addr} {cc cr:Nat} {t:T} {b:Int} {vr:Value} {ur:List (Value × R)} {W W':World} (h:BnW w ac ar cc cr t b vr ur W) (k:Below W.heap.size W W'):BnW w ac ar cc cr t b vr ur W' :=
 ⟨ze h.bel k,(k.block _ (bL h.box)).trans h.box,(k.block _ (bL h.xb)).trans h.xb,(k.block _ (bL h.bb)).trans h.bb,h.rows.kept k⟩
theorem z4Y (w:World) (ac ar:Option Addr) (cc cr:Nat) (t:T) (b:Int):BnW w ac ar cc cr t b (.slice (some ⟨w.heap.size+1+1,0,none⟩) 0 0) [] (((((w.alloc (.cells #[.slice ac t.cols.length cc,.int .i64 t.head,.int .i64 t.foot,.slice ar t.rows.length cr,.int .i64 t.gap] 26)).alloc (.cells #[.slice ac t.cols.length cc,.int .i64 t.head,.int .i64 t.foot,.slice (some ⟨w.heap.size+1+1,0,none⟩) 0 0,.int .i64 t.gap] 26)).alloc (.cells #[] 33)).alloc (.cells #[.int .i64 0,.int .i64 4] 3)).alloc (.cells #[.int .i64 b,.int .i64 0] 30)):=by
 have s1:(w.alloc (.cells #[.slice ac t.cols.length cc,.int .i64 t.head,.int .i64 t.foot,.slice ar t.rows.length cr,.int .i64 t.gap] 26)).heap.size=w.heap.size+1:=(by simp);have s2:((w.alloc (.cells #[.slice ac t.cols.length cc,.int .i64 t.head,.int .i64 t.foot,.slice ar t.rows.length cr,.int .i64 t.gap] 26)).alloc (.cells #[.slice ac t.cols.length cc,.int .i64 t.head,.int .i64 t.foot,.slice (some ⟨w.heap.size+1+1,0,none⟩) 0 0,.int .i64 t.gap] 26)).heap.size=w.heap.size+1+1:=(by simp);have s4:((((w.alloc (.cells #[.slice ac t.cols.length cc,.int .i64 t.head,.int .i64 t.foot,.slice ar t.rows.length cr,.int .i64 t.gap] 26)).alloc (.cells #[.slice ac t.cols.length cc,.int .i64 t.head,.int .i64 t.foot,.slice (some ⟨w.heap.size+1+1,0,none⟩) 0 0,.int .i64 t.gap] 26)).alloc (.cells #[] 33)).alloc (.cells #[.int .i64 0,.int .i64 4] 3)).heap.size=w.heap.size+1+1+1+1:=(by simp);have n1:=zf (w.alloc (.cells #[.slice ac t.cols.length cc,.int .i64 t.head,.int .i64 t.foot,.slice ar t.rows.length cr,.int .i64 t.gap] 26)) (.cells #[.slice ac t.cols.length cc,.int .i64 t.head,.int .i64 t.foot,.slice (some ⟨w.heap.size+1+1,0,none⟩) 0 0,.int .i64 t.gap] 26);have n2:=zf ((w.alloc (.cells #[.slice ac t.cols.length cc,.int .i64 t.head,.int .i64 t.foot,.slice ar t.rows.length cr,.int .i64 t.gap] 26)).alloc (.cells #[.slice ac t.cols.length cc,.int .i64 t.head,.int .i64 t.foot,.slice (some ⟨w.heap.size+1+1,0,none⟩) 0 0,.int .i64 t.gap] 26)) (.cells #[] 33);have n4:=zf ((((w.alloc (.cells #[.slice ac t.cols.length cc,.int .i64 t.head,.int .i64 t.foot,.slice ar t.rows.length cr,.int .i64 t.gap] 26)).alloc (.cells #[.slice ac t.cols.length cc,.int .i64 t.head,.int .i64 t.foot,.slice (some ⟨w.heap.size+1+1,0,none⟩) 0 0,.int .i64 t.gap] 26)).alloc (.cells #[] 33)).alloc (.cells #[.int .i64 0,.int .i64 4] 3)) (.cells #[.int .i64 b,.int .i64 0] 30);rw [s1] at n1;rw [s2] at n2;rw [s4] at n4;exact ⟨zb (zb (zb (zb (zb (Below.refl _ _) _) _) _) _) _,z1o (z1o (z1o (z1o (zf _ _) _) _) _) _,z1o (z1o (z1o n1 _) _) _,n4,⟨rfl,.inr ⟨_,0,#[],rfl,by omega,z1o (z1o n2 _) _,Nat.le_refl _,Nat.zero_le _,rfl,rfl⟩⟩,(fun p hp=>by cases hp),List.Pairwise.nil⟩
theorem z7s {w:World} {g:Nat} {x0 x1:Value} {t:TypeId} (h:w.heap[g]?=some (.cells #[x0,x1] t)):w.cell? ⟨g,0,none⟩=some x0∧w.cell? ⟨g,1,none⟩=some x1:=⟨zc h,zc h⟩
theorem z6Z (m:Nat):∃ k:Nat,k≤1∧Int.tmod (m:Int) 2=(k:Int):=by
 refine ⟨m % 2,by omega,?_⟩;exact (Int.ofNat_tmod m 2).symm
theorem z6v {p:T} (hD:z0o p) {W:World} {B:Nat} {vr:Value} {ur:List (Value × R)} (hur:ur.map (·.2)=p.rows) (h:zC W B vr ur):zD W B vr p.rows:=by
 rw [← hur];refine h.at (fun q hq x hx=>(hD.cells q.2 ?_ x hx).1);rw [← hur];exact List.mem_map.2 ⟨q,hq,rfl⟩
theorem z6w {W:World} {g:Nat} (h1:W.heap[g]?=some (.cells #[.string ⟨#[]⟩,.int .i64 1,.int .i64 1,.int .i64 0,.int .i64 0,.int .i64 0,.int .i64 0,.int .i64 0,.int .i64 0,.int .i64 2,.int .i64 1] 35)) (h2:W.heap[g+1]?=some (.cells #[.slice (some ⟨g,0,none⟩) 1 1,.bool false] 33)):zD W 0 (.slice (some ⟨g+1,0,none⟩) 1 1) z22.rows:=by
 refine ⟨_,1,rfl,Nat.le_refl _,by unfold maxLen;omega,fun i hi=>⟨g+1,0,rfl,(bL h2),Nat.zero_le _,?_⟩⟩;obtain rfl:i=0:=by simp [z22] at hi;omega
 refine ⟨_,zc h2,zc h2,_,1,rfl,Nat.le_refl _,by unfold maxLen;omega,fun j hj=>⟨g,0,rfl,(bL h1),Nat.zero_le _,?_⟩⟩;obtain rfl:j=0:=by simp [z22] at hj;omega
 exact ⟨⟨zc h1,zc h1,zc h1,zc h1,zc h1,zc h1,zc h1,zc h1,zc h1,zc h1,zc h1⟩,Nat.zero_le _⟩
theorem z65 {W:World} {z:Nat}:zY W z (.slice none 0 0) z22.cols:=⟨none,0,rfl,Nat.le_refl _,Nat.zero_le _,fun _ hi=>absurd hi (Nat.not_lt_zero _)⟩
theorem z5n (A:Option Addr) (len cap:Nat) (hlen:len≤1048576) (w0:World) (h:z1e w0 A len cap) :
  Calls Try.prog 3 #[.slice A len cap] w0 fun e w'=>e=.returned (.bool true)∧Below w0.heap.size w0 w':=by
 have hl:¬ (1048576:Int) < (len:Int):=(by omega);have hmx:Try.prog.follows .mixedOrders=true:=(by kernel_rfl);obtain ⟨i1,hi1,hy0,hy1,hy2⟩:=info_parts z6q;obtain ⟨i2,hi2,hx0,hx1,hx2⟩:=info_parts z61;have HD:=Hd h;clear h;go_enter Try.func3,Try.ntmps3;go_wp2_with fail
 refine (z3E _ _ _ _ HD.out).mono ?_;rintro e w ⟨ac,ar,cc,cr,t,rfl,hD,hC1,hW1,hb1⟩;have HTa:Hid (TA w w0.heap.size ac ar cc cr t):=⟨hC1,hW1⟩;have HKw:=Hd hb1;have h9:=hD.rows;have HRA:=Hd hW1
 have HC5:Hid (∀ q,(t.rows.getD q dR).cells.length≤5):=Hd (fun q=>by
  obtain ⟨k,hk⟩:=hD.few;have:=hk q
  split at this <;> omega)
 have KI:=Hd (fun W (h:TA W w0.heap.size ac ar cc cr t)=>z23 ac ar cc cr t hD W h.1 h.2);have KM:=Hd (fun W (h:TA W w0.heap.size ac ar cc cr t)=>z4v ac ar cc cr t hD W h.1 h.2);have HDt:=Hd hD;obtain ⟨sn,hsn⟩:∃ sn:Int,((z0I (z0y t) (z0y t).length:Nat):Int)=sn:=⟨_,rfl⟩;rw [hsn] at KI KM;clear hC1 hW1 hb1 hD HD hsn;obtain ⟨k,hk,he⟩:=z6Z len;go_upto_region 6 with fail
 go_cut [5] (fun s W=>∃ b:Int,(b=0∨b=4)∧s=.pointer (some ⟨w.heap.size+1+1+1+1,0,none⟩)∧Hid (BnW w ac ar cc cr t b (.slice (some ⟨w.heap.size+1+1,0,none⟩) 0 0) [] W))
 case first=>as_aux_lemma =>
  rcases (by omega:k=0∨k=1) with rfl | rfl
  ·have HP:=Hd (z4Y w ac ar cc cr t 0);go_wp2_with fail
   go_meet
   case rel=>exact ⟨0,.inl rfl,rfl,HP⟩
  ·have HP:=Hd (z4Y w ac ar cc cr t 4);go_wp2_with fail
   go_meet
   case rel=>exact ⟨4,.inr rfl,rfl,HP⟩
 case rest =>
 obtain ⟨b,hbz,rfl,HP0⟩:=hcut;have HBz:=Hd hbz;have HDb:=Hd (z5V (b:=b) HDt.out);clear hbz he hk HDt;go_wp2_with fail
 go_loopw [6] (fun k W=>∃ (q:Nat) (vr:Value) (ur:List (Value × R)),k=.int .i64 (q:Int)∧q≤t.rows.length∧ur.map (·.2)=(t.rows.take q).map (bnR b)∧Hid (BnW w ac ar cc cr t b vr ur W)) (fun k _=>t.rows.length - (intOf k).toNat)
 case atStart=>exact ⟨0,_,[],rfl,Nat.zero_le _,rfl,HP0⟩
 case round =>
  obtain ⟨q,vr,ur,rfl,hq,hur,HP⟩:=hrel
  have hul:ur.length=q:=by
   have:=congrArg List.length hur;rw [List.length_map,List.length_map,List.length_take] at this;omega
  have HUR:=Hd hur;clear hur HP0;obtain ⟨⟨b0,b1,b2,b3,b4⟩,_⟩:=z3x HP.out.box;by_cases hlt:q < t.rows.length
  ·obtain ⟨g,off,cap',e',hc1,hc2,hbl,u,hu,hwh,hcs⟩:=At.get (HRA.out.kept HP.out.bel) hlt;simp only [Value.slice.injEq,true_and] at e';obtain ⟨rfl,rfl⟩:=e';have h5:=HC5.out q;have HRW:Hid ((t.rows.take (q+1)).map (bnR b)=(t.rows.take q).map (bnR b) ++ [(bnR b) (t.rows.getD q dR)]):=Hd (z4z (bnR b) dR hlt);obtain ⟨row,hrow⟩:∃ row,t.rows.getD q dR=row:=⟨_,rfl⟩;rw [hrow] at hwh hcs HRW h5;obtain ⟨cs,wh⟩:=row;simp only at hwh hcs h5;obtain ⟨ca,ccp,rfl,hcm⟩:=At.form hcs;unfold maxLen at hc2 hcm;have HCS:=Hd hcs;have HU0:=Hd hu;clear hcs hrow;obtain ⟨Wo,hWo⟩:∃ Wo,Wo=wr:=⟨_,rfl⟩;subst hWo;have hltB:=(bL HP.out.box);go_upto_region 11 with fail
   have KA0:=Hd (zb (Below.refl Wo.heap.size Wo) (.cells #[.slice none 0 0,.bool wh] 33));have HX0:=Hd (zf Wo (.cells #[.slice none 0 0,.bool wh] 33));generalize Wo.alloc (.cells #[.slice none 0 0,.bool wh] 33)=W2 at KA0 HX0 ⊢;obtain ⟨rb,hrb⟩:∃ rb,Wo.heap.size=rb:=⟨_,rfl⟩;rw [hrb] at HX0 ⊢;have HRB:=Hd hrb;clear hrb hu hwh b0 b1 b2 b3 b4;go_wp2_with fail
   go_loopw [8] (fun i W=>∃ (j:Nat) (vu:Value),i=.int .i64 (j:Int)∧j≤cs.length∧Hid (Below Wo.heap.size Wo W)∧Hid (W.heap[rb]?=some (.cells #[vu,.bool wh] 33))∧Hid (z0p W Wo.heap.size vu ((cs.take j).map (bnC b)))) (fun i _=>cs.length - (intOf i).toNat)
   case atStart=>exact ⟨0,_,rfl,Nat.zero_le _,KA0,HX0,⟨rfl,.inl ⟨rfl,rfl⟩⟩⟩
   case round =>
    obtain ⟨j,vu,rfl,hj,HB,HX,HU⟩:=hrel;clear KA0 HX0;obtain ⟨⟨d0,d1,d2,d3,d4⟩,_⟩:=z3x ((HB.out.block _ hltB).trans HP.out.box);have hlb0:=(bL HP.out.bb);have hlbb:w.heap.size+1+1+1+1 < wr.heap.size:=Nat.lt_of_lt_of_le hlb0 HB.out.size;obtain ⟨l0,l1⟩:=z7s ((HB.out.block _ hlb0).trans HP.out.bb);have hu':=(HB.out.cell (p:=⟨g,off+q * 2,none⟩) hbl).trans HU0.out;have hbw:=HB.out.size;have hrl:=(bL HX.out);by_cases hjl:j < cs.length
    ·obtain ⟨g2,z2e,cap2,e2,hd1,hd2,hbl2,hx,hxs⟩:=At.get (HCS.out.kept HB.out) hjl;simp only [Value.slice.injEq,true_and] at e2;obtain ⟨rfl,rfl⟩:=e2;unfold maxLen at hd2;have HCT:Hid ((cs.take (j+1)).map (bnC b)=(cs.take j).map (bnC b) ++ [(bnC b) (cs.getD j dC)]):=Hd (z4z (bnC b) dC hjl);obtain ⟨x,ex⟩:∃ x,cs.getD j dC=x:=⟨_,rfl⟩;rw [ex] at hx hxs HCT;obtain ⟨v0,v1,v2,v3,v4,v5,v6,v7,v8,v9,v10⟩:=hx;have hn:((cs.take j).map (bnC b)).length=j:=(by rw [List.length_map,List.length_take];omega)
     have hO:wr.ownsRow Wo.heap.size 35 11 vu j (((cs.take j).map (bnC b)).flatMap z0u):=by
      have h:=HU.out;unfold z0p at h;rw [hn] at h;exact h
     obtain ⟨va,vcp,rfl,_⟩:=zu hO;have HN:=Hd hn;clear ex hxs hn;go_upto_region 19 with fail
     have KA:=zb (Below.refl wr.heap.size wr) (.cells #[.string x.s,.int .i64 x.c,.int .i64 x.r,.int .i64 b,.int .i64 0,.int .i64 b,.int .i64 0,.int .i64 b,.int .i64 0,.int .i64 b,.int .i64 0] 35);have hX3:=zf wr (.cells #[.string x.s,.int .i64 x.c,.int .i64 x.r,.int .i64 b,.int .i64 0,.int .i64 b,.int .i64 0,.int .i64 b,.int .i64 0,.int .i64 b,.int .i64 0] 35);have hR3:=(KA.block _ hrl).trans HX.out;have hO3:=hO.alloc (.cells #[.string x.s,.int .i64 x.c,.int .i64 x.r,.int .i64 b,.int .i64 0,.int .i64 b,.int .i64 0,.int .i64 b,.int .i64 0,.int .i64 b,.int .i64 0] 35);have HB3:=Hd (ze HB.out KA);have hrl3:rb < (wr.alloc (.cells #[.string x.s,.int .i64 x.c,.int .i64 x.r,.int .i64 b,.int .i64 0,.int .i64 b,.int .i64 0,.int .i64 b,.int .i64 0,.int .i64 b,.int .i64 0] 35)).heap.size:=(bL hR3);clear v0 v1 v2 v3 v4 v5 v6 v7 v8 v9 v10 d0 d1 d2 d3 d4 l0 l1 hlbb hlb0 hu' KA hO HU HX hrl;generalize wr.alloc (.cells #[.string x.s,.int .i64 x.c,.int .i64 x.r,.int .i64 b,.int .i64 0,.int .i64 b,.int .i64 0,.int .i64 b,.int .i64 0,.int .i64 b,.int .i64 0] 35)=W3 at hX3 hR3 hO3 HB3 hrl3 ⊢;obtain ⟨cb,hcb⟩:∃ cb,wr.heap.size=cb:=⟨_,rfl⟩;rw [hcb] at hX3 ⊢;clear hcb;obtain ⟨p0,p1,p2,p3,p4,p5,p6,p7,p8,p9,p10⟩:=z6R hX3;have r0:W3.cell? ⟨rb,0,none⟩=some (.slice va j vcp):=zc hR3;have hw3:=HB3.out.size;have hO4:=hO3.alloc (.cells #[.string x.s,.int .i64 x.c,.int .i64 x.r,.int .i64 b,.int .i64 0,.int .i64 b,.int .i64 0,.int .i64 b,.int .i64 0,.int .i64 b,.int .i64 0] 35);have hR4:=z1o hR3 (.cells #[.string x.s,.int .i64 x.c,.int .i64 x.r,.int .i64 b,.int .i64 0,.int .i64 b,.int .i64 0,.int .i64 b,.int .i64 0,.int .i64 b,.int .i64 0] 35);have HB4:=Hd (zb HB3.out (.cells #[.string x.s,.int .i64 x.c,.int .i64 x.r,.int .i64 b,.int .i64 0,.int .i64 b,.int .i64 0,.int .i64 b,.int .i64 0,.int .i64 b,.int .i64 0] 35));have hXN:=zf W3 (.cells #[.string x.s,.int .i64 x.c,.int .i64 x.r,.int .i64 b,.int .i64 0,.int .i64 b,.int .i64 0,.int .i64 b,.int .i64 0,.int .i64 b,.int .i64 0] 35);go_wp2_with (at_builtin;refine wpList_append_own _ rfl _ _ 31 rfl Wo.heap.size 35 i2 _ 11 96 Try.underlying31 hi2 hx0 hx1 hx2 rfl (by decide) _ _ _ rfl hO4 ⟨W3.heap.size,0,none⟩ 1 1 (z0u ((bnC b) x)) rfl rfl (z02 hXN) (by simp [z0u,bnC,Value.oneCell']) (by unfold maxLen;omega) (by omega) (by simp;omega) ?_)
     intro v' wq hown' hg' _;obtain ⟨ve,vq,rfl,_⟩:=zu hown';have hR5:=zB hR4 hg' (zG (zh hO4 hR4 (by decide)));have s0:wq.cell? ⟨rb,0,none⟩=some (.slice va j vcp):=zc hR5;have sf:wq.frozen? ⟨rb,0,none⟩=false:=zn hR5;have HB5:Hid (Below Wo.heap.size Wo (wq.setCell ⟨rb,0,none⟩ (.slice ve (j+1) vq))):=Hd ((HB4.out.grown hg' (by simp;omega) (fun b hb=>(z0d hO4 hb).1)).setCell (p:=⟨rb,0,none⟩) (by show _≤rb;have:=HRB.out;omega) _);have HX5:Hid ((wq.setCell ⟨rb,0,none⟩ (.slice ve (j+1) vq)).heap[rb]?=some (.cells #[.slice ve (j+1) vq,.bool wh] 33)):=Hd (zL hR5 _)
     have HU5:Hid (z0p (wq.setCell ⟨rb,0,none⟩ (.slice ve (j+1) vq)) Wo.heap.size (.slice ve (j+1) vq) ((cs.take (j+1)).map (bnC b))):=Hd (by
      unfold z0p;rw [HCT.out,List.length_append,HN.out,List.flatMap_append];have h:=zV hown' hR5 (by decide) (p:=0) (.slice ve (j+1) vq)
      simpa using h)
     clear hown' hg' hR5 hO4 hR4 hXN hO3 hR3 hX3 HB3 HB4 p0 p1 p2 p3 p4 p5 p6 p7 p8 p9 p10 r0 HCT HN HB;go_wp2;go_roundw
     case rel=>exact ⟨j+1,_,by go_num,by omega,HB5,HX5,HU5⟩
     case measure=>simp [intOf];omega
    ·obtain rfl:j=cs.length:=by omega
     have HP6:=Hd (HP.out.kept HB.out)
     have hUb:∀ p ∈ ur,p.1.ownBlock=none∨p.1.ownBlock ≠ vu.ownBlock:=fun p hp=>by
      rcases hb:p.1.ownBlock with _ | b
      ·exact .inl rfl
      ·refine .inr (fun e=>?_);have h1:=(z0d (HP.out.rows.cells p hp) hb).2;have h2:=(z0d HU.out e.symm).1;omega
     rw [List.take_length] at HU;have hcl:(cs.map (bnC b)).length=cs.length:=List.length_map _;obtain ⟨vra,vrc,rfl,_⟩:=zu HP6.out.rows.own;rw [hul] at HP6;obtain ⟨⟨x0,x1,x2,x3,x4⟩,y0,y1,y2,y3,y4⟩:=z3x HP6.out.xb;have r0:wr.cell? ⟨rb,0,none⟩=some vu:=zc HX.out;have r1:wr.cell? ⟨rb,1,none⟩=some (.bool wh):=zc HX.out
     have hOR:wr.ownsRow (w.heap.size+1) 33 2 (.slice vra q vrc) q (ur.flatMap zS):=by
      have h:=HP6.out.rows.own;rw [hul] at h;exact h
     have HPA:=Hd (HP6.out.kept (zb (Below.refl wr.heap.size wr) (.cells #[vu,.bool wh] 33)));have hXN:=zf wr (.cells #[vu,.bool wh] 33);have hOA:=hOR.alloc (.cells #[vu,.bool wh] 33);have HUA:=Hd (HU.out.alloc (.cells #[vu,.bool wh] 33))
     have hv1:vu.oneCell'=true:=by
      obtain ⟨a,c,rfl,_⟩:=zu HU.out;rfl
     have hone:∀ u ∈ [vu,.bool wh],u.oneCell'=true:=fun u hu=>by
      rcases List.mem_cons.1 hu with rfl | hu
      ·exact hv1
      ·rw [List.mem_singleton] at hu;subst hu;rfl
     have hszw:=HP6.out.bel.size;go_wp2_with (at_builtin;refine wpList_append_own _ rfl _ _ 24 rfl (w.heap.size+1) 33 i1 _ 2 32 Try.underlying24 hi1 hy0 hy1 hy2 rfl (by decide) _ _ _ rfl hOA ⟨wr.heap.size,0,none⟩ 1 1 [vu,.bool wh] rfl rfl (z02 hXN) hone (by unfold maxLen;omega) (by omega) (by simp;omega) ?_)
     intro v' wq hown' hg' _;have HVe:=Hd (zu hown');obtain ⟨ve,vq,rfl,_⟩:=HVe.out;clear HVe;have hXb:=zB HPA.out.xb hg' (zG (zh hOA HPA.out.xb (by decide)));have hBx:=zB HPA.out.box hg' (zG (zh hOA HPA.out.box (by decide)));have hBb:=zB HPA.out.bb hg' (zG (zh hOA HPA.out.bb (by decide)));have hwo:w.heap.size+1≤Wo.heap.size:=Nat.le_of_lt (bL HP.out.xb)
     have hrows:zC wq (w.heap.size+1) (.slice ve (q+1) vq) (ur ++ [(vu,(⟨cs.map (bnC b),wh⟩:R))]):=by
      refine zC.push (U:=.slice vra q vrc) HPA.out.rows hg' ?_ (z0P HUA.out hwo) hUb;rw [hul];exact hown'
     have x3':wq.cell? ⟨w.heap.size+1,3,none⟩=some (.slice vra q vrc):=zc hXb;have xf':wq.frozen? ⟨w.heap.size+1,3,none⟩=false:=zn hXb
     have HP8:Hid (BnW w ac (some ⟨g,off,none⟩) cc cr t b (.slice ve (q+1) vq) (ur ++ [(vu,(⟨cs.map (bnC b),wh⟩:R))]) (wq.setCell ⟨w.heap.size+1,3,none⟩ (.slice ve (q+1) vq))):=Hd
      ⟨(HPA.out.bel.grown hg' (by simp;omega) (fun b hb=>by have:=(z0d hOA hb).1;omega)).setCell (p:=⟨w.heap.size+1,3,none⟩) (by show w.heap.size≤w.heap.size+1;omega) _,
       (Below.heap_setCell _ _ _ _ (by show w.heap.size ≠ w.heap.size+1;omega)).trans hBx,
       zL hXb _,
       (Below.heap_setCell _ _ _ _ (by show w.heap.size+1+1+1+1 ≠ w.heap.size+1;omega)).trans hBb,
       zC.set hrows hXb _⟩
     clear hown' hg' hXb hBx hBb hrows hOA hXN hOR HPA HUA HP6 x0 x1 x2 x3 x4 y0 y1 y2 y3 y4 r0 r1 d0 d1 d2 d3 d4 hu' HP HX HU HB hUb;go_wp2;go_roundw
     case rel=>exact ⟨q+1,_,ur ++ [(vu,(⟨cs.map (bnC b),wh⟩:R))],by go_num,by omega,by rw [List.map_append,HUR.out,HRW.out];rfl,HP8⟩
     case measure=>simp [intOf];omega
  ·obtain rfl:q=t.rows.length:=by omega
   have hurr:=HUR.out;rw [List.take_length] at hurr;have HUF:Hid (ur.map (·.2)=(bnT b t).rows):=Hd hurr;obtain ⟨va,vc,rfl,_⟩:=zu HP.out.rows.own;rw [hul] at HP;have hlen:(bnT b t).rows.length=t.rows.length:=(by show (t.rows.map (bnR b)).length=_;rw [List.length_map]);have hR0:=z6v HDb.out HUF.out HP.out.rows;have HRx:Hid (zD wr (w.heap.size+1) (.slice va t.rows.length vc) (bnT b t).rows):=Hd hR0;clear hurr hR0 b0 b1 b2 b3 b4
   have KX:Hid (∀ W,Below wr.heap.size wr W→Calls Try.prog 8 #[.agg #[.slice ac t.cols.length cc,.int .i64 t.head,.int .i64 t.foot,.slice va t.rows.length vc,.int .i64 t.gap]] W fun e w'=>e=.returned (.int .i64 0)∧Below W.heap.size W w'):=fun W h=>by
    have k:=z23 ac va cc vc (bnT b t) HDb.out W (z:=0) (((HTa.out.kept HP.out.bel).1.kept h).base (Nat.zero_le _)) (by rw [hlen];exact ((HRx.out.kept h).base (Nat.zero_le _)));rw [hlen,z6O HBz.out t] at k;exact k
   have HK:=Hd (HKw.out.trans (HP.out.bel.mono HKw.out.size));have hne:=z1X wr;have htb:=(bL HP.out.box);have hxb:=(bL HP.out.xb);have m0:=zj (a:=⟨w.heap.size,0,none⟩) htb (zc (p:=0) HP.out.box);have m1:=zj (a:=⟨w.heap.size,1,none⟩) htb (zc (p:=1) HP.out.box);have m2:=zj (a:=⟨w.heap.size,2,none⟩) htb (zc (p:=2) HP.out.box);have m3:=zj (a:=⟨w.heap.size,3,none⟩) htb (zc (p:=3) HP.out.box);have m4:=zj (a:=⟨w.heap.size,4,none⟩) htb (zc (p:=4) HP.out.box);have n0:=zj (a:=⟨w.heap.size+1,0,none⟩) hxb (zc (p:=0) HP.out.xb);have n1:=zj (a:=⟨w.heap.size+1,1,none⟩) hxb (zc (p:=1) HP.out.xb);have n2:=zj (a:=⟨w.heap.size+1,2,none⟩) hxb (zc (p:=2) HP.out.xb);have n3:=zj (a:=⟨w.heap.size+1,3,none⟩) hxb (zc (p:=3) HP.out.xb);have n4:=zj (a:=⟨w.heap.size+1,4,none⟩) hxb (zc (p:=4) HP.out.xb);have k1:=Hd (fun (p:BW wr)=>z2K (KX.out p.u p.h));have k2:=Hd (fun (p:BW wr)=>z2K (KI.out p.u ((HTa.out.kept HP.out.bel).kept p.h)));have k3:=Hd (fun (p:BW wr)=>z2K (KM.out p.u ((HTa.out.kept HP.out.bel).kept p.h)));have hs1:(sn != sn)=false:=(by simp);clear hlen;obtain ⟨⟨b0,b1,b2,b3,b4⟩,_⟩:=z3x HP.out.box;go_upto_region 21 with fail
   clear b0 b1 b2 b3 b4;refine z0G hmx (by kernel_rfl) ?_;repeat (go_big_quiet_step (first | (go_at_call 8;first | with_reducible refine k1.out _ | with_reducible refine k2.out _) | (go_at_call 9;refine k3.out _)))
   refine wpQuiet_nil ?_;intro W5 hw';obtain ⟨⟨Wx,hW5⟩,hw''⟩:=hw';subst hw'';have HK5:=Hd (HK.out.trans (hW5.mono HK.out.size));clear k1 k2 k3 m0 m1 m2 m3 m4 n0 n1 n2 n3 n4 hne htb hxb hW5 HP HRx HUF HUR KX KI KM hs1;go_upto_region 24 with fail
   have c1:=zf W5 (.cells #[.string ⟨#[]⟩,.int .i64 1,.int .i64 1,.int .i64 0,.int .i64 0,.int .i64 0,.int .i64 0,.int .i64 0,.int .i64 0,.int .i64 2,.int .i64 1] 35);have e1:(W5.alloc (.cells #[.string ⟨#[]⟩,.int .i64 1,.int .i64 1,.int .i64 0,.int .i64 0,.int .i64 0,.int .i64 0,.int .i64 0,.int .i64 0,.int .i64 2,.int .i64 1] 35)).heap.size=W5.heap.size+1:=(by simp);have c2:=zf (W5.alloc (.cells #[.string ⟨#[]⟩,.int .i64 1,.int .i64 1,.int .i64 0,.int .i64 0,.int .i64 0,.int .i64 0,.int .i64 0,.int .i64 0,.int .i64 2,.int .i64 1] 35)) (.cells #[.slice (some ⟨W5.heap.size,0,none⟩) 1 1,.bool false] 33);rw [e1] at c2;have e2:((W5.alloc (.cells #[.string ⟨#[]⟩,.int .i64 1,.int .i64 1,.int .i64 0,.int .i64 0,.int .i64 0,.int .i64 0,.int .i64 0,.int .i64 0,.int .i64 2,.int .i64 1] 35)).alloc (.cells #[.slice (some ⟨W5.heap.size,0,none⟩) 1 1,.bool false] 33)).heap.size=W5.heap.size+1+1:=(by simp);have c3:=zf ((W5.alloc (.cells #[.string ⟨#[]⟩,.int .i64 1,.int .i64 1,.int .i64 0,.int .i64 0,.int .i64 0,.int .i64 0,.int .i64 0,.int .i64 0,.int .i64 2,.int .i64 1] 35)).alloc (.cells #[.slice (some ⟨W5.heap.size,0,none⟩) 1 1,.bool false] 33)) (.cells #[.slice none 0 0,.int .i64 0,.int .i64 0,.slice (some ⟨W5.heap.size+1,0,none⟩) 1 1,.int .i64 0] 26);rw [e2] at c3;have HKe:=Hd (zb (zb (zb HK5.out (.cells #[.string ⟨#[]⟩,.int .i64 1,.int .i64 1,.int .i64 0,.int .i64 0,.int .i64 0,.int .i64 0,.int .i64 0,.int .i64 0,.int .i64 2,.int .i64 1] 35)) (.cells #[.slice (some ⟨W5.heap.size,0,none⟩) 1 1,.bool false] 33)) (.cells #[.slice none 0 0,.int .i64 0,.int .i64 0,.slice (some ⟨W5.heap.size+1,0,none⟩) 1 1,.int .i64 0] 26));have HRo:Hid (zD (((W5.alloc (.cells #[.string ⟨#[]⟩,.int .i64 1,.int .i64 1,.int .i64 0,.int .i64 0,.int .i64 0,.int .i64 0,.int .i64 0,.int .i64 0,.int .i64 2,.int .i64 1] 35)).alloc (.cells #[.slice (some ⟨W5.heap.size,0,none⟩) 1 1,.bool false] 33)).alloc (.cells #[.slice none 0 0,.int .i64 0,.int .i64 0,.slice (some ⟨W5.heap.size+1,0,none⟩) 1 1,.int .i64 0] 26)) 0 (.slice (some ⟨W5.heap.size+1,0,none⟩) 1 1) z22.rows):=z6w (z1o (z1o c1 _) _) (z1o c2 _);generalize ((W5.alloc (.cells #[.string ⟨#[]⟩,.int .i64 1,.int .i64 1,.int .i64 0,.int .i64 0,.int .i64 0,.int .i64 0,.int .i64 0,.int .i64 0,.int .i64 2,.int .i64 1] 35)).alloc (.cells #[.slice (some ⟨W5.heap.size,0,none⟩) 1 1,.bool false] 33)).alloc (.cells #[.slice none 0 0,.int .i64 0,.int .i64 0,.slice (some ⟨W5.heap.size+1,0,none⟩) 1 1,.int .i64 0] 26)=W6 at c3 HKe HRo ⊢;obtain ⟨⟨b0,b1,b2,b3,b4⟩,_⟩:=z3x c3;clear c1 c2 c3 e1 e2;go_wp2_with fail
   refine (z23 none (some ⟨W5.heap.size+1,0,none⟩) 0 1 z22 z5d W6 (z:=0) z65 HRo.out).mono ?_;rw [z5W];rintro e w9 ⟨rfl,hb9⟩;have HK9:=Hd (HKe.out.trans (hb9.mono HKe.out.size));clear hb9 b0 b1 b2 b3 b4;go_wp2;go_ret;exact ⟨rfl,HK9.out⟩
theorem z5o (A:Option Addr) (len cap:Nat) (w:World) (h:z1e w A len cap) :
  Calls Try.prog 3 #[.slice A len cap] w fun e w'=>e=.returned (.bool true)∧Below w.heap.size w w':=by
 have hlen:len≤maxLen:=Nat.le_trans h.1 h.2.1;unfold maxLen at hlen;by_cases hbig:len≤1048576
 ·exact z5n A len cap hbig w h
 ·clear h;have hb:(1048576:Int) < (len:Int):=(by omega);go_enter Try.func3,Try.ntmps3;go_wp2;go_ret;exact ⟨rfl,Below.refl _ _⟩
end
end Go.Proofs.Ytggmjiddadjilam
