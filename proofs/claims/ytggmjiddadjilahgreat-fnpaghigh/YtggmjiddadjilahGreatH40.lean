/-
  PROVED HERE: what the model's PagAll answers of a drawn table, any width and any heights: the pages of its body, head and foot with each, in new memory; nothing that was in memory is turned. Also: 5 more texts of the same proof.
-/
import Derived.Test.YtggmjiddadjilahGreatH39
import Derived.Test.YtggmjiddadjilahGreatH25
set_option maxRecDepth 1000000
set_option maxHeartbeats 40000000
open Go.Proofs.Tryz
namespace Go.Proofs.YtggmjiddadjilahGreat
open Value (int)
open IntKind (i64)
section
open Go.RowKit
theorem zf7 {w:World} {base:Nat} {v:Value} {a b:List zm} (h:w.ownsRow base 45 3 v (a.length+b.length) (a.flatMap z0C ++ b.flatMap z0C)):zx w base v (a ++ b):=by
 unfold zx;rw [List.length_append,List.flatMap_append];exact h
theorem zfZ {w w':World} {base base':Nat} {e e':TypeId} {sz sz':Nat} {v U:Value} {n m:Nat} {xs ys:List Value} (h:w.ownsRow base e sz v n xs) (hU:w.ownsRow base' e' sz' U m ys) (he:e ≠ e') (k:w.grownBy w' U.ownBlock):w'.ownsRow base e sz v n xs :=
 ⟨h.1,h.2.elim Or.inl (λ⟨g,cap,cur,hv,hg,hc,r⟩=>Or.inr ⟨g,cap,cur,hv,hg,z06 hc k (z0e (zu hU hc (λh=>he h.symm))),r⟩)⟩
theorem zf8 {w:World} {z:Nat} {au:Option Addr} {n c:Nat} {pg:List zm} (h:z1W w z (.slice au n c) pg):pg.length ≠ 0->au ≠ none:=λh0 hn=>by
 obtain ⟨a9,c9,e9,_,_,h9⟩:=h;simp only [Value.slice.injEq] at e9;obtain ⟨b9,o9,e8,_⟩:=h9 0 (by omega);rw [<-e9.1,hn] at e8
 cases e8
theorem zhN {t:T} {width:Int} {high:List Int}:(z0H t width high).length<=100000:=by
 unfold z0H
 split
 ·rename_i hp
  unfold z29 at hp;rw [Bool.and_eq_true,Bool.and_eq_true] at hp;have h1:=z6d (t:=t) hp.1.1 (hs:=zD t width) z7i;have h2:=zdX (high.map (· - (zv (z00 t (zD t width))+zv (z01 t (zD t width))))) (z0x t (zD t width));unfold z3e;rw [List.length_append,List.length_singleton];omega
 ·simp
theorem zhO (pg:List zm):∀ u ∈ pg.flatMap z0C,u.oneCell'=true:=λu hu=>by
 obtain ⟨s,_,hs⟩:=List.mem_flatMap.1 hu;simp only [z0C,List.mem_cons,List.not_mem_nil,or_false] at hs
 rcases hs with rfl | rfl | rfl <;> rfl
structure PbJ (gb go k m cp cu cx rl tb:Nat) (ac ar ax au:Option Addr) (cc cr:Nat) (t:T) (pg hp:List zm) (W3:World) (L:Nat->Bool) (W:World) (v11 v30 v31 v32 v33 v34 v35 v36 v37 v38:Value):Prop where
 f0:L 0=true->v30=.slice ax rl cx
 f1:L 1=true->v31=.pointer (some ⟨tb,1,none⟩)
 f2:L 2=true->v32=int i64 t.head
 f3:L 3=true->L 8=false->zx W W3.heap.size v33 hp
 f4:L 4=true->v34=.slice (some ⟨gb,go,none⟩) m cp
 f5:L 5=true->v35=int i64 (k:Int)
 f6:L 6=true->v36=.pointer (some ⟨gb,go+k,none⟩)
 f7:L 7=true->v37=.slice au pg.length cu
 f8:L 8=true->L 9=false->zx W W3.heap.size v38 (hp ++ pg)
 f9:L 9=true->Below W3.heap.size W3 W/\zx W W3.heap.size v11 (hp ++ pg)
 b:L 9=false->Below W3.heap.size W3 W
theorem zg0 (ac ar:Option Addr) (cc cr:Nat) (t:T) (hD:z0h t) (width:Int) (vh:Value) (high:List Int) (w:World) {z:Nat} (hc:z08 w z (.slice ac t.cols.length cc) t.cols) (hr:z05 w z (.slice ar t.rows.length cr) t.rows) (hh:zA w vh high) :
  Calls prog 12 #[.agg #[.slice ac t.cols.length cc,int i64 t.head,int i64 t.foot,.slice ar t.rows.length cr,int i64 t.gap],int i64 width,vh] w λe w'=>∃ v us,e=.returned v/\w'.ownsRow w.heap.size 41 1 v us.length us/\zS w' w.heap.size us (z5e t width high)/\Below w.heap.size w w':=by
 obtain ⟨i0,hi,hz0,hz1,hz2⟩:=info_parts zaP;obtain ⟨j0,hj,hy0,hy1,hy2⟩:=info_parts z5i;have hmx:prog.follows .mixedOrders=true:=(by kernel_rfl);obtain ⟨ah,ch,rfl,_⟩:=hh.form;have HK0:=O (ze (Below.refl w.heap.size w) (.cells #[.slice ac t.cols.length cc,int i64 t.head,int i64 t.foot,.slice ar t.rows.length cr,int i64 t.gap] 26));have HX0:=O (zk w (.cells #[.slice ac t.cols.length cc,int i64 t.head,int i64 t.foot,.slice ar t.rows.length cr,int i64 t.gap] 26));have hs0:(w.alloc (.cells #[.slice ac t.cols.length cc,int i64 t.head,int i64 t.foot,.slice ar t.rows.length cr,int i64 t.gap] 26)).heap.size=w.heap.size+1:=(by simp);have KP:=O (λW (k:Below w.heap.size w W)=>zey ac ar cc cr t hD width _ high W (hc.kept k) (hr.kept k) (hh.kept k));have KR:=O (λW (k:Below w.heap.size w W)=>zez ac ar cc cr t hD width W (hc.kept k) (hr.kept k));clear hc hr hh;have HAl:Hid (z5e t width high=(z0H t width high).map (λb=>z00 t (zD t width) ++ b ++ z01 t (zD t width))):=rfl;have HNo:=O (λhp=>zaE (t:=t) (width:=width) (high:=high) hp)
 have HOk:Hid (z29 t width high=true->zG t=true/\(zD t width).length=t.rows.length/\∀ i,i < (z0H t width high).length->∀ k,(([z00 t (zD t width),(z0H t width high).getD i [],z01 t (zD t width)].take k).flatten).length<=100000):=λhp=>by
  have hok2:=hp;unfold z29 at hok2;rw [Bool.and_eq_true,Bool.and_eq_true] at hok2;refine ⟨hok2.1.1,by rw [zD,hok2.1.1,hok2.1.2];exact z0T _ _,λi hi k=>zdN hD hp hi k⟩
 have HBl:Hid ((z0H t width high).length<=100000):=zhN;generalize z5e t width high=al at HAl |-;generalize z0H t width high=pss at KP HAl HNo HOk HBl;generalize zD t width=rs at KR HAl HOk;generalize z29 t width high=ok at HNo HOk;go_enter func12,ntmps12;go_upto_region 1 with fail
 generalize w.alloc (.cells #[.slice ac t.cols.length cc,int i64 t.head,int i64 t.foot,.slice ar t.rows.length cr,int i64 t.gap] 26)=W0 at HK0 HX0 hs0 |-;obtain ⟨z0,z1,z2,z3,z4⟩:=zP HX0.out;go_wp2_with fail
 refine (KP.out _ HK0.out).mono ?_;rintro e W1 ⟨v1,us,rfl,hO1,hR1,hb1⟩;obtain ⟨a1,c1,rfl,hul⟩:=zT hO1;have hlu:=hR1.1;have HK1:=O (zi HK0.out hb1);have HX1:=O ((hb1.block _ (bL HX0.out)).trans HX0.out);have HP1:Hid (z1q W1 0 (.slice a1 us.length c1) pss):=hR1.pss hO1 nZ nZ;rw [hlu] at HP1 |-;unfold maxLen at hul;rw [hlu] at hul;clear hb1 HK0 HX0 z0 z1 z2 z3 z4 hO1 hR1 hlu KP;have HMd:=O (World.ownsRow_made (base:=W1.heap.size) (e:=41) (size:=1) W1 #[] 0 lR nZ rfl);have hka:=ze (Below.refl W1.heap.size W1) (.cells #[] 41);have HK2:=O (zi HK1.out hka);have HX2:=O ((hka.block _ (bL HX1.out)).trans HX1.out);have HB2:=O hka;have hw1:w.heap.size<=W1.heap.size:=HK1.out.size;have hl1:w.heap.size < W1.heap.size:=(bL HX1.out);clear hka;go_upto_region 3 with fail
 generalize hW2:W1.alloc (.cells #[] 41)=W2 at HMd HK2 HX2 HB2 |-;clear hW2;by_cases hn:pss.length=0
 case pos =>
  have hn1:((pss.length:Int) == 0)=true:=beq_iff_eq.2 (by omega);have HE:Hid (al=[]):=(by show _=_;rw [HAl.out,List.length_eq_zero_iff.1 hn];rfl);clear hn;go_wp2;go_ret;exact ⟨_,[],rfl,z3O HMd.out hw1,by rw [HE.out];exact zS.nil _ _,HK2.out⟩
 case neg =>
  have hn1:((pss.length:Int) == 0)=false:=beq_eq_false_iff_ne.2 (by omega)
  have hok:ok=true:=by
   cases hok:ok with
   | true=>rfl
   | false =>
    rw [HNo.out hok] at hn;exact absurd rfl hn
  obtain ⟨htk,hrl,hln⟩:=HOk.out hok;have htb:=z0O htk;have hpb:=HBl.out
  have hhf:0<=t.head/\0<=t.foot/\t.head<=t.rows.length/\t.foot<=t.rows.length:=by
   obtain ⟨H,E,hH,hE,h1,h2,h3,h4⟩:=z8j htk;have:=htb;omega
  obtain ⟨z0,z1,z2,z3,z4⟩:=zP HX2.out;go_wp2_with fail
  refine (KR.out _ HK2.out).mono ?_;rintro e W3 ⟨v2,rfl,hI,hb3⟩;obtain ⟨ax,cx,rfl⟩:=hI.form;have hz3:=hb3.size;have hzz:=HB2.out.size;have HI:=O (z3O hI.owns (show W1.heap.size<=W2.heap.size from hzz));have HB3:=O (HB2.out.trans (hb3.mono hzz));have HK3:=O (zi HK2.out hb3);have HX3:=O ((hb3.block _ (bL HX2.out)).trans HX2.out);have HO3:=O (z2t HMd.out hb3);clear hI hb3 HK2 HX2 HMd z0 z1 z2 z3 z4 KR HB2 hok HOk HNo HBl;have hrl8:rs.length<=8:=(by omega);have HRl:=O hrl;clear hrl;go_wp2_with fail
  go_loopw [8,10] (λo i W=>∃ (k:Nat) (us:List Value),i=int i64 (k:Int)/\k<=pss.length/\Hid (us.length=k)/\Hid (W.ownsRow W1.heap.size 41 1 o us.length us)/\Hid (zS W W1.heap.size us ((pss.take k).map (λb=>z00 t rs ++ b ++ z01 t rs)))/\Hid (W.ownsRow W1.heap.size 3 1 (.slice ax rs.length cx) rs.length (rs.map (Value.int .i64)))/\Hid (Below W1.heap.size W1 W)) (λ_ i _=>pss.length - (intOf i).toNat)
  case atStart=>exact ⟨0,[],rfl,nZ,rfl,HO3,zS.nil _ _,HI,HB3⟩
  case round =>
   clear HO3 HI HB3 HK3 HX3;obtain ⟨k,us,rfl,hk,HLu,HO,HR,HI,HB⟩:=hrel;obtain ⟨ao,co,rfl,_⟩:=zT HO.out;have HX:=O ((HB.out.block w.heap.size hl1).trans HX1.out);have hBs:=HB.out.size;by_cases hlt:k < pss.length
   case neg =>
    obtain rfl:k=pss.length:=by omega
    have HKe:=O (HK1.out.trans (HB.out.mono hw1));rw [List.take_length] at HR;go_wp2;go_ret;exact ⟨_,us,rfl,z3O HO.out hw1,by rw [HAl.out];exact HR.out.base hw1,HKe.out⟩
   case pos =>
    obtain ⟨gb,go,cap',u1,e1,hc11,hc12,hgb,x0,hs1⟩:=(HP1.out.kept HB.out).get hlt;simp only [Value.slice.injEq,true_and] at e1;obtain ⟨rfl,rfl⟩:=e1;unfold maxLen at hc12;have hl2:=hln k hlt 2;have hl3:=hln k hlt 3
    have HTk:Hid ((pss.take (k+1)).map (λb=>z00 t rs ++ b ++ z01 t rs)=(pss.take k).map (λb=>z00 t rs ++ b ++ z01 t rs) ++ [z00 t rs ++ pss.getD k [] ++ z01 t rs]):=by
     show _=_;have e:pss.getD k []=pss[k]:=(by simp [List.getD,hlt]);rw [List.take_succ_eq_append_getElem hlt,List.map_append,e];rfl
    generalize hpg:pss.getD k []=pg at hs1 hl2 hl3 HTk;clear hpg;obtain ⟨au,cu,rfl,hlu⟩:=At.form hs1;unfold maxLen at hlu;have HG:=O hs1;have X0:=O x0;have HAu:=O (zf8 hs1);have HNl:Hid ((pg.flatMap z0C).length=pg.length * 3):=z6n z0C 3 (λ_=>rfl) pg;have HCl:=O (zhO pg);have hl0:=(bL HX.out);have HIx:=O ((zt.of_owns HI.out).at);have KH:Hid (∀ W,Below wr.heap.size wr W->Calls prog 34 #[.slice ax rs.length cx,int i64 0,int i64 t.head] W λe w'=>∃ u,e=.returned u/\zx w' W.heap.size u (z00 t rs)/\Below W.heap.size W w'):=λW h=>z4w rs 0 t.head.toNat (by have:=HRl.out;omega) (by omega) 0 t.head rfl (by omega) _ W (HIx.out.kept h);have KF:Hid (∀ W,Below wr.heap.size wr W->Calls prog 34 #[.slice ax rs.length cx,int i64 ((rs.length:Int) - t.foot),int i64 (rs.length:Int)] W λe w'=>∃ u,e=.returned u/\zx w' W.heap.size u (z01 t rs)/\Below W.heap.size W w'):=λW h=>z4w rs (t.rows.length - t.foot.toNat) t.foot.toNat (by have:=HRl.out;omega) (by omega) ((rs.length:Int) - t.foot) (rs.length:Int) (by have:=HRl.out;omega) (by have:=HRl.out;omega) _ W (HIx.out.kept h);generalize z00 t rs=hp at *;generalize z01 t rs=fp at *;simp only [List.take,List.flatten_cons,List.flatten_nil,List.append_nil,List.length_append] at hl2 hl3;have hwf:IntKind.i64.wrap ((rs.length:Int) - t.foot)=(rs.length:Int) - t.foot:=(by rw [IntKind.wrap_i64];omega);clear hs1 hln;obtain ⟨z0,z1,z2,z3,z4⟩:=zP HX.out;go_upto_region 9 with fail
    clear z0 z1 z2 z3 z4 x0;refine z0r (λL act W=>∃ v11 v30 v31 v32 v33 v34 v35 v36 v37 v38:Value,act=⟨#[.agg #[.slice ac t.cols.length cc,int i64 t.head,int i64 t.foot,.slice ar t.rows.length cr,int i64 t.gap],int i64 width,.slice ah high.length ch,.pointer (some ⟨w.heap.size,0,none⟩),undef,undef,.slice none 0 0,.slice (some ⟨gb,go,none⟩) pss.length c1,.slice ao us.length co,.slice ax rs.length cx,int i64 (k:Int),v11,.agg #[.slice ac t.cols.length cc,int i64 t.head,int i64 t.foot,.slice ar t.rows.length cr,int i64 t.gap],int i64 width,.slice ah high.length ch,.slice (some ⟨gb,go,none⟩) pss.length c1,.slice (some ⟨W1.heap.size,0,none⟩) 0 0,.slice (some ⟨gb,go,none⟩) pss.length c1,int i64 (pss.length:Int),.bool false,undef,.agg #[.slice ac t.cols.length cc,int i64 t.head,int i64 t.foot,.slice ar t.rows.length cr,int i64 t.gap],int i64 width,.slice ax rs.length cx,int i64 (k:Int),.slice (some ⟨gb,go,none⟩) pss.length c1,int i64 (pss.length:Int),.bool true,u28,u29,v30,v31,v32,v33,v34,v35,v36,v37,v38,u39,u40,u41,u42,u43,u44,u45,u46,u47,u48,u49,u50,u51,u52,undef],[]⟩/\PbJ gb go k pss.length c1 cu cx rs.length w.heap.size ac ar ax au cc cr t pg hp wr L W v11 v30 v31 v32 v33 v34 v35 v36 v37 v38) hmx (by kernel_rfl) ?hs ?hd ?h0
    case h0=>exact e10 ⟨rfl,⟨n0,n0,n0,n0,n0,n0,n0,n0,n0,n0,λ_=>z0Z bR⟩⟩
    case hd =>
     intro L act W hJ hall;obtain ⟨v11,v30,v31,v32,v33,v34,v35,v36,v37,v38,ha,J⟩:=hJ;subst ha;obtain ⟨hb5,hO5⟩:=J.f9 (hall 9 (by decide));obtain ⟨h9,c9,rfl,_⟩:=zT hO5;have hz5:=hb5.size;have HO5:=O hO5;have HB5:=O hb5;have hX5:=(hb5.block _ hl0).trans HX.out;obtain ⟨z0,z1,z2,z3,z4⟩:=zP hX5;clear J hall KH hO5 hb5;go_wp2_with fail
     refine (KF.out _ HB5.out).mono ?_;rintro e W6 ⟨uf,rfl,hOf,hb6⟩;obtain ⟨hf9,cf9,rfl,_⟩:=zT hOf;have hz6:=hb6.size;have hO6:W6.ownsRow wr.heap.size 45 3 (.slice h9 (hp ++ pg).length c9) (hp ++ pg).length ((hp ++ pg).flatMap z0C):=zx.kept HO5.out hb6;have HPf:=O (zx.at hOf);have HNf:Hid ((fp.flatMap z0C).length=fp.length * 3):=z6n z0C 3 (λ_=>rfl) fp;have HB6:=O (HB5.out.trans (hb6.mono hz5));have hl4:(hp ++ pg).length+fp.length<=100000:=(by rw [List.length_append];omega);clear hOf hb6 KF z0 z1 z2 z3 z4 hX5;generalize hhp:hp ++ pg=hpg at hO6 hl4 |-;have HHp:=O hhp;clear hhp;go_wp2_with (at_builtin;refine wpList_plain rfl λK hK=>z5T _ (.tmp 40) (.tmp 49) 41 rfl wr.heap.size 45 i0 _ 3 24 underlying41 hi hz0 hz1 hz2 rfl (by decide) _ _ _ rfl hO6 hf9 fp.length cf9 (fp.flatMap z0C) rfl (zf8 HPf.out) HNf.out (λp hp=>zaQ (by rw [<-hp];exact HPf.out)) (zhO fp) (by unfold maxLen;omega) (by omega) (by omega) ?_)
     intro v' W7 hown7 hg7;refine hK _ _ ?_;have hO7:zx W7 wr.heap.size v' (hp ++ pg ++ fp):=(by rw [HHp.out];exact zf7 hown7);have hB7:=HB6.out.grown hg7 (by omega) (λb hb=>(World.ownsRow.lt hO6 b hb).1);have hz7:=hB7.size;obtain ⟨h7,c7,rfl,_⟩:=zT hO7;rw [HHp.out] at hO7 |-;rw [List.length_append] at hO7 |-;have hO8:=z2t HO.out hB7;have HU7:=O hO7;have HB7:=O hB7;have HLs:=HLu.out;have hus:us.length<=100000:=(by omega);have HHL:=O HLs;clear HLs hown7 hg7 hO6 HB6 HB5 HO5 hO7 hB7 hK;go_wp2_with (at_builtin;refine wpList_append_own _ rfl _ _ 30 rfl W1.heap.size 41 j0 _ 1 24 underlying30 hj hy0 hy1 hy2 rfl (by decide) _ _ _ rfl (hO8.alloc _) ⟨W7.heap.size,0,none⟩ 1 1 [.slice h7 (hpg.length+fp.length) c7] rfl rfl ?c1 ?c2 ?c3 ?c4 ?c5 ?_)
     case c1=>exact z0N (zk W7 _)
     case c2=>simp [Value.oneCell']
     case c3=>unfold maxLen;omega
     case c4=>omega
     case c5=>simp;omega
     intro v9 W9 hown9 hg9 _;have hOA:=hO8.alloc (.cells #[.slice h7 (hpg.length+fp.length) c7] 41);have KA:=ze (Below.refl W7.heap.size W7) (.cells #[.slice h7 (hpg.length+fp.length) c7] 41)
     have HR9:Hid (zS W9 W1.heap.size (us ++ [.slice h7 (hpg.length+fp.length) c7]) ((pss.take (k+1)).map (λb=>hp ++ b ++ fp))):=by
      show zS _ _ _ _;rw [HTk.out,HHp.out];exact (((HR.out.kept HB7.out).kept KA).grown hOA hg9).app (zS.one (zx.grown (zx.kept (zx.base HU7.out hBs) KA) hOA hg9))
     have HI9:=O (zfZ (z2t (z2t HI.out HB7.out) KA) hOA (by decide) hg9);have HB9:=O ((ze (HB.out.trans (HB7.out.mono hBs)) (.cells #[.slice h7 (hpg.length+fp.length) c7] 41)).grown hg9 (by simp;omega) (λb hb=>(World.ownsRow.lt hO8 b hb).1));have HL9:Hid ((us ++ [Value.slice h7 (hpg.length+fp.length) c7]).length=k+1):=(by show _=_;rw [List.length_append,HLu.out];rfl)
     have HO9:Hid (W9.ownsRow W1.heap.size 41 1 v9 (us ++ [Value.slice h7 (hpg.length+fp.length) c7]).length (us ++ [Value.slice h7 (hpg.length+fp.length) c7])):=by
      show World.ownsRow _ _ _ _ _ _ _;rw [List.length_append];exact hown9
     obtain ⟨ao9,co9,rfl,_⟩:=zT HO9.out;clear hown9 hg9 hOA KA HO HR HI HB HLu hO8 HU7 HB7;generalize us ++ [Value.slice h7 (hpg.length+fp.length) c7]=us9 at *;go_wp2;go_roundw
     case rel=>exact ⟨k+1,us9,by go_num,by omega,HL9,HO9,HR9,HI9,HB9⟩
     case measure=>simp [intOf];omega
    case hs =>
     intro L act W i o hJ hcl ho hLi haft K hK;obtain ⟨v11,v30,v31,v32,v33,v34,v35,v36,v37,v38,ha,J⟩:=hJ;subst ha
     have hi':i < 10:=by
      have:=(bL ho)
      simpa using this
     rcases (by omega:i=0\/i=1\/i=2\/i=3\/i=4\/i=5\/i=6\/i=7\/i=8\/i=9) with rfl | rfl | rfl | rfl | rfl | rfl | rfl | rfl | rfl | rfl
     all_goals
      simp only [List.getElem?_toArray,List.getElem?_cons_zero,List.getElem?_cons_succ,Option.some.injEq] at ho;subst ho;clear hi'
     ·have hN:=Pl hcl 9 [8,3] hLi;have hB:=J.b hN;go_simp;exact hK _ _ (e10 ⟨rfl,⟨λ_=>rfl,V J.f1,V J.f2,ug (Qh hcl 3 0 hLi),V J.f4,V J.f5,V J.f6,V J.f7,ug (Pl hcl 8 [3] hLi),ug (Pl hcl 9 [8,3] hLi),λ_=>hB⟩⟩)
     ·have hN:=Pl hcl 9 [8,3,2] hLi;have hB:=J.b hN;go_simp;exact hK _ _ (e10 ⟨rfl,⟨V J.f0,λ_=>rfl,ug (Qh hcl 2 1 hLi),ug (Pl hcl 3 [2] hLi),V J.f4,V J.f5,V J.f6,V J.f7,ug (Pl hcl 8 [3,2] hLi),ug (Pl hcl 9 [8,3,2] hLi),λ_=>hB⟩⟩)
     ·have hN:=Pl hcl 9 [8,3] hLi;have hB:=J.b hN;obtain rfl:=J.f1 (Fa haft 1);obtain ⟨q0,q1,q2,q3,q4⟩:=zP ((hB.block _ hl0).trans HX.out);go_simp;exact hK _ _ (e10 ⟨rfl,⟨V J.f0,V J.f1,λ_=>rfl,ug (Qh hcl 3 2 hLi),V J.f4,V J.f5,V J.f6,V J.f7,ug (Pl hcl 8 [3] hLi),ug (Pl hcl 9 [8,3] hLi),λ_=>hB⟩⟩)
     ·have hN:=Pl hcl 9 [8] hLi;have hB:=J.b hN;obtain rfl:=J.f0 (Fa haft 0);obtain rfl:=J.f2 (Fa haft 2);go_simp;go_wp2_with (go_at_call 34;refine (KH.out W hB).mono ?_;rintro e W2 ⟨v,rfl,hO,hb⟩;replace hO:=zx.base hO hB.size)
      exact e10 ⟨rfl,⟨V J.f0,V J.f1,V J.f2,λ_ _=>hO,V J.f4,V J.f5,V J.f6,V J.f7,ug (Qh hcl 8 3 hLi),ug (Pl hcl 9 [8] hLi),λ_=>zi hB hb⟩⟩
     ·have hN:=Pl hcl 9 [8,7,6] hLi;have hB:=J.b hN;go_simp;exact hK _ _ (e10 ⟨rfl,⟨V J.f0,V J.f1,V J.f2,u2 J.f3,λ_=>rfl,V J.f5,ug (Qh hcl 6 4 hLi),ug (Pl hcl 7 [6] hLi),ug (Pl hcl 8 [7,6] hLi),ug (Pl hcl 9 [8,7,6] hLi),λ_=>hB⟩⟩)
     ·have hN:=Pl hcl 9 [8,7,6] hLi;have hB:=J.b hN;go_simp;exact hK _ _ (e10 ⟨rfl,⟨V J.f0,V J.f1,V J.f2,u2 J.f3,V J.f4,λ_=>rfl,ug (Qh hcl 6 5 hLi),ug (Pl hcl 7 [6] hLi),ug (Pl hcl 8 [7,6] hLi),ug (Pl hcl 9 [8,7,6] hLi),λ_=>hB⟩⟩)
     ·have hN:=Pl hcl 9 [8,7] hLi;have hB:=J.b hN;obtain rfl:=J.f4 (Fa haft 4);obtain rfl:=J.f5 (Fa haft 5);go_simp;exact hK _ _ (e10 ⟨rfl,⟨V J.f0,V J.f1,V J.f2,u2 J.f3,V J.f4,V J.f5,λ_=>rfl,ug (Qh hcl 7 6 hLi),ug (Pl hcl 8 [7] hLi),ug (Pl hcl 9 [8,7] hLi),λ_=>hB⟩⟩)
     ·have hN:=Pl hcl 9 [8] hLi;have hB:=J.b hN;obtain rfl:=J.f6 (Fa haft 6);have x0:=(hB.cell (p:=⟨gb,go+k,none⟩) hgb).trans X0.out;have hgl:=nL hgb hB.size;go_simp;exact hK _ _ (e10 ⟨rfl,⟨V J.f0,V J.f1,V J.f2,u2 J.f3,V J.f4,V J.f5,V J.f6,λ_=>rfl,ug (Qh hcl 8 7 hLi),ug (Pl hcl 9 [8] hLi),λ_=>hB⟩⟩)
     ·have hN:=Qh hcl 9 8 hLi;have hB:=J.b hN;have hO0:=J.f3 (Fa haft 3) hLi;obtain ⟨h1,c1x,rfl,_⟩:=zT hO0;obtain rfl:=J.f7 (Fa haft 7);have hO:W.ownsRow wr.heap.size 45 3 (.slice h1 hp.length c1x) hp.length (hp.flatMap z0C):=hO0;rw [if_pos (by rfl)];refine z5T _ (.tmp 33) (.tmp 37) 41 rfl wr.heap.size 45 i0 _ 3 24 underlying41 hi hz0 hz1 hz2 rfl (by decide) _ _ _ rfl hO au pg.length cu (pg.flatMap z0C) rfl HAu.out HNl.out (λp hp=>zaQ (by rw [<-hp];exact HG.out.kept hB)) HCl.out (by unfold maxLen;omega) (by omega) hB.size ?_;intro v' w5 hown' hgrow';exact hK _ _ (e10 ⟨rfl,⟨V J.f0,V J.f1,V J.f2,λ_ h=>absurd (h.symm.trans zK) (by simp),V J.f4,V J.f5,V J.f6,V J.f7,λ_ _=>zf7 hown',ug (Qh hcl 9 8 hLi),λ_=>hB.grown hgrow' hB.size (λq hq=>(hO.lt q hq).1)⟩⟩)
     ·have hN:=hLi;have hB:=J.b hN;have hO1:=J.f8 (Fa haft 8) hLi;go_simp;exact hK _ _ (e10 ⟨rfl,⟨V J.f0,V J.f1,V J.f2,u2 J.f3,V J.f4,V J.f5,V J.f6,V J.f7,λ_ h=>absurd (h.symm.trans zK) (by simp),λ_=>⟨hB,hO1⟩,λh=>absurd (h.symm.trans zK) (by simp)⟩⟩)
structure zlk (t:T) (hs:List Int) (pss:List (List zm)) (E:Nat):Prop where
 tl:(t.rows.length:Int) - t.foot=E
 hd:0<=t.head/\t.head<=E
 le:E<=t.rows.length
 run:z1A hs ⟨t.head,0,false⟩ pss.flatten
 ready:z4A hs (z25 hs ⟨t.head,0,false⟩ pss.flatten) E
 rows:∀ s ∈ pss.flatten,t.head<=s.r/\s.r < E
def zll (hs:List Int) (p:Pos) (pss:List (List zm)) (i k:Nat):Pos:=z25 hs p ((pss.take i).flatten ++ (pss.getD i []).take k)
structure SP (w:World) (tb:Nat) (ac ar:Option Addr) (cc cr:Nat) (t:T) (vh:Value) (high:List Int) (W:World):Prop where
 st:St w tb ac ar cc cr t W
 hi:zA W vh high
theorem SP.kept {w W W':World} {tb:Nat} {ac ar:Option Addr} {cc cr:Nat} {t:T} {vh:Value} {high:List Int} (h:SP w tb ac ar cc cr t vh high W) (k:Below W.heap.size W W'):SP w tb ac ar cc cr t vh high W':=⟨h.st.kept k,h.hi.kept k⟩
theorem zhP {t:T} {width:Int} {high:List Int} (h:z29 t width high=false):z0H t width high=[]:=by unfold z0H;rw [if_neg (by rw [h];simp)]
def zlm (hs:List Int) (E:Nat) (p:Pos) (s:zm):Prop :=
 (∃ n:Nat,p.row=n/\n < E/\s.r=n/\s.f=p.line/\¬ s.t < s.f/\¬ hs.getD n 0 < s.t/\(s.f=s.t->¬ 0 < hs.getD n 0)/\z4z hs p s=⟨n,s.t,true⟩)
 \/ (∃ n m:Nat,p.row=n/\(n:Int)+1=m/\n < E/\m < E/\p.seen=true/\p.line=hs.getD n 0/\s.r=m/\s.f=0/\¬ s.t < s.f/\¬ hs.getD m 0 < s.t/\(s.f=s.t->¬ 0 < hs.getD m 0)/\z4z hs p s=⟨m,s.t,true⟩)
def bgS (st:List Int) (r:Int):Nat->Int
 | 0=>0
 | k+1=>if st.getD k 0<=r then st.getD k 0 else bgS st r k
def bkT (pg:List zm) (st:List Int):Nat->Int × Int
 | 0=>(0,-1)
 | k+1=>if bgS st (pg.getD k dP).r st.length ≠ (bkT pg st k).2/\(pg.getD k dP).f < (pg.getD k dP).t then ((bkT pg st k).1+1,bgS st (pg.getD k dP).r st.length) else bkT pg st k
def zdZ (pg:List zm) (st:List Int):Bool:=decide (z5B pg<=1) || decide ((bkT pg st pg.length).1<=1)
theorem zhT (pg:List zm) (st:List Int):∀ k,0<=(bkT pg st k).1/\(bkT pg st k).1<=k
 | 0=>by simp [bkT]
 | k+1=>by
  have:=zhT pg st k;rw [bkT]
  split
  ·simp only;omega
  ·omega
theorem ze0 {st:List Int} (hpw:st.Pairwise (· < ·)) {m:Nat} (hm:m < st.length) {r:Int} (h1:st.getD m 0<=r) (h2:m+1 < st.length->r < st.getD (m+1) 0):∀ k,m < k->k<=st.length->bgS st r k=st.getD m 0
 | 0,h,_=>absurd h (Nat.not_lt_zero m)
 | j+1,hj,hl=>by
  rw [bgS]
  rcases Nat.lt_or_ge m j with h | h
  ·rw [if_neg,ze0 hpw hm h1 h2 j h (by omega)];have h3:=h2 (by omega);have e1:st.getD (m+1) 0=st[m+1]'(by omega):=(by simp [List.getD,show m+1 < st.length by omega]);have e2:st.getD j 0=st[j]'(by omega):=(by simp [List.getD,show j < st.length by omega]);rw [e1] at h3;rw [e2]
   rcases Nat.lt_or_ge (m+1) j with h4 | h4
   ·have:=List.pairwise_iff_getElem.1 hpw (m+1) j (by omega) (by omega) h4;omega
   ·obtain rfl:j=m+1:=by omega
    omega
  ·obtain rfl:j=m:=by omega
   rw [if_pos h1]
theorem zch {pg:List zm} {st:List Int} {a:Int} (ha:0<=a) (h:∀ k,k < pg.length->bgS st (pg.getD k dP).r st.length=a):∀ k,k<=pg.length->(bkT pg st k=(0,-1))\/((bkT pg st k).1=1/\(bkT pg st k).2=a)
 | 0,_=>.inl rfl
 | k+1,hk=>by
  have e:=h k (by omega);rw [bkT,e]
  rcases zch ha h k (by omega) with h1 | ⟨h1,h2⟩
  ·rw [h1]
   split
   ·exact .inr ⟨rfl,rfl⟩
   ·exact .inl rfl
  ·rw [if_neg (λc=>c.1 h2.symm)];exact .inr ⟨h1,h2⟩
theorem ze1 {t:T} {hs:List Int} {L:List Nat}:∀ k,∀ p ∈ z1b t hs L k,(∃ r f:Int,p=[⟨r,f,f+1⟩])\/∃ m,m < k/\p=zO hs (L.getD m 0) (L.getD (m+1) 0 - L.getD m 0)
 | 0,p,hp=>by cases hp
 | k+1,p,hp=>by
  rw [z1b] at hp
  rcases List.mem_append.1 hp with h1 | h1
  ·rcases ze1 k p h1 with h2 | ⟨m,hm,h2⟩
   ·exact .inl h2
   ·exact .inr ⟨m,by omega,h2⟩
  ·unfold z1s at h1
   split at h1
   ·split at h1
    ·rw [z0q,List.mem_map] at h1;obtain ⟨i,_,rfl⟩:=h1;exact .inl ⟨_,_,rfl⟩
    ·rw [List.mem_singleton] at h1;exact .inr ⟨k,by omega,h1⟩
   ·cases h1
theorem zci (hs:List Int):∀ (n a k:Nat),k < n->((zO hs a n).getD k dP).r=((a+k:Nat):Int)
 | n+1,a,0,_=>rfl
 | n+1,a,k+1,h=>by
  show ((zO hs (a+1) n).getD k dP).r=_;rw [zci hs n (a+1) k (by omega),show a+(k+1)=a+1+k by omega]
theorem zk4 (r f:Int):z0S [[⟨r,f,f+1⟩]]=[⟨r,f,f+1⟩]:=rfl
theorem zj5 (hs:List Int) (a n:Nat):z0S [zO hs a n]=zO hs a n:=by
 have:=(z5Y hs n a [] (λx hx=>by cases hx)).1
 simpa [z0S] using this
theorem zhU {t:T} {hs:List Int} {p:List zm} (hp:p ∈ z0x t hs):zdZ (z0S [p]) (zL (Z t).cells t.rows.length)=true:=by
 rw [zdZ,Bool.or_eq_true,decide_eq_true_eq,decide_eq_true_eq]
 rcases ze1 _ p hp with ⟨r,f,rfl⟩ | ⟨m,hm,rfl⟩
 ·refine .inl ?_;rw [zk4];simp [z5B,z2C,dP,z5S];omega
 ·refine .inr ?_;rw [zj5];have hb:=z4H (Z t).cells t.rows.length;have hpr:=z6I (Z t).cells t.rows.length;have g1:=z7t (gs:=(Z t).cells) (R:=t.rows.length) (k:=m) (by omega);have g2:=z7t (gs:=(Z t).cells) (R:=t.rows.length) (k:=m+1) (by omega);have hst:=z3o (gs:=(Z t).cells) (R:=t.rows.length) (k:=m) (by omega);generalize (z0g (Z t).cells t.rows.length).getD m 0=a at g1 hst |-;generalize (z0g (Z t).cells t.rows.length).getD (m+1) 0=b at g2 hst |-
  have hpw:(zL (Z t).cells t.rows.length).Pairwise (· < ·):=by
   have h1:((z0g (Z t).cells t.rows.length).map (λr:Nat=>(r:Int))).Pairwise (· < ·):=by
    rw [List.pairwise_map];exact hpr.imp (λh=>by omega)
   rw [zcN] at h1;exact (List.pairwise_append.1 h1).1
  generalize zL (Z t).cells t.rows.length=st at *
  have e1:(st ++ [(t.rows.length:Int)]).getD m 0=st.getD m 0:=by
   rw [List.getD_eq_getElem?_getD,List.getElem?_append_left hm,<-List.getD_eq_getElem?_getD]
  rw [e1] at g1
  have hall:∀ k,k < (zO hs a (b - a)).length->bgS st ((zO hs a (b - a)).getD k dP).r st.length=(a:Int):=λk hk=>by
   rw [z1l] at hk;rw [zci _ _ _ _ hk,<-g1];refine ze0 hpw hm (by rw [g1];omega) (λh=>?_) _ hm lR
   have e2:(st ++ [(t.rows.length:Int)]).getD (m+1) 0=st.getD (m+1) 0:=by
    rw [List.getD_eq_getElem?_getD,List.getElem?_append_left h,<-List.getD_eq_getElem?_getD]
   rw [e2] at g2;rw [g2];omega
  rcases zch (by omega) hall _ lR with h1 | ⟨h1,_⟩
  ·rw [h1];decide
  ·omega
def z9I (high:List Int) (i:Nat):Int:=if i < high.length then high.getD i 0 else high.getD (high.length - 1) 0
theorem zj6 {high:List Int} (h1:1<=high.length) (bes:Int) (i:Nat):zN (high.map (· - bes)) i=z9I high i - bes:=by
 have hj:min i (high.length - 1) < high.length:=(by omega);unfold zN z9I;rw [List.length_map,List.getD_eq_getElem?_getD,List.getElem?_map,List.getElem?_eq_getElem hj];simp only [Option.map_some,Option.getD_some]
 split
 ·rename_i h
  have e:min i (high.length - 1)=i:=(by omega);simp [List.getD,h,e]
 ·rename_i h
  have e:min i (high.length - 1)=high.length - 1:=(by omega);simp [List.getD,e,show high.length - 1 < high.length by omega]
theorem zg2 {t:T} (hD:z0h t) {width:Int} {high:List Int} (hp:z29 t width high=true):(1<=high.length/\high.length<=60)/\(z5e t width high).length=(z0H t width high).length/\∀ i,i < (z0H t width high).length->((z0H t width high).getD i []).length<=50000/\(z9I high i < z5B ((z5e t width high).getD i [])->0 < ((z0H t width high).getD i []).length->zdZ ((z0H t width high).getD i []) (zL (Z t).cells t.rows.length)=true):=by
 have hok2:=hp;unfold z29 at hok2;rw [Bool.and_eq_true,Bool.and_eq_true,Bool.and_eq_true] at hok2;obtain ⟨⟨hok,hw⟩,hlh,_⟩:=hok2
 have hl:1<=high.length/\high.length<=60:=by
  simp only [zM,decide_eq_true_eq] at hlh;omega
 refine ⟨hl,by unfold z5e;rw [List.length_map],λi hi=>⟨zaF hD hp hi,λhgt hne=>?_⟩⟩
 have e:(z5e t width high).getD i []=z00 t (zD t width) ++ (z0H t width high).getD i [] ++ z01 t (zD t width):=by
  unfold z5e;rw [List.getD_eq_getElem?_getD,List.getElem?_map,List.getElem?_eq_getElem hi];simp [List.getD,hi]
 rw [e] at hgt;have hb:=z7i (t:=t) (x:=width);have hbd:z0H t width high=z3e (high.map (· - (zv (z00 t (zD t width))+zv (z01 t (zD t width))))) (z0x t (zD t width)):=(by unfold z0H;rw [if_pos hp]);have hG:=z9l hD hok hb (high.map (· - (zv (z00 t (zD t width))+zv (z01 t (zD t width)))));have hfl:(z3b (high.map (· - (zv (z00 t (zD t width))+zv (z01 t (zD t width))))) (z0x t (zD t width))).flatten=z0x t (zD t width):=hG.flat;rw [z8F] at hbd;obtain ⟨H,E,hH,hE,h1,h2,h3,h4⟩:=z8j hok
 have bh:0<=zv (z00 t (zD t width))/\zv (z00 t (zD t width))<=1000000:=by
  have:=z3n hb t.head.toNat 0 (by omega);unfold z00;omega
 have bf:0<=zv (z01 t (zD t width))/\zv (z01 t (zD t width))<=1000000:=by
  have:=z3n hb t.foot.toNat (t.rows.length - t.foot.toNat) (by omega);unfold z01;omega
 have hroom:=zj6 hl.1 (zv (z00 t (zD t width))+zv (z01 t (zD t width))) i;generalize z00 t (zD t width)=hp' at *;generalize z01 t (zD t width)=fp at *
 have hfit:∀ hj:i < (z3b (high.map (· - (zv hp'+zv fp))) (z0x t (zD t width))).length,((z3b (high.map (· - (zv hp'+zv fp))) (z0x t (zD t width)))[i]).length<=1\/zv ((z3b (high.map (· - (zv hp'+zv fp))) (z0x t (zD t width)))[i]).flatten<=zN (high.map (· - (zv hp'+zv fp))) i:=λhj=>by
  unfold z3b at hj |-;generalize (z0x t (zD t width)).foldl (z3K (high.map (· - (zv hp'+zv fp)))) ([],[])=st at hG hj |-;rw [List.length_append,List.length_singleton] at hj
  rcases Nat.lt_or_ge i st.1.length with h | h
  ·have:=hG.fit i h;rw [List.getElem_append_left h]
   simpa [List.getD,h] using this
  ·obtain rfl:i=st.1.length:=by omega
   have:=hG.fit2
   simpa using this
 clear hG;generalize z3b (high.map (· - (zv hp'+zv fp))) (z0x t (zD t width))=gs at hbd hfl hfit;rw [hbd] at hi hgt hne |-;rw [List.length_map] at hi;have e0:(gs.map z0S).getD i []=z0S gs[i]:=(by simp [List.getD,hi]);rw [e0] at hgt hne |-
 have hsp:z0x t (zD t width)=(gs.take i).flatten ++ gs[i] ++ (gs.drop (i+1)).flatten:=by
  rw [<-hfl];have e1:gs=gs.take i ++ (gs[i] :: gs.drop (i+1)):=(by rw [<-List.drop_eq_getElem_cons hi,List.take_append_drop])
  conv=>lhs;rw [e1,List.flatten_append,List.flatten_cons]
  rw [List.append_assoc]
 have hlo:=z4g hD hok hb hsp;have hf:=hfit hi;rw [hroom] at hf;have hm:∀ p ∈ gs[i],p ∈ z0x t (zD t width):=λp hq=>by rw [hsp];simp [hq]
 have hmer:z0S gs[i]=gs[i].foldl z0b []:=rfl;generalize gs[i]=g at *;rw [<-hmer] at hlo
 have hhi:z5B (hp' ++ z0S g ++ fp)=zv hp'+zv (z0S g)+zv fp:=by
  rw [z5B,zcz,z1S,z1S];exact z33 (by omega)
 rw [hhi] at hgt
 have hg1:g.length<=1:=by
  rcases hf with hf | hf
  ·exact hf
  ·rw [<-hlo.2.2] at hf;omega
 match g,hg1 with
 | [],_=>exact absurd hne (by simp [z0S])
 | [p],_=>exact zhU (hm p (by simp))
 | _ :: _ :: _,h=>simp at h
end
section
open Go.RowKit Go.BigFrame
theorem zhV (vp vs:Value) (pg:List zm) (st:List Int) (w:World) {z:Nat} (h:z1W w z vp pg) (h2:zA w vs st) :
  Calls prog 19 #[vp,vs] w λe w'=>e=.returned (.bool (zdZ pg st))/\Below w.heap.size w w':=by
 obtain ⟨a,cap,rfl,hlen⟩:=At.form h;obtain ⟨a2,cap2,rfl,hlen2⟩:=h2.form;have hmx:prog.follows .mixedOrders=true:=(by kernel_rfl);have H:=O h;have H2:=O h2;clear h h2;go_enter func19,ntmps19;go_wp2_with fail
 go_loopw [5,6,7,8] (λn b l i W=>∃ k:Nat,k<=pg.length/\n=int i64 (wrap64 (z2C pg k))/\b=int i64 (bkT pg st k).1/\l=int i64 (bkT pg st k).2/\i=int i64 (k:Int)/\Hid (Below w.heap.size w W)) (λ_ _ _ i _=>pg.length - (intOf i).toNat)
 case atStart=>exact ⟨0,nZ,by simp [z2C,z5S],rfl,rfl,rfl,bR⟩
 case round =>
  obtain ⟨k,hk,rfl,rfl,rfl,rfl,HB⟩:=hrel;by_cases hlt:k < pg.length
  case neg =>
   obtain rfl:k=pg.length:=by omega
   have HO:Hid (zdZ pg st=(decide (wrap64 (z2C pg pg.length)<=1) || decide ((bkT pg st pg.length).1<=1))):=rfl;generalize wrap64 (z2C pg pg.length)=nn at HO |-;generalize (bkT pg st pg.length).1=bb at HO |-;by_cases h1:nn<=1
   ·go_wp2;go_ret;exact ⟨by rw [HO.out];simp [h1],HB.out⟩
   ·have hd:decide (nn<=1)=false:=decide_eq_false h1;go_wp2;go_ret;exact ⟨by rw [HO.out,hd];simp,HB.out⟩
  obtain ⟨b,off,cap',e',hc1,hc2,hbl,p0,p1,p2⟩:=At.get (H.out.kept HB.out) hlt;simp only [Value.slice.injEq,true_and] at e';obtain ⟨rfl,rfl⟩:=e';unfold maxLen at hc2;have HS:=O (zeD pg k);have HK:=O (zhT pg st k);have HT:Hid (bkT pg st (k+1)=if bgS st (pg.getD k dP).r st.length ≠ (bkT pg st k).2/\(pg.getD k dP).f < (pg.getD k dP).t then ((bkT pg st k).1+1,bgS st (pg.getD k dP).r st.length) else bkT pg st k):=rfl;generalize pg.getD k dP=x at p0 p1 p2 HS HT;generalize wrap64 (z2C pg k)=s at HS |-;generalize bkT pg st k=bl at HK HT |-;obtain ⟨bn,la⟩:=bl;simp only at HK HT |-;have P0:=O p0;have P1:=O p1;have P2:=O p2;have mp1:=zj hbl p1;have mp2:=zj hbl p2;clear p0;go_upto_region 7 with fail
  have hne:=z0t wr;clear p1 p2;refine zn hmx (by kernel_rfl) ?_;repeat (go_big_quiet_step (fail))
  refine wpQuiet_nil ?_;intro W7 hw';obtain ⟨⟨Wy,hW7⟩,hw''⟩:=hw';subst hw'';have HB7:=O hW7;have HBw:=O (zi HB.out hW7);clear hne hW7 mp1 mp2;go_wp2_with fail
  go_loopw [9,10] (λq i W=>∃ m:Nat,m<=st.length/\q=int i64 (bgS st x.r m)/\i=int i64 (m:Int)/\Hid (Below wr.heap.size wr W)) (λ_ i _=>st.length - (intOf i).toNat)
  case atStart=>exact ⟨0,nZ,rfl,rfl,HB7⟩
  case round=>as_aux_lemma =>
   obtain ⟨m,hm,rfl,rfl,HB2⟩:=hrel;have HBo:=O (zi HB.out HB2.out);have hz:=HB2.out.size;have q0:=(HB2.out.cell (p:=⟨b,off+k * 3,none⟩) hbl).trans P0.out;have q1:=(HB2.out.cell (p:=⟨b,off+k * 3+1,none⟩) hbl).trans P1.out;have q2:=(HB2.out.cell (p:=⟨b,off+k * 3+2,none⟩) hbl).trans P2.out;by_cases hlj:m < st.length
   case pos =>
    obtain ⟨rb,ro,rcap,er,ra1,ra2,ra3,ra4⟩:=(H2.out.kept HBo.out).get (i:=m) hlj;simp only [Value.slice.injEq,true_and] at er;obtain ⟨rfl,rfl⟩:=er;unfold maxLen at ra2;have HA:Hid (bgS st x.r (m+1)=if st.getD m 0<=x.r then st.getD m 0 else bgS st x.r m):=rfl;generalize st.getD m 0=y at ra4 HA;have mr:=zj ra3 ra4;have X4:=O ra4;have mq:=zj (a:=⟨b,off+k * 3,none⟩) (nL hbl hz) q0;by_cases hle:y<=x.r
    ·have hd:decide (y<=x.r)=true:=decide_eq_true hle;rw [if_pos hle] at HA;clear hle ra4 q0 q1 q2;generalize bgS st x.r m=old;go_upto_region 12 with fail
     have hne:=z0t wr;refine zn hmx (by kernel_rfl) ?_;repeat (go_big_quiet_step (fail))
     refine wpQuiet_nil ?_;intro W8 hw';obtain ⟨⟨Wy,hW8⟩,hw''⟩:=hw';subst hw'';have HB8:=O (zi HB2.out hW8);have r4:=(hW8.cell (p:=⟨rb,ro+m,none⟩) ra3).trans X4.out;clear hne hW8 mr mq;go_wp2;go_roundw
     case rel=>exact ⟨m+1,by omega,by rw [HA.out],by go_num,HB8⟩
     case measure=>simp [intOf];omega
    ·have hd:decide (y<=x.r)=false:=decide_eq_false hle;rw [if_neg hle] at HA;clear hle ra4 q0 q1 q2;generalize bgS st x.r m=old at HA |-;go_upto_region 12 with fail
     have hne:=z0t wr;refine zn hmx (by kernel_rfl) ?_;repeat (go_big_quiet_step (fail))
     refine wpQuiet_nil ?_;intro W8 hw';obtain ⟨⟨Wy,hW8⟩,hw''⟩:=hw';subst hw'';have HB8:=O (zi HB2.out hW8);clear hne hW8 mr mq;go_wp2;go_roundw
     case rel=>exact ⟨m+1,by omega,by rw [HA.out],by go_num,HB8⟩
     case measure=>simp [intOf];omega
   case neg =>
    obtain rfl:m=st.length:=by omega
    clear hm hlj;generalize bgS st x.r st.length=at_ at HT |-;have hw1:IntKind.i64.wrap (bn+1)=bn+1:=(by rw [IntKind.wrap_i64];have:=HK.out;omega);by_cases hat:at_=la
    case pos =>
     subst hat;have hn:(at_ != at_)=false:=(by simp);rw [if_neg (λc=>c.1 rfl)] at HT;clear q0 q1 q2;go_upto_region 14 with fail
     have hne:=z0t wr;refine zn hmx (by kernel_rfl) ?_;repeat (go_big_quiet_step (fail))
     refine wpQuiet_nil ?_;intro W8 hw';obtain ⟨⟨Wy,hW8⟩,hw''⟩:=hw';subst hw'';have HB8:=O (zi HBo.out hW8);clear hne hW8;go_wp2;go_roundw
     case rel=>exact ⟨k+1,by omega,by rw [<-HS.out],by rw [HT.out],by rw [HT.out],by go_num,HB8⟩
     case measure=>simp [intOf];omega
    case neg =>
     have hn:(at_ != la)=true:=(by simpa using hat);have m1:=zj (a:=⟨b,off+k * 3+1,none⟩) (nL hbl hz) q1;have m2:=zj (a:=⟨b,off+k * 3+2,none⟩) (nL hbl hz) q2;by_cases hft:x.f < x.t
     ·have hd:decide (x.f < x.t)=true:=decide_eq_true hft;rw [if_pos ⟨hat,hft⟩] at HT;clear hat hft q0 q1 q2;go_upto_region 14 with fail
      have hne:=z0t wr;refine zn hmx (by kernel_rfl) ?_;repeat (go_big_quiet_step (fail))
      refine wpQuiet_nil ?_;intro W8 hw';obtain ⟨⟨Wy,hW8⟩,hw''⟩:=hw';subst hw'';have HB8:=O (zi HBo.out hW8);clear hne hW8 m1 m2;go_wp2;go_roundw
      case rel=>exact ⟨k+1,by omega,by rw [<-HS.out],by rw [HT.out],by rw [HT.out],by go_num,HB8⟩
      case measure=>simp [intOf];omega
     ·have hd:decide (x.f < x.t)=false:=decide_eq_false hft;rw [if_neg (λc=>hft c.2)] at HT;clear hat hft q0 q1 q2;go_upto_region 14 with fail
      have hne:=z0t wr;refine zn hmx (by kernel_rfl) ?_;repeat (go_big_quiet_step (fail))
      refine wpQuiet_nil ?_;intro W8 hw';obtain ⟨⟨Wy,hW8⟩,hw''⟩:=hw';subst hw'';have HB8:=O (zi HBo.out hW8);clear hne hW8 m1 m2;go_wp2;go_roundw
      case rel=>exact ⟨k+1,by omega,by rw [<-HS.out],by rw [HT.out],by rw [HT.out],by go_num,HB8⟩
      case measure=>simp [intOf];omega
theorem ze5 {t:T} (hD:z0h t) {width:Int} {high:List Int} (hp:z29 t width high=true):z4d ⟨(Z t).rows,(Z t).cols,(Z t).cells⟩=zL (Z t).cells t.rows.length:=by
 have hok2:=hp;unfold z29 at hok2;rw [Bool.and_eq_true,Bool.and_eq_true] at hok2;have hok:=hok2.1.1;have hb:=z0O hok
 have hc:t.cols.length<=8:=by
  have h2:=hok;simp only [zG,z24,zM,z2c,Bool.and_eq_true,decide_eq_true_eq] at h2;omega
 have h:=zbw (z3E hok hD) (by omega) hc;rw [<-z2i hok] at h;show z4d (Z t)=_;rw [z61 h,z2i hok];simp
theorem zeC (A:Option Addr) (len cap:Nat) (hlen:len<=1048576) (w:World) (h:z3N w A len cap) :
  Calls prog 3 #[.slice A len cap] w λe w'=>e=.returned (.bool true)/\Below w.heap.size w w':=by
 have hl:¬ (1048576:Int) < (len:Int):=(by omega);have hmx:prog.follows .mixedOrders=true:=(by kernel_rfl);have HD:=O h;clear h;go_enter func3,ntmps3;go_wp2_with fail
 refine (zbi _ _ _ _ HD.out).mono ?_;rintro e w1 ⟨ac,ar,cc,cr,t,x,vh,high,rfl,hD,hxb,hsm,hC1,hW1,hH1,hb1⟩;obtain ⟨ah,ch,rfl,_⟩:=At.form hH1;have KA1:=ze (Below.refl w1.heap.size w1) (.cells #[.slice ac t.cols.length cc,int i64 t.head,int i64 t.foot,.slice ar t.rows.length cr,int i64 t.gap] 26);have HS:Hid (SP w w1.heap.size ac ar cc cr t (.slice ah high.length ch) high (w1.alloc (.cells #[.slice ac t.cols.length cc,int i64 t.head,int i64 t.foot,.slice ar t.rows.length cr,int i64 t.gap] 26))):=⟨⟨hb1.alloc hb1.size _,TA.kept ⟨hC1,hW1⟩ KA1,zk _ _⟩,hH1.ints.kept KA1⟩;have HAi:=O (λW (h:SP w w1.heap.size ac ar cc cr t (.slice ah high.length ch) high W)=>zfR ac ar cc cr t hD x (.slice ah high.length ch) high W h.st.2.1.1 h.st.2.1.2 h.hi);have HAs:=O (λW (h:SP w w1.heap.size ac ar cc cr t (.slice ah high.length ch) high W)=>zg0 ac ar cc cr t hD x (.slice ah high.length ch) high W h.st.2.1.1 h.st.2.1.2 h.hi);have HPi:=O (λW (h:SP w w1.heap.size ac ar cc cr t (.slice ah high.length ch) high W)=>z9k ac ar cc cr t hD x (.slice ah high.length ch) high W h.st.2.1.1 h.st.2.1.2 h.hi);have HOk:=O (λW (h:SP w w1.heap.size ac ar cc cr t (.slice ah high.length ch) high W)=>zcb ac ar cc cr t x (.slice ah high.length ch) high W h.st.2.1.1 h.st.2.1.2 h.hi);have HGi:=O (λW (h:TA W w.heap.size ac ar cc cr t)=>z5O ac ar cc cr t hD W h.1 h.2);have HGk:=O (z6i hD);have HF:=O (λhp=>And.intro (ze5 hD (width:=x) (high:=high) hp) (zg2 hD (width:=x) (high:=high) hp));have HNo:=O (λhp=>zhP (t:=t) (width:=x) (high:=high) hp);have HNa:Hid (z0H t x high=[]->z5e t x high=[]):=λh=>by unfold z5e;rw [h];rfl
 generalize z5e t x high=al at HAi HAs HF HNa;generalize z0H t x high=pss at HPi HF HNo HNa;generalize zL (Z t).cells t.rows.length=st at HF;generalize z29 t x high=ok at HOk HF HNo;clear hC1 hW1 hH1 hb1 hD HD hxb hsm KA1;go_upto_region 4 with fail
 generalize w1.alloc (.cells #[.slice ac t.cols.length cc,int i64 t.head,int i64 t.foot,.slice ar t.rows.length cr,int i64 t.gap] 26)=W1 at HS |-;generalize w1.heap.size=tb at HS HAi HAs HPi HOk |-;obtain ⟨z0,z1,z2,z3,z4⟩:=HS.out.st.at;go_wp2_with fail
 refine (HAi.out _ HS.out).mono ?_;rintro e W3 ⟨v3,us,rfl,hO3,hR3,hb3⟩;have hP3:=hR3.pss hO3 lR lR;obtain ⟨aq,cq,rfl,hlq⟩:=At.form hP3;unfold maxLen at hlq;have HPA:=O hP3;replace HS:=O (HS.out.kept hb3);clear hO3 hR3 hP3 hb3 z0 z1 z2 z3 z4 HAi;obtain ⟨z0,z1,z2,z3,z4⟩:=HS.out.st.at;go_wp2_with fail
 refine (HAs.out _ HS.out).mono ?_;rintro e W4 ⟨v4,us4,rfl,hO4,hR4,hb4⟩;have HP4:=O (hR4.pss hO4 lR lR);replace HS:=O (HS.out.kept hb4);replace HPA:=O (HPA.out.kept hb4);clear hO4 hR4 hb4 z0 z1 z2 z3 z4 HAs;obtain ⟨ap4,cp4,rfl,_⟩:=At.form HP4.out;go_wp2_with fail
 refine (zeA _ _ al W4 HPA.out HP4.out).mono ?_;rintro e W5 ⟨rfl,hb5⟩;replace HS:=O (HS.out.kept hb5);replace HPA:=O (HPA.out.kept hb5);clear HP4 hb5;obtain ⟨z0,z1,z2,z3,z4⟩:=HS.out.st.at;go_wp2_with fail
 refine (HOk.out _ HS.out).mono ?_;rintro e W6 ⟨rfl,hb6⟩;replace HS:=O (HS.out.kept hb6);replace HPA:=O (HPA.out.kept hb6);clear hb6 z0 z1 z2 z3 z4 HOk
 cases ok with
 | false =>
  obtain rfl:=HNo.out rfl;obtain rfl:=HNa.out rfl;have HK:=O HS.out.st.1;clear HNo HNa HF HPA HPi HGi;go_wp2_with fail
  refine (zj0 _).mono ?_;rintro e wa ⟨rfl,rfl⟩;go_wp2;go_ret;exact ⟨rfl,HK.out⟩
 | true =>
  obtain ⟨hst,⟨hn1,hn2⟩,hal,hpf⟩:=HF.out rfl;have HSt:=O hst;have HAl:=O hal;have HPf:=O hpf;clear HNo HNa HF hst hal hpf;obtain ⟨z0,z1,z2,z3,z4⟩:=HS.out.st.at;go_wp2_with fail
  refine (HPi.out _ HS.out).mono ?_;rintro e W7 ⟨v6,us6,rfl,hO6,hR6,hb6⟩;have hP6:=hR6.pss hO6 lR lR;obtain ⟨ap,cp,rfl,hlp⟩:=At.form hP6;unfold maxLen at hlp;have HPB:=O hP6;replace HS:=O (HS.out.kept hb6);replace HPA:=O (HPA.out.kept hb6);clear hO6 hR6 hP6 hb6 z0 z1 z2 z3 z4 HPi;obtain ⟨z0,z1,z2,z3,z4⟩:=HS.out.st.at;go_wp2_with fail
  refine (HGi.out _ HS.out.st.2.1).mono ?_;rintro e W8 ⟨vg,rfl,hG6,hb6⟩;obtain ⟨ag,cg,rfl⟩:=z4R hG6;have HGs:=O (hG6.at HGk.out);replace HS:=O (HS.out.kept hb6);replace HPA:=O (HPA.out.kept hb6);replace HPB:=O (HPB.out.kept hb6);clear hG6 hb6 z0 z1 z2 z3 z4 HGi HGk;go_wp2_with fail
  refine (zct (Z t).rows (Z t).cols ag cg (Z t).cells W8 HGs.out).mono ?_;rintro e W9 ⟨v9,rfl,hR9,hb9⟩;rw [HSt.out] at hR9;have hI9:=hR9.at;obtain ⟨ax,cx,rfl,hlx⟩:=hI9.form;have HIx:=O hI9;replace HS:=O (HS.out.kept hb9);replace HPA:=O (HPA.out.kept hb9);replace HPB:=O (HPB.out.kept hb9);clear hR9 hI9 hb9 HGs HSt;rw [HAl.out];rw [HAl.out] at hlq;go_wp2_with fail
  go_loopw [9] (λi W=>∃ q:Nat,i=int i64 (q:Int)/\q<=pss.length/\Hid (Below W9.heap.size W9 W)) (λi _=>pss.length - (intOf i).toNat)
  case atStart=>exact ⟨0,rfl,nZ,bR⟩
  case round =>
   obtain ⟨q,rfl,hq,HB⟩:=hrel;by_cases hlt:q < pss.length
   case neg =>
    obtain rfl:q=pss.length:=by omega
    have HK:=O HS.out.st.1;have HKe:=O (HK.out.trans (HB.out.mono HK.out.size));have hee:((pss.length:Int) == (pss.length:Int))=true:=(by simp);go_wp2;go_ret;exact ⟨rfl,HKe.out⟩
   case pos=>as_aux_lemma =>
    replace HS:=O (HS.out.kept HB.out);have HIw:=O (HIx.out.kept HB.out);obtain ⟨b1,off1,cap1',u1,e1,hc11,hc12,hbl1,x0,hs1⟩:=(HPA.out.kept HB.out).get (i:=q) (by rw [HAl.out];exact hlt);rw [HAl.out] at e1 hc11;simp only [Value.slice.injEq,true_and] at e1;obtain ⟨rfl,rfl⟩:=e1;unfold maxLen at hc12;obtain ⟨b2,z3S,cap2',u2,e2,hc21,hc22,hbl2,y0,hs2⟩:=(HPB.out.kept HB.out).get (i:=q) hlt;simp only [Value.slice.injEq,true_and] at e2;obtain ⟨rfl,rfl⟩:=e2;unfold maxLen at hc22;have hpf:=HPf.out q hlt;generalize al.getD q []=ag at hs1 hpf;generalize pss.getD q []=pg at hs2 hpf;obtain ⟨a1,c1,rfl,hl1⟩:=At.form hs1;obtain ⟨a2,c2,rfl,hl2⟩:=At.form hs2;have hL5:=hpf.1;have HP:=O hpf.2;have HG1:=O hs1;have HG2:=O hs2;have X0:=O x0;have Y0:=O y0;clear hs1 hs2 hpf HPf HPA HPB HIx HAl;have hw1:IntKind.i64.wrap ((high.length:Int) - 1)=((high.length - 1:Nat):Int):=(by rw [IntKind.wrap_i64];omega);obtain ⟨rb,ro,rcap,er,ra1,ra2,ra3,ra4⟩:=HS.out.hi.get (i:=high.length - 1) (by omega);simp only [Value.slice.injEq,true_and] at er;obtain ⟨rfl,rfl⟩:=er;unfold maxLen at ra2;have HM0:Hid (¬ q < high.length->z9I high q=high.getD (high.length - 1) 0):=λh=>if_neg h;generalize high.getD (high.length - 1) 0=y2 at ra4 HM0
    go_upto_if 64 with fail
    clear ra4 hw1;go_cut [10] (λs W=>s=int i64 (z9I high q)/\W=wr)
    case first=>as_aux_lemma =>
     by_cases hqh:q < high.length
     ·obtain ⟨rb2,ro2,rcap2,er,rc1,rc2,rc3,rc4⟩:=HS.out.hi.get (i:=q) hqh;simp only [Value.slice.injEq,true_and] at er;obtain ⟨er1,rfl⟩:=er;simp only [Option.some.injEq,Addr.mk.injEq,and_true] at er1;obtain ⟨rfl,rfl⟩:=er1;have HM:Hid (z9I high q=high.getD q 0):=if_pos hqh;generalize high.getD q 0=y at rc4 HM;go_wp2_with fail
      go_meet
      case rel=>exact ⟨by rw [HM.out],rfl⟩
     ·have HM:=HM0.out hqh;have HM:=O HM;go_wp2_with fail
      go_meet
      case rel=>exact ⟨by rw [HM.out],rfl⟩
    case rest =>
     obtain ⟨rfl,rfl⟩:=hcut;have hmay:=HP.out;generalize z9I high q=may at hmay |-;go_wp2_with fail
     refine (z4u _ ag wc HG1.out).mono ?_;rintro e Wa ⟨rfl,hba⟩;generalize z5B ag=hp at hmay |-;have y1:=(hba.cell (p:=⟨b2,z3S+q,none⟩) hbl2).trans Y0.out;have hbl3:b2 < Wa.heap.size:=nL hbl2 hba.size;have HBa:=O (zi HB.out hba);by_cases hgt:may < hp
     case neg =>
      have hd:decide (may < hp)=false:=decide_eq_false hgt;go_wp2;go_roundw
      case rel=>exact ⟨q+1,by go_num,by omega,HBa⟩
      case measure=>simp [intOf];omega
     case pos =>
      have hd:decide (may < hp)=true:=decide_eq_true hgt;have hm2:=hmay hgt;clear hgt hmay;by_cases hne:0 < pg.length
      case neg =>
       have hz:pg.length=0:=(by omega);rw [hz] at y1;clear hm2;go_wp2;go_roundw
       case rel=>exact ⟨q+1,by go_num,by omega,HBa⟩
       case measure=>simp [intOf];omega
      case pos =>
       have HOne:=O (hm2 hne);have hd2:decide ((0:Int) < (pg.length:Int))=true:=decide_eq_true (by omega);clear hm2;go_wp2_with fail
       refine (zhV _ _ pg st Wa (HG2.out.kept hba) (HIw.out.kept hba)).mono ?_;rintro e Wb ⟨rfl,hbb⟩;have HBb:=O (zi HBa.out hbb);clear hbb;rw [HOne.out];go_wp2;go_roundw
       case rel=>exact ⟨q+1,by go_num,by omega,HBb⟩
       case measure=>simp [intOf];omega
theorem zg3 (A:Option Addr) (len cap:Nat) (w:World) (h:z3N w A len cap) :
  Calls prog 3 #[.slice A len cap] w λe w'=>e=.returned (.bool true)/\Below w.heap.size w w':=by
 have hlen:len<=maxLen:=nT h.1 h.2.1;unfold maxLen at hlen;by_cases hbig:len<=1048576
 ·exact zeC A len cap hbig w h
 ·clear h;have hb:(1048576:Int) < (len:Int):=(by omega);go_enter func3,ntmps3;go_wp2;go_ret;exact ⟨rfl,bR⟩
end
end Go.Proofs.YtggmjiddadjilahGreat
