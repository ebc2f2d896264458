/-
  PROVED HERE: what the model's PagAll answers of a drawn table, any width and any heights: the pages of its body, head and foot with each, in new memory; nothing that was in memory is turned. Also: 5 more texts of the same proof.
-/
import Derived.Test.YtggmjiddadjilahGreatJ39
import Derived.Test.YtggmjiddadjilahGreatJ25
set_option maxRecDepth 1000000
set_option maxHeartbeats 40000000
open Go.Proofs.Tryz
namespace Go.Proofs.YtggmjiddadjilahGreat
open Value (int)
open IntKind (i64)
section
open Go.RowKit
theorem zeQ {w:World} {base:Nat} {v:Value} {a b:List zk} (h:w.ownsRow base 45 3 v (a.length+b.length) (a.flatMap z0y ++ b.flatMap z0y)):zx w base v (a ++ b):=by
 unfold zx;rw [List.length_append,List.flatMap_append];exact h
theorem zfN {w w':World} {base base':Nat} {e e':TypeId} {sz sz':Nat} {v U:Value} {n m:Nat} {xs ys:List Value} (h:w.ownsRow base e sz v n xs) (hU:w.ownsRow base' e' sz' U m ys) (he:e ≠ e') (k:w.grownBy w' U.ownBlock):w'.ownsRow base e sz v n xs :=
 ⟨h.1,h.2.elim Or.inl (λ⟨g,cap,cur,hv,hg,hc,r⟩=>Or.inr ⟨g,cap,cur,hv,hg,z06 hc k (z0e (zt hU hc (λh=>he h.symm))),r⟩)⟩
theorem zeR {w:World} {z:Nat} {au:Option Addr} {n c:Nat} {pg:List zk} (h:z1Y w z (.slice au n c) pg):pg.length ≠ 0->au ≠ none:=λh0 hn=>by
 obtain ⟨a9,c9,e9,_,_,h9⟩:=h;simp only [Value.slice.injEq] at e9;obtain ⟨b9,o9,e8,_⟩:=h9 0 (by omega);rw [<-e9.1,hn] at e8
 cases e8
theorem zhF {t:T} {width:Int} {high:List Int}:(z0Q t width high).length<=100000:=by
 unfold z0Q
 split
 ·rename_i hp
  unfold z27 at hp;rw [Bool.and_eq_true,Bool.and_eq_true] at hp;have h1:=z65 (t:=t) hp.1.1 (hs:=zH t width) z6f;have h2:=zdL (high.map (· - (zu (zX t (zH t width))+zu (zY t (zH t width))))) (z0B t (zH t width));unfold z3c;rw [List.length_append,List.length_singleton];omega
 ·simp
theorem zhG (pg:List zk):∀ u ∈ pg.flatMap z0y,u.oneCell'=true:=λu hu=>by
 obtain ⟨s,_,hs⟩:=List.mem_flatMap.1 hu;simp only [z0y,List.mem_cons,List.not_mem_nil,or_false] at hs
 rcases hs with rfl | rfl | rfl <;> rfl
structure PbJ (gb go k m cp cu cx rl tb:Nat) (ac ar ax au:Option Addr) (cc cr:Nat) (t:T) (pg hp:List zk) (W3:World) (L:Nat->Bool) (W:World) (v11 v30 v31 v32 v33 v34 v35 v36 v37 v38:Value):Prop where
 f0:L 0=true->v30=.slice ax rl cx
 f1:L 1=true->v31=.pointer (some ⟨tb,1,none⟩)
 f2:L 2=true->v32=int i64 t.head
 f3:L 3=true->L 8=false->zx W W3.heap.size v33 hp
 f4:L 4=true->v34=.slice (some ⟨gb,go,none⟩) m cp
 f5:L 5=true->v35=int i64 (k:Int)
 f6:L 6=true->v36=.pointer (some ⟨gb,go+k,none⟩)
 f7:L 7=true->v37=.slice au pg.length cu
 f8:L 8=true->L 9=false->zx W W3.heap.size v38 (hp ++ pg)
 f9:L 9=true->Below W3.heap.size W3 W/\zx W W3.heap.size v11 (hp ++ pg)
 b:L 9=false->Below W3.heap.size W3 W
theorem zfO (ac ar:Option Addr) (cc cr:Nat) (t:T) (hD:z0g t) (width:Int) (vh:Value) (high:List Int) (w:World) {z:Nat} (hc:z09 w z (.slice ac t.cols.length cc) t.cols) (hr:z05 w z (.slice ar t.rows.length cr) t.rows) (hh:zA w vh high) :
  Calls prog 12 #[.agg #[.slice ac t.cols.length cc,int i64 t.head,int i64 t.foot,.slice ar t.rows.length cr,int i64 t.gap],int i64 width,vh] w λe w'=>∃ v us,e=.returned v/\w'.ownsRow w.heap.size 41 1 v us.length us/\zO w' w.heap.size us (z4K t width high)/\Below w.heap.size w w':=by
 obtain ⟨i0,hi,hz0,hz1,hz2⟩:=info_parts zaH;obtain ⟨j0,hj,hy0,hy1,hy2⟩:=info_parts z5i;have hmx:prog.follows .mixedOrders=true:=(by kernel_rfl);obtain ⟨ah,ch,rfl,_⟩:=hh.form;have HK0:=O (ze (Below.refl w.heap.size w) (.cells #[.slice ac t.cols.length cc,int i64 t.head,int i64 t.foot,.slice ar t.rows.length cr,int i64 t.gap] 26));have HX0:=O (zj w (.cells #[.slice ac t.cols.length cc,int i64 t.head,int i64 t.foot,.slice ar t.rows.length cr,int i64 t.gap] 26));have hs0:(w.alloc (.cells #[.slice ac t.cols.length cc,int i64 t.head,int i64 t.foot,.slice ar t.rows.length cr,int i64 t.gap] 26)).heap.size=w.heap.size+1:=(by simp);have KP:=O (λW (k:Below w.heap.size w W)=>zei ac ar cc cr t hD width _ high W (hc.kept k) (hr.kept k) (hh.kept k));have KR:=O (λW (k:Below w.heap.size w W)=>zej ac ar cc cr t hD width W (hc.kept k) (hr.kept k));clear hc hr hh;have HAl:Hid (z4K t width high=(z0Q t width high).map (λb=>zX t (zH t width) ++ b ++ zY t (zH t width))):=rfl;have HNo:=O (λhp=>zax (t:=t) (width:=width) (high:=high) hp)
 have HOk:Hid (z27 t width high=true->zF t=true/\(zH t width).length=t.rows.length/\∀ i,i < (z0Q t width high).length->∀ k,(([zX t (zH t width),(z0Q t width high).getD i [],zY t (zH t width)].take k).flatten).length<=100000):=λhp=>by
  have hok2:=hp;unfold z27 at hok2;rw [Bool.and_eq_true,Bool.and_eq_true] at hok2;refine ⟨hok2.1.1,by rw [zH,hok2.1.1,hok2.1.2];exact z0M _ _,λi hi k=>zdB hD hp hi k⟩
 have HBl:Hid ((z0Q t width high).length<=100000):=zhF;generalize z4K t width high=al at HAl |-;generalize z0Q t width high=pss at KP HAl HNo HOk HBl;generalize zH t width=rs at KR HAl HOk;generalize z27 t width high=ok at HNo HOk;go_enter func12,ntmps12;go_upto_region 1 with fail
 generalize w.alloc (.cells #[.slice ac t.cols.length cc,int i64 t.head,int i64 t.foot,.slice ar t.rows.length cr,int i64 t.gap] 26)=W0 at HK0 HX0 hs0 |-;obtain ⟨z0,z1,z2,z3,z4⟩:=zL HX0.out;go_wp2_with fail
 refine (KP.out _ HK0.out).mono ?_;rintro e W1 ⟨v1,us,rfl,hO1,hR1,hb1⟩;obtain ⟨a1,c1,rfl,hul⟩:=zP hO1;have hlu:=hR1.1;have HK1:=O (zi HK0.out hb1);have HX1:=O ((hb1.block _ (bL HX0.out)).trans HX0.out);have HP1:Hid (z1p W1 0 (.slice a1 us.length c1) pss):=hR1.pss hO1 nZ nZ;rw [hlu] at HP1 |-;unfold maxLen at hul;rw [hlu] at hul;clear hb1 HK0 HX0 z0 z1 z2 z3 z4 hO1 hR1 hlu KP;have HMd:=O (World.ownsRow_made (base:=W1.heap.size) (e:=41) (size:=1) W1 #[] 0 lR nZ rfl);have hka:=ze (Below.refl W1.heap.size W1) (.cells #[] 41);have HK2:=O (zi HK1.out hka);have HX2:=O ((hka.block _ (bL HX1.out)).trans HX1.out);have HB2:=O hka;have hw1:w.heap.size<=W1.heap.size:=HK1.out.size;have hl1:w.heap.size < W1.heap.size:=(bL HX1.out);clear hka;go_upto_region 3 with fail
 generalize hW2:W1.alloc (.cells #[] 41)=W2 at HMd HK2 HX2 HB2 |-;clear hW2;by_cases hn:pss.length=0
 case pos =>
  have hn1:((pss.length:Int) == 0)=true:=beq_iff_eq.2 (by omega);have HE:Hid (al=[]):=(by show _=_;rw [HAl.out,List.length_eq_zero_iff.1 hn];rfl);clear hn;go_wp2;go_ret;exact ⟨_,[],rfl,z3O HMd.out hw1,by rw [HE.out];exact zO.nil _ _,HK2.out⟩
 case neg =>
  have hn1:((pss.length:Int) == 0)=false:=beq_eq_false_iff_ne.2 (by omega)
  have hok:ok=true:=by
   cases hok:ok with
   | true=>rfl
   | false =>
    rw [HNo.out hok] at hn;exact absurd rfl hn
  obtain ⟨htk,hrl,hln⟩:=HOk.out hok;have htb:=z0R htk;have hpb:=HBl.out
  have hhf:0<=t.head/\0<=t.foot/\t.head<=t.rows.length/\t.foot<=t.rows.length:=by
   obtain ⟨H,E,hH,hE,h1,h2,h3,h4⟩:=z6o htk;have:=htb;omega
  obtain ⟨z0,z1,z2,z3,z4⟩:=zL HX2.out;go_wp2_with fail
  refine (KR.out _ HK2.out).mono ?_;rintro e W3 ⟨v2,rfl,hI,hb3⟩;obtain ⟨ax,cx,rfl⟩:=hI.form;have hz3:=hb3.size;have hzz:=HB2.out.size;have HI:=O (z3O hI.owns (show W1.heap.size<=W2.heap.size from hzz));have HB3:=O (HB2.out.trans (hb3.mono hzz));have HK3:=O (zi HK2.out hb3);have HX3:=O ((hb3.block _ (bL HX2.out)).trans HX2.out);have HO3:=O (z2r HMd.out hb3);clear hI hb3 HK2 HX2 HMd z0 z1 z2 z3 z4 KR HB2 hok HOk HNo HBl;have hrl8:rs.length<=8:=(by omega);have HRl:=O hrl;clear hrl;go_wp2_with fail
  go_loopw [8,10] (λo i W=>∃ (k:Nat) (us:List Value),i=int i64 (k:Int)/\k<=pss.length/\Hid (us.length=k)/\Hid (W.ownsRow W1.heap.size 41 1 o us.length us)/\Hid (zO W W1.heap.size us ((pss.take k).map (λb=>zX t rs ++ b ++ zY t rs)))/\Hid (W.ownsRow W1.heap.size 3 1 (.slice ax rs.length cx) rs.length (rs.map (Value.int .i64)))/\Hid (Below W1.heap.size W1 W)) (λ_ i _=>pss.length - (intOf i).toNat)
  case atStart=>exact ⟨0,[],rfl,nZ,rfl,HO3,zO.nil _ _,HI,HB3⟩
  case round =>
   clear HO3 HI HB3 HK3 HX3;obtain ⟨k,us,rfl,hk,HLu,HO,HR,HI,HB⟩:=hrel;obtain ⟨ao,co,rfl,_⟩:=zP HO.out;have HX:=O ((HB.out.block w.heap.size hl1).trans HX1.out);have hBs:=HB.out.size;by_cases hlt:k < pss.length
   case neg =>
    obtain rfl:k=pss.length:=by omega
    have HKe:=O (HK1.out.trans (HB.out.mono hw1));rw [List.take_length] at HR;go_wp2;go_ret;exact ⟨_,us,rfl,z3O HO.out hw1,by rw [HAl.out];exact HR.out.base hw1,HKe.out⟩
   case pos =>
    obtain ⟨gb,go,cap',u1,e1,hc11,hc12,hgb,x0,hs1⟩:=(HP1.out.kept HB.out).get hlt;simp only [Value.slice.injEq,true_and] at e1;obtain ⟨rfl,rfl⟩:=e1;unfold maxLen at hc12;have hl2:=hln k hlt 2;have hl3:=hln k hlt 3
    have HTk:Hid ((pss.take (k+1)).map (λb=>zX t rs ++ b ++ zY t rs)=(pss.take k).map (λb=>zX t rs ++ b ++ zY t rs) ++ [zX t rs ++ pss.getD k [] ++ zY t rs]):=by
     show _=_;have e:pss.getD k []=pss[k]:=(by simp [List.getD,hlt]);rw [List.take_succ_eq_append_getElem hlt,List.map_append,e];rfl
    generalize hpg:pss.getD k []=pg at hs1 hl2 hl3 HTk;clear hpg;obtain ⟨au,cu,rfl,hlu⟩:=At.form hs1;unfold maxLen at hlu;have HG:=O hs1;have X0:=O x0;have HAu:=O (zeR hs1);have HNl:Hid ((pg.flatMap z0y).length=pg.length * 3):=z6g z0y 3 (λ_=>rfl) pg;have HCl:=O (zhG pg);have hl0:=(bL HX.out);have HIx:=O ((zq.of_owns HI.out).at);have KH:Hid (∀ W,Below wr.heap.size wr W->Calls prog 34 #[.slice ax rs.length cx,int i64 0,int i64 t.head] W λe w'=>∃ u,e=.returned u/\zx w' W.heap.size u (zX t rs)/\Below W.heap.size W w'):=λW h=>z4x rs 0 t.head.toNat (by have:=HRl.out;omega) (by omega) 0 t.head rfl (by omega) _ W (HIx.out.kept h);have KF:Hid (∀ W,Below wr.heap.size wr W->Calls prog 34 #[.slice ax rs.length cx,int i64 ((rs.length:Int) - t.foot),int i64 (rs.length:Int)] W λe w'=>∃ u,e=.returned u/\zx w' W.heap.size u (zY t rs)/\Below W.heap.size W w'):=λW h=>z4x rs (t.rows.length - t.foot.toNat) t.foot.toNat (by have:=HRl.out;omega) (by omega) ((rs.length:Int) - t.foot) (rs.length:Int) (by have:=HRl.out;omega) (by have:=HRl.out;omega) _ W (HIx.out.kept h);generalize zX t rs=hp at *;generalize zY t rs=fp at *;simp only [List.take,List.flatten_cons,List.flatten_nil,List.append_nil,List.length_append] at hl2 hl3;have hwf:IntKind.i64.wrap ((rs.length:Int) - t.foot)=(rs.length:Int) - t.foot:=(by rw [IntKind.wrap_i64];omega);clear hs1 hln;obtain ⟨z0,z1,z2,z3,z4⟩:=zL HX.out;go_upto_region 9 with fail
    clear z0 z1 z2 z3 z4 x0;refine z0n (λL act W=>∃ v11 v30 v31 v32 v33 v34 v35 v36 v37 v38:Value,act=⟨#[.agg #[.slice ac t.cols.length cc,int i64 t.head,int i64 t.foot,.slice ar t.rows.length cr,int i64 t.gap],int i64 width,.slice ah high.length ch,.pointer (some ⟨w.heap.size,0,none⟩),undef,undef,.slice none 0 0,.slice (some ⟨gb,go,none⟩) pss.length c1,.slice ao us.length co,.slice ax rs.length cx,int i64 (k:Int),v11,.agg #[.slice ac t.cols.length cc,int i64 t.head,int i64 t.foot,.slice ar t.rows.length cr,int i64 t.gap],int i64 width,.slice ah high.length ch,.slice (some ⟨gb,go,none⟩) pss.length c1,.slice (some ⟨W1.heap.size,0,none⟩) 0 0,.slice (some ⟨gb,go,none⟩) pss.length c1,int i64 (pss.length:Int),.bool false,undef,.agg #[.slice ac t.cols.length cc,int i64 t.head,int i64 t.foot,.slice ar t.rows.length cr,int i64 t.gap],int i64 width,.slice ax rs.length cx,int i64 (k:Int),.slice (some ⟨gb,go,none⟩) pss.length c1,int i64 (pss.length:Int),.bool true,u28,u29,v30,v31,v32,v33,v34,v35,v36,v37,v38,u39,u40,u41,u42,u43,u44,u45,u46,u47,u48,u49,u50,u51,u52,undef],[]⟩/\PbJ gb go k pss.length c1 cu cx rs.length w.heap.size ac ar ax au cc cr t pg hp wr L W v11 v30 v31 v32 v33 v34 v35 v36 v37 v38) hmx (by kernel_rfl) ?hs ?hd ?h0
    case h0=>exact e10 ⟨rfl,⟨n0,n0,n0,n0,n0,n0,n0,n0,n0,n0,λ_=>z0X bR⟩⟩
    case hd =>
     intro L act W hJ hall;obtain ⟨v11,v30,v31,v32,v33,v34,v35,v36,v37,v38,ha,J⟩:=hJ;subst ha;obtain ⟨hb5,hO5⟩:=J.f9 (hall 9 (by decide));obtain ⟨h9,c9,rfl,_⟩:=zP hO5;have hz5:=hb5.size;have HO5:=O hO5;have HB5:=O hb5;have hX5:=(hb5.block _ hl0).trans HX.out;obtain ⟨z0,z1,z2,z3,z4⟩:=zL hX5;clear J hall KH hO5 hb5;go_wp2_with fail
     refine (KF.out _ HB5.out).mono ?_;rintro e W6 ⟨uf,rfl,hOf,hb6⟩;obtain ⟨hf9,cf9,rfl,_⟩:=zP hOf;have hz6:=hb6.size;have hO6:W6.ownsRow wr.heap.size 45 3 (.slice h9 (hp ++ pg).length c9) (hp ++ pg).length ((hp ++ pg).flatMap z0y):=zx.kept HO5.out hb6;have HPf:=O (zx.at hOf);have HNf:Hid ((fp.flatMap z0y).length=fp.length * 3):=z6g z0y 3 (λ_=>rfl) fp;have HB6:=O (HB5.out.trans (hb6.mono hz5));have hl4:(hp ++ pg).length+fp.length<=100000:=(by rw [List.length_append];omega);clear hOf hb6 KF z0 z1 z2 z3 z4 hX5;generalize hhp:hp ++ pg=hpg at hO6 hl4 |-;have HHp:=O hhp;clear hhp;go_wp2_with (at_builtin;refine wpList_plain rfl λK hK=>z4y _ (.tmp 40) (.tmp 49) 41 rfl wr.heap.size 45 i0 _ 3 24 underlying41 hi hz0 hz1 hz2 rfl (by decide) _ _ _ rfl hO6 hf9 fp.length cf9 (fp.flatMap z0y) rfl (zeR HPf.out) HNf.out (λp hp=>zaI (by rw [<-hp];exact HPf.out)) (zhG fp) (by unfold maxLen;omega) (by omega) (by omega) ?_)
     intro v' W7 hown7 hg7;refine hK _ _ ?_;have hO7:zx W7 wr.heap.size v' (hp ++ pg ++ fp):=(by rw [HHp.out];exact zeQ hown7);have hB7:=HB6.out.grown hg7 (by omega) (λb hb=>(World.ownsRow.lt hO6 b hb).1);have hz7:=hB7.size;obtain ⟨h7,c7,rfl,_⟩:=zP hO7;rw [HHp.out] at hO7 |-;rw [List.length_append] at hO7 |-;have hO8:=z2r HO.out hB7;have HU7:=O hO7;have HB7:=O hB7;have HLs:=HLu.out;have hus:us.length<=100000:=(by omega);have HHL:=O HLs;clear HLs hown7 hg7 hO6 HB6 HB5 HO5 hO7 hB7 hK;go_wp2_with (at_builtin;refine wpList_append_own _ rfl _ _ 30 rfl W1.heap.size 41 j0 _ 1 24 underlying30 hj hy0 hy1 hy2 rfl (by decide) _ _ _ rfl (hO8.alloc _) ⟨W7.heap.size,0,none⟩ 1 1 [.slice h7 (hpg.length+fp.length) c7] rfl rfl ?c1 ?c2 ?c3 ?c4 ?c5 ?_)
     case c1=>exact z0K (zj W7 _)
     case c2=>simp [Value.oneCell']
     case c3=>unfold maxLen;omega
     case c4=>omega
     case c5=>simp;omega
     intro v9 W9 hown9 hg9 _;have hOA:=hO8.alloc (.cells #[.slice h7 (hpg.length+fp.length) c7] 41);have KA:=ze (Below.refl W7.heap.size W7) (.cells #[.slice h7 (hpg.length+fp.length) c7] 41)
     have HR9:Hid (zO W9 W1.heap.size (us ++ [.slice h7 (hpg.length+fp.length) c7]) ((pss.take (k+1)).map (λb=>hp ++ b ++ fp))):=by
      show zO _ _ _ _;rw [HTk.out,HHp.out];exact (((HR.out.kept HB7.out).kept KA).grown hOA hg9).app (zO.one (zx.grown (zx.kept (zx.base HU7.out hBs) KA) hOA hg9))
     have HI9:=O (zfN (z2r (z2r HI.out HB7.out) KA) hOA (by decide) hg9);have HB9:=O ((ze (HB.out.trans (HB7.out.mono hBs)) (.cells #[.slice h7 (hpg.length+fp.length) c7] 41)).grown hg9 (by simp;omega) (λb hb=>(World.ownsRow.lt hO8 b hb).1));have HL9:Hid ((us ++ [Value.slice h7 (hpg.length+fp.length) c7]).length=k+1):=(by show _=_;rw [List.length_append,HLu.out];rfl)
     have HO9:Hid (W9.ownsRow W1.heap.size 41 1 v9 (us ++ [Value.slice h7 (hpg.length+fp.length) c7]).length (us ++ [Value.slice h7 (hpg.length+fp.length) c7])):=by
      show World.ownsRow _ _ _ _ _ _ _;rw [List.length_append];exact hown9
     obtain ⟨ao9,co9,rfl,_⟩:=zP HO9.out;clear hown9 hg9 hOA KA HO HR HI HB HLu hO8 HU7 HB7;generalize us ++ [Value.slice h7 (hpg.length+fp.length) c7]=us9 at *;go_wp2;go_roundw
     case rel=>exact ⟨k+1,us9,by go_num,by omega,HL9,HO9,HR9,HI9,HB9⟩
     case measure=>simp [intOf];omega
    case hs =>
     intro L act W i o hJ hcl ho hLi haft K hK;obtain ⟨v11,v30,v31,v32,v33,v34,v35,v36,v37,v38,ha,J⟩:=hJ;subst ha
     have hi':i < 10:=by
      have:=(bL ho)
      simpa using this
     rcases (by omega:i=0\/i=1\/i=2\/i=3\/i=4\/i=5\/i=6\/i=7\/i=8\/i=9) with rfl | rfl | rfl | rfl | rfl | rfl | rfl | rfl | rfl | rfl
     all_goals
      simp only [List.getElem?_toArray,List.getElem?_cons_zero,List.getElem?_cons_succ,Option.some.injEq] at ho;subst ho;clear hi'
     ·have hN:=Pl hcl 9 [8,3] hLi;have hB:=J.b hN;go_simp;exact hK _ _ (e10 ⟨rfl,⟨λ_=>rfl,V J.f1,V J.f2,ug (Qh hcl 3 0 hLi),V J.f4,V J.f5,V J.f6,V J.f7,ug (Pl hcl 8 [3] hLi),ug (Pl hcl 9 [8,3] hLi),λ_=>hB⟩⟩)
     ·have hN:=Pl hcl 9 [8,3,2] hLi;have hB:=J.b hN;go_simp;exact hK _ _ (e10 ⟨rfl,⟨V J.f0,λ_=>rfl,ug (Qh hcl 2 1 hLi),ug (Pl hcl 3 [2] hLi),V J.f4,V J.f5,V J.f6,V J.f7,ug (Pl hcl 8 [3,2] hLi),ug (Pl hcl 9 [8,3,2] hLi),λ_=>hB⟩⟩)
     ·have hN:=Pl hcl 9 [8,3] hLi;have hB:=J.b hN;obtain rfl:=J.f1 (Fa haft 1);obtain ⟨q0,q1,q2,q3,q4⟩:=zL ((hB.block _ hl0).trans HX.out);go_simp;exact hK _ _ (e10 ⟨rfl,⟨V J.f0,V J.f1,λ_=>rfl,ug (Qh hcl 3 2 hLi),V J.f4,V J.f5,V J.f6,V J.f7,ug (Pl hcl 8 [3] hLi),ug (Pl hcl 9 [8,3] hLi),λ_=>hB⟩⟩)
     ·have hN:=Pl hcl 9 [8] hLi;have hB:=J.b hN;obtain rfl:=J.f0 (Fa haft 0);obtain rfl:=J.f2 (Fa haft 2);go_simp;go_wp2_with (go_at_call 34;refine (KH.out W hB).mono ?_;rintro e W2 ⟨v,rfl,hO,hb⟩;replace hO:=zx.base hO hB.size)
      exact e10 ⟨rfl,⟨V J.f0,V J.f1,V J.f2,λ_ _=>hO,V J.f4,V J.f5,V J.f6,V J.f7,ug (Qh hcl 8 3 hLi),ug (Pl hcl 9 [8] hLi),λ_=>zi hB hb⟩⟩
     ·have hN:=Pl hcl 9 [8,7,6] hLi;have hB:=J.b hN;go_simp;exact hK _ _ (e10 ⟨rfl,⟨V J.f0,V J.f1,V J.f2,u2 J.f3,λ_=>rfl,V J.f5,ug (Qh hcl 6 4 hLi),ug (Pl hcl 7 [6] hLi),ug (Pl hcl 8 [7,6] hLi),ug (Pl hcl 9 [8,7,6] hLi),λ_=>hB⟩⟩)
     ·have hN:=Pl hcl 9 [8,7,6] hLi;have hB:=J.b hN;go_simp;exact hK _ _ (e10 ⟨rfl,⟨V J.f0,V J.f1,V J.f2,u2 J.f3,V J.f4,λ_=>rfl,ug (Qh hcl 6 5 hLi),ug (Pl hcl 7 [6] hLi),ug (Pl hcl 8 [7,6] hLi),ug (Pl hcl 9 [8,7,6] hLi),λ_=>hB⟩⟩)
     ·have hN:=Pl hcl 9 [8,7] hLi;have hB:=J.b hN;obtain rfl:=J.f4 (Fa haft 4);obtain rfl:=J.f5 (Fa haft 5);go_simp;exact hK _ _ (e10 ⟨rfl,⟨V J.f0,V J.f1,V J.f2,u2 J.f3,V J.f4,V J.f5,λ_=>rfl,ug (Qh hcl 7 6 hLi),ug (Pl hcl 8 [7] hLi),ug (Pl hcl 9 [8,7] hLi),λ_=>hB⟩⟩)
     ·have hN:=Pl hcl 9 [8] hLi;have hB:=J.b hN;obtain rfl:=J.f6 (Fa haft 6);have x0:=(hB.cell (p:=⟨gb,go+k,none⟩) hgb).trans X0.out;have hgl:=nL hgb hB.size;go_simp;exact hK _ _ (e10 ⟨rfl,⟨V J.f0,V J.f1,V J.f2,u2 J.f3,V J.f4,V J.f5,V J.f6,λ_=>rfl,ug (Qh hcl 8 7 hLi),ug (Pl hcl 9 [8] hLi),λ_=>hB⟩⟩)
     ·have hN:=Qh hcl 9 8 hLi;have hB:=J.b hN;have hO0:=J.f3 (Fa haft 3) hLi;obtain ⟨h1,c1x,rfl,_⟩:=zP hO0;obtain rfl:=J.f7 (Fa haft 7);have hO:W.ownsRow wr.heap.size 45 3 (.slice h1 hp.length c1x) hp.length (hp.flatMap z0y):=hO0;rw [if_pos (by rfl)];refine z4y _ (.tmp 33) (.tmp 37) 41 rfl wr.heap.size 45 i0 _ 3 24 underlying41 hi hz0 hz1 hz2 rfl (by decide) _ _ _ rfl hO au pg.length cu (pg.flatMap z0y) rfl HAu.out HNl.out (λp hp=>zaI (by rw [<-hp];exact HG.out.kept hB)) HCl.out (by unfold maxLen;omega) (by omega) hB.size ?_;intro v' w5 hown' hgrow';exact hK _ _ (e10 ⟨rfl,⟨V J.f0,V J.f1,V J.f2,λ_ h=>absurd (h.symm.trans zJ) (by simp),V J.f4,V J.f5,V J.f6,V J.f7,λ_ _=>zeQ hown',ug (Qh hcl 9 8 hLi),λ_=>hB.grown hgrow' hB.size (λq hq=>(hO.lt q hq).1)⟩⟩)
     ·have hN:=hLi;have hB:=J.b hN;have hO1:=J.f8 (Fa haft 8) hLi;go_simp;exact hK _ _ (e10 ⟨rfl,⟨V J.f0,V J.f1,V J.f2,u2 J.f3,V J.f4,V J.f5,V J.f6,V J.f7,λ_ h=>absurd (h.symm.trans zJ) (by simp),λ_=>⟨hB,hO1⟩,λh=>absurd (h.symm.trans zJ) (by simp)⟩⟩)
structure zlg (t:T) (hs:List Int) (pss:List (List zk)) (E:Nat):Prop where
 tl:(t.rows.length:Int) - t.foot=E
 hd:0<=t.head/\t.head<=E
 le:E<=t.rows.length
 run:z1r hs ⟨t.head,0,false⟩ pss.flatten
 ready:z4g hs (z1Q hs ⟨t.head,0,false⟩ pss.flatten) E
 rows:∀ s ∈ pss.flatten,t.head<=s.r/\s.r < E
def zlh (hs:List Int) (p:Pos) (pss:List (List zk)) (i k:Nat):Pos:=z1Q hs p ((pss.take i).flatten ++ (pss.getD i []).take k)
structure SP (w:World) (tb:Nat) (ac ar:Option Addr) (cc cr:Nat) (t:T) (vh:Value) (high:List Int) (W:World):Prop where
 st:St w tb ac ar cc cr t W
 hi:zA W vh high
theorem SP.kept {w W W':World} {tb:Nat} {ac ar:Option Addr} {cc cr:Nat} {t:T} {vh:Value} {high:List Int} (h:SP w tb ac ar cc cr t vh high W) (k:Below W.heap.size W W'):SP w tb ac ar cc cr t vh high W':=⟨h.st.kept k,h.hi.kept k⟩
theorem zhH {t:T} {width:Int} {high:List Int} (h:z27 t width high=false):z0Q t width high=[]:=by unfold z0Q;rw [if_neg (by rw [h];simp)]
def zli (hs:List Int) (E:Nat) (p:Pos) (s:zk):Prop :=
 (∃ n:Nat,p.row=n/\n < E/\s.r=n/\s.f=p.line/\¬ s.t < s.f/\¬ hs.getD n 0 < s.t/\(s.f=s.t->¬ 0 < hs.getD n 0)/\z39 hs p s=⟨n,s.t,true⟩)
 \/ (∃ n m:Nat,p.row=n/\(n:Int)+1=m/\n < E/\m < E/\p.seen=true/\p.line=hs.getD n 0/\s.r=m/\s.f=0/\¬ s.t < s.f/\¬ hs.getD m 0 < s.t/\(s.f=s.t->¬ 0 < hs.getD m 0)/\z39 hs p s=⟨m,s.t,true⟩)
def bgS (st:List Int) (r:Int):Nat->Int
 | 0=>0
 | k+1=>if st.getD k 0<=r then st.getD k 0 else bgS st r k
def bkT (pg:List zk) (st:List Int):Nat->Int × Int
 | 0=>(0,-1)
 | k+1=>if bgS st (pg.getD k dP).r st.length ≠ (bkT pg st k).2/\(pg.getD k dP).f < (pg.getD k dP).t then ((bkT pg st k).1+1,bgS st (pg.getD k dP).r st.length) else bkT pg st k
def zlt (pg:List zk) (st:List Int):Bool:=decide (z7f pg<=1) || decide ((bkT pg st pg.length).1<=1)
def zfQ (high:List Int) (i:Nat):Int:=if i < high.length then high.getD i 0 else high.getD (high.length - 1) 0
theorem zj1 {high:List Int} (h1:1<=high.length) (bes:Int) (i:Nat):zN (high.map (· - bes)) i=zfQ high i - bes:=by
 have hj:min i (high.length - 1) < high.length:=(by omega);unfold zN zfQ;rw [List.length_map,List.getD_eq_getElem?_getD,List.getElem?_map,List.getElem?_eq_getElem hj];simp only [Option.map_some,Option.getD_some]
 split
 ·rename_i h
  have e:min i (high.length - 1)=i:=(by omega);simp [List.getD,h,e]
 ·rename_i h
  have e:min i (high.length - 1)=high.length - 1:=(by omega);simp [List.getD,e,show high.length - 1 < high.length by omega]
def z5A (hs:List Int) (p:Pos):Int:=(hs.take p.row.toNat).sum+p.line
theorem zdN (hs:List Int) (k:Nat):(hs.take (k+1)).sum=(hs.take k).sum+hs.getD k 0:=by
 rcases Nat.lt_or_ge k hs.length with h | h
 ·rw [List.take_succ_eq_append_getElem h,List.sum_append];simp [List.getD,h]
 ·rw [List.take_of_length_le (by omega),List.take_of_length_le h];simp [List.getD,h]
theorem zjZ {hs:List Int} {p:Pos} (r:Int) (h0:0<=p.row):z5A hs (z4s hs p r)=z5A hs p/\0<=(z4s hs p r).row:=by
 unfold z4s
 split
 ·rename_i h
  have e:(p.row+1).toNat=p.row.toNat+1:=(by omega);refine ⟨?_,by simp only;omega⟩;unfold z5A;simp only;rw [e,zdN,h.2.2];omega
 ·exact ⟨rfl,h0⟩
theorem zeS {hs:List Int}:∀ {l:List zk} {p:Pos},0<=p.row->z1r hs p l->z5A hs (z1Q hs p l)=z5A hs p+zu l
 | [],p,_,_=>by simp [z1Q,zu]
 | s :: l,p,h0,h=>by
  obtain ⟨h1,h2⟩:=h;obtain ⟨a1,a2⟩:=zjZ (hs:=hs) s.r h0;have e:z1Q hs p (s :: l)=z1Q hs (z39 hs p s) l:=rfl;have e2:zu (s :: l)=s.t - s.f+zu l:=(by simp [zu])
  have e3:z5A hs (z39 hs p s)=z5A hs p+(s.t - s.f):=by
   have:=h1.2.1;rw [<-a1];unfold z5A z39;simp only;omega
  rw [e,zeS (p:=z39 hs p s) a2 h2,e2,e3];omega
theorem zhM {hs:List Int} {p:Pos} {a:Nat} (h:z4g hs p a):z5A hs p=(hs.take a).sum:=by
 rcases h with rfl | ⟨h1,rfl⟩
 ·simp [z5A]
 ·have e:((a:Int) - 1).toNat=a - 1:=(by omega);have e2:a=a - 1+1:=(by omega);unfold z5A;simp only;rw [e]
  conv=>rhs;rw [e2,zdN]
theorem zfR {a b:List zk} (h:∀ s ∈ b,s.f<=s.t):zu a<=zu (a ++ b):=by
 have:=z53 h;rw [z1D];omega
theorem zk0 {t:T} (hD:z0g t) (hok:zF t=true) {hs:List Int} (hb:∀ x ∈ hs,0<=x/\x<=1000) (hl:hs.length=t.rows.length):zu (zX t hs)+zu (z0B t hs).flatten+zu (zY t hs)=hs.sum:=by
 obtain ⟨H,E,hH,hE,h1,h2,h3,h4⟩:=z6o hok;obtain ⟨r1,r2⟩:=z7t hD hok (λx hx=>(hb x hx).1) hH hE h1 h2;have hf0:t.foot.toNat=t.rows.length - E:=(by omega)
 have e1:zu (zX t hs)=(hs.take H).sum:=by
  rw [zX,hH,Int.toNat_natCast,z3C _ _ _ (by omega)];rfl
 have e2:zu (zY t hs)=(hs.drop E).sum:=by
  rw [zY,hf0,z3C _ _ _ (by omega),z07,show t.rows.length - (t.rows.length - E)=E by omega,List.take_of_length_le (by rw [List.length_drop];omega)]
 have e3:=zeS (hs:=hs) (p:=⟨t.head,0,false⟩) (by simp only;omega) r1;rw [zhM r2] at e3;have e4:z5A hs ⟨t.head,0,false⟩=(hs.take H).sum:=(by simp [z5A,hH]);have e5:(hs.take E).sum+(hs.drop E).sum=hs.sum:=(by rw [<-List.sum_append,List.take_append_drop]);omega
theorem zhN {t:T} (hD:z0g t) {width:Int} {high:List Int} (hp:z27 t width high=true) (hl:(zH t width).length=t.rows.length) :
  1<=high.length/\1<=(z4K t width high).length/\((zH t width).sum<=high.getD 0 0->(z4K t width high).length=1)/\((z4K t width high).length=1->z7f ((z4K t width high).getD 0 [])=(zH t width).sum/\((z4K t width high).getD 0 []).length<=100000):=by
 have hok2:=hp;unfold z27 at hok2;rw [Bool.and_eq_true,Bool.and_eq_true,Bool.and_eq_true] at hok2;obtain ⟨⟨hok,hw⟩,hlh,_⟩:=hok2
 have hl1:1<=high.length:=by
  simp only [zM,decide_eq_true_eq] at hlh;omega
 have hb:=z6f (t:=t) (x:=width);have hsum:=zk0 hD hok hb hl;have hbd:z0Q t width high=z3c (high.map (· - (zu (zX t (zH t width))+zu (zY t (zH t width))))) (z0B t (zH t width)):=(by unfold z0Q;rw [if_pos hp]);have hG:=z9g hD hok hb (high.map (· - (zu (zX t (zH t width))+zu (zY t (zH t width)))));rw [z8B] at hbd;obtain ⟨H,E,hH,hE,h1,h2,h3,h4⟩:=z6o hok;have hnn:=z5M (z7t hD hok (λx hx=>(hb x hx).1) hH hE h1 h2).1
 have bh:0<=zu (zX t (zH t width))/\zu (zX t (zH t width))<=1000000:=by
  have:=z3l hb t.head.toNat 0 (by omega);unfold zX;omega
 have bf:0<=zu (zY t (zH t width))/\zu (zY t (zH t width))<=1000000:=by
  have:=z3l hb t.foot.toNat (t.rows.length - t.foot.toNat) (by omega);unfold zY;omega
 have lh:(zX t (zH t width)).length<=10:=(by rw [zX,z1b];omega);have lf:(zY t (zH t width)).length<=10:=(by rw [zY,z1b];omega);have hroom:=zj1 hl1 (zu (zX t (zH t width))+zu (zY t (zH t width))) 0;have hm0:zfQ high 0=high.getD 0 0:=(by unfold zfQ;rw [if_pos (by omega)]);rw [hm0] at hroom;have hlow:=z4h hD hok hb (A:=[]) (B:=z0B t (zH t width)) (C:=[]) (by simp);unfold z4K;rw [hbd];generalize zX t (zH t width)=hp' at *;generalize zY t (zH t width)=fp at *;generalize z0B t (zH t width)=ps at *;unfold z6x;generalize ps.foldl (z3K (high.map (· - (zu hp'+zu fp)))) ([],[])=st at hG |-;obtain ⟨d,c⟩:=st;simp only at hG |-;refine ⟨hl1,by simp,λhle=>?_,λhone=>?_⟩
 ·cases d with
  | nil=>simp
  | cons g0 r =>
   exfalso
   have hfull:=hG.full 0 (by simp);have hflat:=hG.flat;rw [hroom] at hfull;simp only [List.getD_cons_zero,List.cons_append] at hfull hflat
   have hle2:zu g0.flatten+zu (((g0 :: (r ++ [c])).getD (0+1) []).headD [])<=zu ps.flatten:=by
    rw [<-hflat,List.flatten_cons,List.flatten_append,z1D]
    have hn2:∀ s ∈ (r ++ [c]).flatten.flatten,s.f<=s.t:=λs hs=>hnn s (by
     rw [<-hflat,List.flatten_cons,List.flatten_append];exact List.mem_append_right _ hs)
    generalize r ++ [c]=q at hn2 |-
    match q with
    | []=>simp [zu]
    | g1 :: q' =>
     match g1 with
     | [] =>
      have:=z53 hn2;simp only [List.getD_cons_succ,List.getD_cons_zero,List.headD_nil,zen];omega
     | p :: g1' =>
      have e:((p :: g1') :: q').flatten.flatten=p ++ (g1' ++ q'.flatten).flatten:=(by simp);rw [e] at hn2 |-;simp only [List.getD_cons_succ,List.getD_cons_zero,List.headD_cons];have:=zfR (a:=p) (b:=(g1' ++ q'.flatten).flatten) (λs hs=>hn2 s (List.mem_append_right _ hs));omega
   omega
 ·cases d with
  | cons g0 r=>simp at hone
  | nil =>
   have hflat:=hG.flat;simp only [List.nil_append,List.flatten_cons,List.flatten_nil,List.append_nil] at hflat;subst hflat;have hm:z1C c=c.foldl z0b []:=rfl;rw [<-hm] at hlow;have e:(List.map (λb=>hp' ++ b ++ fp) (List.map z1C ([] ++ [c]))).getD 0 []=hp' ++ z1C c ++ fp:=(by simp);rw [e];refine ⟨?_,by rw [List.length_append,List.length_append];omega⟩;rw [z7f,zco,z1D,z1D,hlow.2.2,<-hsum];have:=hlow.2.2;exact z32 (by omega)
end
section
open Go.RowKit Go.BigFrame
theorem z9D {t:T} {width:Int} {high:List Int} (hp:z27 t width high=true):(zH t width).length=t.rows.length/\t.rows.length<=8:=by
 have hok2:=hp;unfold z27 at hok2;rw [Bool.and_eq_true,Bool.and_eq_true] at hok2;obtain ⟨⟨hok,hw⟩,_⟩:=hok2;obtain ⟨H,E,hH,hE,h1,h2,h3,h4⟩:=z6o hok;refine ⟨?_,h4⟩;rw [zH,hok,hw];exact z0M _ _
theorem zkV (m:Nat):∃ k:Nat,k<=1/\Int.tmod (m:Int) 2=(k:Int):=by
 refine ⟨m % 2,by omega,?_⟩;exact (Int.ofNat_tmod m 2).symm
theorem zem {w:World} {B g:Nat} (h:w.heap[g]?=some (.cells #[int i64 100] 3)) (hB:B<=g):w.ownsRow B 3 1 (.slice (some ⟨g,0,none⟩) 1 1) 1 [int i64 100] :=
 zq.owns (l:=[100]) (D:=w.heap.size) (.inr ⟨g,1,#[int i64 100],rfl,hB,(bL h),h,lR,by unfold maxLen;decide,rfl,λi hi=>by
  obtain rfl:i=0:=by simp at hi;omega
  rfl⟩)
theorem zhO {w:World} {ad:Option Addr} {m c:Nat} {l:List Int} (h:zA w (.slice ad m c) l):(m ≠ 0->ad ≠ none)/\m=l.length/\∀ p,ad=some p->∀ j u,(l.map (Value.int .i64))[j]?=some u->w.cell? (p.add j)=some u:=by
 obtain ⟨a,cap,e,h1,h2,hx⟩:=h;simp only [Value.slice.injEq] at e;obtain ⟨rfl,rfl,rfl⟩:=e;refine ⟨λhne he=>?_,rfl,λp hp j u hu=>?_⟩
 ·obtain ⟨b,off,ea,_⟩:=hx 0 (by omega);rw [he] at ea
  cases ea
 ·rw [List.getElem?_map] at hu;obtain ⟨y,hy,rfl⟩:=Option.map_eq_some_iff.1 hu
  have hj:j < l.length:=by
   rcases Nat.lt_or_ge j l.length with h | h
   ·exact h
   ·rw [List.getElem?_eq_none h] at hy
    cases hy
  obtain ⟨b,off,ea,_,hc⟩:=hx j hj;rw [hp] at ea;simp only [Option.some.injEq] at ea;subst ea;have e2:l.getD j 0=y:=(by simp [List.getD,hy]);rw [e2] at hc
  have hadd:(⟨b,off,none⟩:Addr).add j=⟨b,off+j,none⟩:=by
   simp [Addr.add]
   try (intro h;omega)
  rw [hadd];exact hc
theorem zdO {w:World} {B:Nat} {v:Value} {l:List Int} (h:w.ownsRow B 3 1 v (1+l.length) ([int i64 100] ++ l.map (Value.int .i64))):zA w v (100 :: l):=by
 refine (zq.of_owns (B:=B) ?_).at;rw [List.length_cons,Nat.add_comm];exact h
theorem zfS (A:Option Addr) (len cap:Nat) (hlen:len<=1048576) (w:World) (h:z3N w A len cap) :
  Calls prog 7 #[.slice A len cap] w λe w'=>e=.returned (.bool true)/\Below w.heap.size w w':=by
 have hl:¬ (1048576:Int) < (len:Int):=(by omega);have hmx:prog.follows .mixedOrders=true:=(by kernel_rfl);have HD:=O h;clear h;go_enter func7,ntmps7;go_wp2_with fail
 refine (zba _ _ _ _ HD.out).mono ?_;rintro e w1 ⟨ac,ar,cc,cr,t,x,vh,high,rfl,hD,hxb,hsm,hC1,hW1,hH1,hb1⟩;obtain ⟨ah,ch,rfl,_⟩:=At.form hH1;have KA1:=ze (Below.refl w1.heap.size w1) (.cells #[.slice ac t.cols.length cc,int i64 t.head,int i64 t.foot,.slice ar t.rows.length cr,int i64 t.gap] 26);have HS:Hid (SP w w1.heap.size ac ar cc cr t (.slice ah high.length ch) high (w1.alloc (.cells #[.slice ac t.cols.length cc,int i64 t.head,int i64 t.foot,.slice ar t.rows.length cr,int i64 t.gap] 26))):=⟨⟨hb1.alloc hb1.size _,TA.kept ⟨hC1,hW1⟩ KA1,zj _ _⟩,hH1.ints.kept KA1⟩
 have hlh:high.length<=100:=by
  have:=hsm.1;omega
 have HRi:=O (λW (h:TA W w.heap.size ac ar cc cr t)=>z6W ac ar cc cr t hD x W h.1 h.2);have HRb:=O (z6f (t:=t) (x:=x));have HX:=O hD;obtain ⟨i0,hi,hz0,hz1,hz2⟩:=info_parts zhI;clear hC1 hW1 hH1 hb1 hD HD hxb hsm KA1;go_upto_region 4 with fail
 generalize w1.alloc (.cells #[.slice ac t.cols.length cc,int i64 t.head,int i64 t.foot,.slice ar t.rows.length cr,int i64 t.gap] 26)=W1 at HS |-;generalize w1.heap.size=tb at HS |-;obtain ⟨z0,z1,z2,z3,z4⟩:=HS.out.st.at;go_cut [25] (λs W=>(∃ b,s=.bool b)/\W=W1)
 case first=>as_aux_lemma =>
  obtain ⟨k,hk,he⟩:=zkV len;by_cases h0:0 < high.length
  ·have hd:decide ((0:Int) < (high.length:Int))=true:=decide_eq_true (by omega);go_wp2_with fail
   go_meet
   case rel=>exact ⟨⟨_,rfl⟩,rfl⟩
  ·have hz:high.length=0:=(by omega);have hd:decide ((0:Int) < (high.length:Int))=false:=decide_eq_false (by omega);go_wp2_with fail
   go_meet
   case rel=>exact ⟨⟨_,rfl⟩,rfl⟩
 case rest =>
 obtain ⟨⟨b,rfl⟩,rfl⟩:=hcut;rename_i hKc
 refine hKc _ _ ?_;go_cut [5] (λs W=>∃ (a:Option Addr) (c:Nat) (hg:List Int),s=.slice a hg.length c/\Hid (SP w tb ac ar cc cr t (.slice a hg.length c) hg W))
 case first=>as_aux_lemma =>
  cases b with
  | true =>
   obtain ⟨q1,_,q3⟩:=zhO (HS.out.hi.kept (ze bR (.cells #[int i64 100] 3)));go_wp2_with (at_builtin;refine wpList_plain rfl λK hK=>z4y _ (.tmp 26) (.tmp 27) 27 rfl wc.heap.size 3 i0 _ 1 8 underlying27 hi hz0 hz1 hz2 rfl (by decide) _ _ _ rfl (zem (zj wc _) lR) ah high.length ch (high.map (Value.int .i64)) rfl q1 (by rw [List.length_map];omega) q3 (λu hu=>by obtain ⟨y,_,rfl⟩:=List.mem_map.1 hu;rfl) (by unfold maxLen;omega) (by omega) (by simp) ?_)
   intro v' W7 hown7 hg7;refine hK _ _ ?_;have KA:=ze (Below.refl wc.heap.size wc) (.cells #[int i64 100] 3);have hB7:=KA.grown hg7 (by simp) (λb hb=>by simp only [Value.ownBlock,Option.some.injEq] at hb;omega);have hI7:=zdO hown7;obtain ⟨a7,c7,rfl,_⟩:=hI7.form;have HS7:Hid (SP w tb ac ar cc cr t (.slice a7 (100 :: high).length c7) (100 :: high) W7):=⟨HS.out.st.kept hB7,hI7⟩;clear hown7 hg7 hI7 KA hB7 hK q1 q3;go_wp2_with fail
   go_meet
   case rel=>exact ⟨a7,c7,100 :: high,rfl,HS7⟩
  | false =>
   go_wp2_with fail
   go_meet
   case rel=>exact ⟨ah,ch,high,rfl,HS⟩
 case rest =>
  clear HS z0 z1 z2 z3 z4 hi hz0 hz1 hz2 hlh;obtain ⟨ah1,ch1,hg,rfl,HS⟩:=hcut;have HAi:=O (zfF ac ar cc cr t HX.out x (.slice ah1 hg.length ch1) hg wc HS.out.st.2.1.1 HS.out.st.2.1.2 HS.out.hi);have HAs:=O (λW (h:SP w tb ac ar cc cr t (.slice ah1 hg.length ch1) hg W)=>zfO ac ar cc cr t HX.out x (.slice ah1 hg.length ch1) hg W h.st.2.1.1 h.st.2.1.2 h.hi);have HOk:=O (λW (h:SP w tb ac ar cc cr t (.slice ah1 hg.length ch1) hg W)=>zc2 ac ar cc cr t x (.slice ah1 hg.length ch1) hg W h.st.2.1.1 h.st.2.1.2 h.hi);have HF:=O (λhp=>And.intro (zhN HX.out (width:=x) (high:=hg) hp (z9D hp).1) (And.intro (z9D hp).1 (z9D hp).2));have HNo:=O (λhp=>zhH (t:=t) (width:=x) (high:=hg) hp);have HNa:Hid (z0Q t x hg=[]->z4K t x hg=[]):=λh=>by unfold z4K;rw [h];rfl
  clear HX;generalize z4K t x hg=al at HAi HAs HF HNa;generalize z0Q t x hg=pss at HNo HNa;generalize zH t x=rs at HRi HRb HF;generalize z27 t x hg=ok at HOk HF HNo;obtain ⟨z0,z1,z2,z3,z4⟩:=HS.out.st.at;go_wp2_with fail
  refine HAi.out.mono ?_;rintro e W3 ⟨v3,us,rfl,hO3,hR3,hb3⟩;have hP3:=hR3.pss hO3 lR lR;obtain ⟨aq,cq,rfl,hlq⟩:=At.form hP3;unfold maxLen at hlq;have HPA:=O hP3;replace HS:=O (HS.out.kept hb3);clear hO3 hR3 hP3 hb3 z0 z1 z2 z3 z4 HAi;obtain ⟨z0,z1,z2,z3,z4⟩:=HS.out.st.at;go_wp2_with fail
  refine (HAs.out _ HS.out).mono ?_;rintro e W4 ⟨v4,us4,rfl,hO4,hR4,hb4⟩;have HP4:=O (hR4.pss hO4 lR lR);replace HS:=O (HS.out.kept hb4);replace HPA:=O (HPA.out.kept hb4);clear hO4 hR4 hb4 z0 z1 z2 z3 z4 HAs;obtain ⟨ap4,cp4,rfl,_⟩:=At.form HP4.out;go_wp2_with fail
  refine (zek _ _ al W4 HPA.out HP4.out).mono ?_;rintro e W5 ⟨rfl,hb5⟩;replace HS:=O (HS.out.kept hb5);replace HPA:=O (HPA.out.kept hb5);clear HP4 hb5;obtain ⟨z0,z1,z2,z3,z4⟩:=HS.out.st.at
  cases ok with
  | false=>as_aux_lemma =>
   obtain rfl:=HNo.out rfl;obtain rfl:=HNa.out rfl;clear HNo HNa HF HRi HRb HPA;go_wp2_with fail
   refine (HOk.out _ HS.out).mono ?_;rintro e W6 ⟨rfl,hb6⟩;have HK:=O (HS.out.kept hb6).st.1;clear hb6 HS HOk z0 z1 z2 z3 z4;go_wp2_with fail
   refine (ziW _).mono ?_;rintro e wa ⟨rfl,rfl⟩;go_wp2;go_ret;exact ⟨rfl,HK.out⟩
  | true=>as_aux_lemma =>
   obtain ⟨⟨hn1,hal,hle,hone⟩,hrl,hr8⟩:=HF.out rfl
   have hwt:rs.all wtB=true:=List.all_eq_true.2 (λy hy=>by
    have:=HRb.out y hy;exact decide_eq_true (by omega))
   have HSum:=O (λW v h=>zch v rs (by omega) hwt W h);have HLe:=O hle;have HOne:=O hone
   have hne:((al.length:Int) == 0)=false:=by
    rw [beq_eq_false_iff_ne];omega
   clear HNo HNa HF HOk HRb hwt hrl hr8 hle hone;go_wp2_with fail
   refine (HRi.out _ HS.out.st.2.1).mono ?_;rintro e W6 ⟨v6,rfl,hR6,hb6⟩;have hI6:=hR6.at;obtain ⟨ax,cx,rfl,_⟩:=hI6.form;replace HS:=O (HS.out.kept hb6);replace HPA:=O (HPA.out.kept hb6);have HI6:=O hI6;clear hR6 hb6 hI6 z0 z1 z2 z3 z4 HRi;go_wp2_with fail
   refine (HSum.out _ _ HI6.out).mono ?_;rintro e W7 ⟨rfl,rfl⟩;clear HI6 HSum;generalize rs.sum=sm at HLe HOne |-;obtain ⟨rb,ro,rcap,er,ra1,ra2,ra3,ra4⟩:=HS.out.hi.get (i:=0) hn1;simp only [Value.slice.injEq,true_and] at er;obtain ⟨rfl,rfl⟩:=er;unfold maxLen at ra2;rw [Nat.add_zero] at ra4;generalize hg.getD 0 0=y at HLe ra4;have HK:=O HS.out.st.1;obtain ⟨b1,off1,cap1',u1,e1,hc11,hc12,hbl1,x0,hs1⟩:=HPA.out.get (i:=0) (by omega);simp only [Value.slice.injEq,true_and] at e1;obtain ⟨rfl,rfl⟩:=e1;unfold maxLen at hc12;rw [Nat.add_zero] at x0;generalize al.getD 0 []=pg at hs1 HOne;obtain ⟨a1,c1,rfl,hl1⟩:=At.form hs1;have HG1:=O hs1;clear hs1 HPA HS;by_cases h1:1 < al.length
   ·have hgt:y < sm:=by
     rcases Int.lt_or_le y sm with h | h
     ·exact h
     ·have:=HLe.out h;omega
    have d1:decide (y < sm)=true:=decide_eq_true hgt;have d2:decide ((1:Int) < (al.length:Int))=true:=decide_eq_true (by omega);clear hne;go_wp2;go_ret;exact ⟨rfl,HK.out⟩
   ·have hL:al.length=1:=(by omega);have hO:=HOne.out hL;rw [hL] at *;by_cases hgt:y < sm
    ·have d1:decide (y < sm)=true:=decide_eq_true hgt;go_wp2_with fail
     refine (z3F _ pg _ HG1.out).mono ?_;rintro e Wa ⟨rfl,hba⟩;rw [hO.1];have HKe:=O (HK.out.trans (hba.mono HK.out.size));clear hO HOne HLe;go_wp2;go_ret;exact ⟨rfl,HKe.out⟩
    ·have d1:decide (y < sm)=false:=decide_eq_false hgt;go_wp2_with fail
     refine (z3F _ pg _ HG1.out).mono ?_;rintro e Wa ⟨rfl,hba⟩;rw [hO.1];have HKe:=O (HK.out.trans (hba.mono HK.out.size));clear hO HOne HLe;go_wp2;go_ret;exact ⟨rfl,HKe.out⟩
theorem zhP (A:Option Addr) (len cap:Nat) (w:World) (h:z3N w A len cap) :
  Calls prog 7 #[.slice A len cap] w λe w'=>e=.returned (.bool true)/\Below w.heap.size w w':=by
 have hlen:len<=maxLen:=nT h.1 h.2.1;unfold maxLen at hlen;by_cases hbig:len<=1048576
 ·exact zfS A len cap hbig w h
 ·clear h;have hb:(1048576:Int) < (len:Int):=(by omega);go_enter func7,ntmps7;go_wp2;go_ret;exact ⟨rfl,bR⟩
end
end Go.Proofs.YtggmjiddadjilahGreat
