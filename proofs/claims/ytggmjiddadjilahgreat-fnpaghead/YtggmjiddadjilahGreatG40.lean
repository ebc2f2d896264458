/-
  PROVED HERE: what the model's PagAll answers of a drawn table, any width and any heights: the pages of its body, head and foot with each, in new memory; nothing that was in memory is turned. Also: 3 more texts of the same proof.
-/
import Derived.Test.YtggmjiddadjilahGreatG39
import Derived.Test.YtggmjiddadjilahGreatG25
set_option maxRecDepth 1000000
set_option maxHeartbeats 40000000
namespace Go.Proofs.YtggmjiddadjilahGreat
open Value (int)
open IntKind (i64)
section
open Go.RowKit
theorem zeL {w:World} {base:Nat} {v:Value} {a b:List zk} (h:w.ownsRow base 45 3 v (a.length+b.length) (a.flatMap z0z ++ b.flatMap z0z)):zv w base v (a ++ b):=by
 unfold zv;rw [List.length_append,List.flatMap_append];exact h
theorem zfG {w w':World} {base base':Nat} {e e':TypeId} {sz sz':Nat} {v U:Value} {n m:Nat} {xs ys:List Value} (h:w.ownsRow base e sz v n xs) (hU:w.ownsRow base' e' sz' U m ys) (he:e ≠ e') (k:w.grownBy w' U.ownBlock):w'.ownsRow base e sz v n xs :=
 ⟨h.1,h.2.elim Or.inl (fun ⟨g,cap,cur,hv,hg,hc,r⟩=>Or.inr ⟨g,cap,cur,hv,hg,z04 hc k (z0d (zu hU hc (fun h=>he h.symm))),r⟩)⟩
theorem zeM {w:World} {z:Nat} {au:Option Addr} {n c:Nat} {pg:List zk} (h:z1W w z (.slice au n c) pg):pg.length ≠ 0->au ≠ none:=fun h0 hn=>by
 obtain ⟨a9,c9,e9,_,_,h9⟩:=h;simp only [Value.slice.injEq] at e9;obtain ⟨b9,o9,e8,_⟩:=h9 0 (by omega);rw [<-e9.1,hn] at e8
 cases e8
theorem zhz {t:T} {width:Int} {high:List Int}:(z0H t width high).length<=100000:=by
 unfold z0H
 split
 ·rename_i hp
  unfold z2j at hp;rw [Bool.and_eq_true,Bool.and_eq_true] at hp;have h1:=z62 (t:=t) hp.1.1 (hs:=zJ t width) z8Q;have h2:=zdJ (high.map (· - (zy (z05 t (zJ t width))+zy (z06 t (zJ t width))))) (z0K t (zJ t width));unfold z3B;rw [List.length_append,List.length_singleton];omega
 ·simp
theorem zhA (pg:List zk):∀ u ∈ pg.flatMap z0z,u.oneCell'=true:=fun u hu=>by
 obtain ⟨s,_,hs⟩:=List.mem_flatMap.1 hu;simp only [z0z,List.mem_cons,List.not_mem_nil,or_false] at hs
 rcases hs with rfl | rfl | rfl <;> rfl
structure PbJ (gb go k m cp cu cx rl tb:Nat) (ac ar ax au:Option Addr) (cc cr:Nat) (t:T) (pg hp:List zk) (W3:World) (L:Nat->Bool) (W:World) (v11 v30 v31 v32 v33 v34 v35 v36 v37 v38:Value):Prop where
 f0:L 0=true->v30=.slice ax rl cx
 f1:L 1=true->v31=.pointer (some ⟨tb,1,none⟩)
 f2:L 2=true->v32=int i64 t.head
 f3:L 3=true->L 8=false->zv W W3.heap.size v33 hp
 f4:L 4=true->v34=.slice (some ⟨gb,go,none⟩) m cp
 f5:L 5=true->v35=int i64 (k:Int)
 f6:L 6=true->v36=.pointer (some ⟨gb,go+k,none⟩)
 f7:L 7=true->v37=.slice au pg.length cu
 f8:L 8=true->L 9=false->zv W W3.heap.size v38 (hp ++ pg)
 f9:L 9=true->Below W3.heap.size W3 W/\zv W W3.heap.size v11 (hp ++ pg)
 b:L 9=false->Below W3.heap.size W3 W
theorem zfH (ac ar:Option Addr) (cc cr:Nat) (t:T) (hD:z0h t) (width:Int) (vh:Value) (high:List Int) (w:World) {z:Nat} (hc:z08 w z (.slice ac t.cols.length cc) t.cols) (hr:z03 w z (.slice ar t.rows.length cr) t.rows) (hh:zC w vh high) :
  Calls Tryz.prog 12 #[.agg #[.slice ac t.cols.length cc,int i64 t.head,int i64 t.foot,.slice ar t.rows.length cr,int i64 t.gap],int i64 width,vh] w fun e w'=>∃ v us,e=.returned v/\w'.ownsRow w.heap.size 41 1 v us.length us/\zN w' w.heap.size us (z59 t width high)/\Below w.heap.size w w':=by
 obtain ⟨i0,hi,hz0,hz1,hz2⟩:=info_parts zaG;obtain ⟨j0,hj,hy0,hy1,hy2⟩:=info_parts z5d;have hmx:Tryz.prog.follows .mixedOrders=true:=(by kernel_rfl);obtain ⟨ah,ch,rfl,_⟩:=hh.form;have HK0:=Hd (ze (Below.refl w.heap.size w) (.cells #[.slice ac t.cols.length cc,int i64 t.head,int i64 t.foot,.slice ar t.rows.length cr,int i64 t.gap] 26));have HX0:=Hd (zm w (.cells #[.slice ac t.cols.length cc,int i64 t.head,int i64 t.foot,.slice ar t.rows.length cr,int i64 t.gap] 26));have hs0:(w.alloc (.cells #[.slice ac t.cols.length cc,int i64 t.head,int i64 t.foot,.slice ar t.rows.length cr,int i64 t.gap] 26)).heap.size=w.heap.size+1:=(by simp);have KP:=Hd (fun W (k:Below w.heap.size w W)=>zef ac ar cc cr t hD width _ high W (hc.kept k) (hr.kept k) (hh.kept k));have KR:=Hd (fun W (k:Below w.heap.size w W)=>zeg ac ar cc cr t hD width W (hc.kept k) (hr.kept k));clear hc hr hh;have HAl:Hid (z59 t width high=(z0H t width high).map (fun b=>z05 t (zJ t width) ++ b ++ z06 t (zJ t width))):=rfl;have HNo:=Hd (fun hp=>zav (t:=t) (width:=width) (high:=high) hp)
 have HOk:Hid (z2j t width high=true->zF t=true/\(zJ t width).length=t.rows.length/\∀ i,i < (z0H t width high).length->∀ k,(([z05 t (zJ t width),(z0H t width high).getD i [],z06 t (zJ t width)].take k).flatten).length<=100000):=fun hp=>by
  have hok2:=hp;unfold z2j at hok2;rw [Bool.and_eq_true,Bool.and_eq_true] at hok2;refine ⟨hok2.1.1,by rw [zJ,hok2.1.1,hok2.1.2];exact z0O _ _,fun i hi k=>z9y hD hp hi k⟩
 have HBl:Hid ((z0H t width high).length<=100000):=zhz;generalize z59 t width high=al at HAl |-;generalize z0H t width high=pss at KP HAl HNo HOk HBl;generalize zJ t width=rs at KR HAl HOk;generalize z2j t width high=ok at HNo HOk;go_enter Tryz.func12,Tryz.ntmps12;go_upto_region 1 with fail
 generalize w.alloc (.cells #[.slice ac t.cols.length cc,int i64 t.head,int i64 t.foot,.slice ar t.rows.length cr,int i64 t.gap] 26)=W0 at HK0 HX0 hs0 |-;obtain ⟨z0,z1,z2,z3,z4⟩:=zK HX0.out;go_wp2_with fail
 refine (KP.out _ HK0.out).mono ?_;rintro e W1 ⟨v1,us,rfl,hO1,hR1,hb1⟩;obtain ⟨a1,c1,rfl,hul⟩:=zP hO1;have hlu:=hR1.1;have HK1:=Hd (zi HK0.out hb1);have HX1:=Hd ((hb1.block _ (bL HX0.out)).trans HX0.out);have HP1:Hid (z1p W1 0 (.slice a1 us.length c1) pss):=hR1.pss hO1 (Nat.zero_le _) (Nat.zero_le _);rw [hlu] at HP1 |-;unfold maxLen at hul;rw [hlu] at hul;clear hb1 HK0 HX0 z0 z1 z2 z3 z4 hO1 hR1 hlu KP;have HMd:=Hd (World.ownsRow_made (base:=W1.heap.size) (e:=41) (size:=1) W1 #[] 0 (Nat.le_refl _) (Nat.zero_le _) rfl);have hka:=ze (Below.refl W1.heap.size W1) (.cells #[] 41);have HK2:=Hd (zi HK1.out hka);have HX2:=Hd ((hka.block _ (bL HX1.out)).trans HX1.out);have HB2:=Hd hka;have hw1:w.heap.size<=W1.heap.size:=HK1.out.size;have hl1:w.heap.size < W1.heap.size:=(bL HX1.out);clear hka;go_upto_region 3 with fail
 generalize hW2:W1.alloc (.cells #[] 41)=W2 at HMd HK2 HX2 HB2 |-;clear hW2;by_cases hn:pss.length=0
 case pos =>
  have hn1:((pss.length:Int) == 0)=true:=beq_iff_eq.2 (by omega);have HE:Hid (al=[]):=(by show _=_;rw [HAl.out,List.length_eq_zero_iff.1 hn];rfl);clear hn;go_wp2;go_ret;exact ⟨_,[],rfl,z3J HMd.out hw1,by rw [HE.out];exact zN.nil _ _,HK2.out⟩
 case neg =>
  have hn1:((pss.length:Int) == 0)=false:=beq_eq_false_iff_ne.2 (by omega)
  have hok:ok=true:=by
   cases hok:ok with
   | true=>rfl
   | false =>
    rw [HNo.out hok] at hn;exact absurd rfl hn
  obtain ⟨htk,hrl,hln⟩:=HOk.out hok;have htb:=z0N htk;have hpb:=HBl.out
  have hhf:0<=t.head/\0<=t.foot/\t.head<=t.rows.length/\t.foot<=t.rows.length:=by
   obtain ⟨H,E,hH,hE,h1,h2,h3,h4⟩:=z8b htk;have:=htb;omega
  obtain ⟨z0,z1,z2,z3,z4⟩:=zK HX2.out;go_wp2_with fail
  refine (KR.out _ HK2.out).mono ?_;rintro e W3 ⟨v2,rfl,hI,hb3⟩;obtain ⟨ax,cx,rfl⟩:=hI.form;have hz3:=hb3.size;have hzz:=HB2.out.size;have HI:=Hd (z3J hI.owns (show W1.heap.size<=W2.heap.size from hzz));have HB3:=Hd (HB2.out.trans (hb3.mono hzz));have HK3:=Hd (zi HK2.out hb3);have HX3:=Hd ((hb3.block _ (bL HX2.out)).trans HX2.out);have HO3:=Hd (z2r HMd.out hb3);clear hI hb3 HK2 HX2 HMd z0 z1 z2 z3 z4 KR HB2 hok HOk HNo HBl;have hrl8:rs.length<=8:=(by omega);have HRl:=Hd hrl;clear hrl;go_wp2_with fail
  go_loopw [8,10] (fun o i W=>∃ (k:Nat) (us:List Value),i=int i64 (k:Int)/\k<=pss.length/\Hid (us.length=k)/\Hid (W.ownsRow W1.heap.size 41 1 o us.length us)/\Hid (zN W W1.heap.size us ((pss.take k).map (fun b=>z05 t rs ++ b ++ z06 t rs)))/\Hid (W.ownsRow W1.heap.size 3 1 (.slice ax rs.length cx) rs.length (rs.map (Value.int .i64)))/\Hid (Below W1.heap.size W1 W)) (fun _ i _=>pss.length - (intOf i).toNat)
  case atStart=>exact ⟨0,[],rfl,Nat.zero_le _,rfl,HO3,zN.nil _ _,HI,HB3⟩
  case round =>
   clear HO3 HI HB3 HK3 HX3;obtain ⟨k,us,rfl,hk,HLu,HO,HR,HI,HB⟩:=hrel;obtain ⟨ao,co,rfl,_⟩:=zP HO.out;have HX:=Hd ((HB.out.block w.heap.size hl1).trans HX1.out);have hBs:=HB.out.size;by_cases hlt:k < pss.length
   case neg =>
    obtain rfl:k=pss.length:=by omega
    have HKe:=Hd (HK1.out.trans (HB.out.mono hw1));rw [List.take_length] at HR;go_wp2;go_ret;exact ⟨_,us,rfl,z3J HO.out hw1,by rw [HAl.out];exact HR.out.base hw1,HKe.out⟩
   case pos =>
    obtain ⟨gb,go,cap',u1,e1,hc11,hc12,hgb,x0,hs1⟩:=(HP1.out.kept HB.out).get hlt;simp only [Value.slice.injEq,true_and] at e1;obtain ⟨rfl,rfl⟩:=e1;unfold maxLen at hc12;have hl2:=hln k hlt 2;have hl3:=hln k hlt 3
    have HTk:Hid ((pss.take (k+1)).map (fun b=>z05 t rs ++ b ++ z06 t rs)=(pss.take k).map (fun b=>z05 t rs ++ b ++ z06 t rs) ++ [z05 t rs ++ pss.getD k [] ++ z06 t rs]):=by
     show _=_;have e:pss.getD k []=pss[k]:=(by simp [List.getD,hlt]);rw [List.take_succ_eq_append_getElem hlt,List.map_append,e];rfl
    generalize hpg:pss.getD k []=pg at hs1 hl2 hl3 HTk;clear hpg;obtain ⟨au,cu,rfl,hlu⟩:=At.form hs1;unfold maxLen at hlu;have HG:=Hd hs1;have X0:=Hd x0;have HAu:=Hd (zeM hs1);have HNl:Hid ((pg.flatMap z0z).length=pg.length * 3):=z6c z0z 3 (fun _=>rfl) pg;have HCl:=Hd (zhA pg);have hl0:=(bL HX.out);have HIx:=Hd ((zt.of_owns HI.out).at);have KH:Hid (∀ W,Below wr.heap.size wr W->Calls Tryz.prog 34 #[.slice ax rs.length cx,int i64 0,int i64 t.head] W fun e w'=>∃ u,e=.returned u/\zv w' W.heap.size u (z05 t rs)/\Below W.heap.size W w'):=fun W h=>z4r rs 0 t.head.toNat (by have:=HRl.out;omega) (by omega) 0 t.head rfl (by omega) _ W (HIx.out.kept h);have KF:Hid (∀ W,Below wr.heap.size wr W->Calls Tryz.prog 34 #[.slice ax rs.length cx,int i64 ((rs.length:Int) - t.foot),int i64 (rs.length:Int)] W fun e w'=>∃ u,e=.returned u/\zv w' W.heap.size u (z06 t rs)/\Below W.heap.size W w'):=fun W h=>z4r rs (t.rows.length - t.foot.toNat) t.foot.toNat (by have:=HRl.out;omega) (by omega) ((rs.length:Int) - t.foot) (rs.length:Int) (by have:=HRl.out;omega) (by have:=HRl.out;omega) _ W (HIx.out.kept h);generalize z05 t rs=hp at *;generalize z06 t rs=fp at *;simp only [List.take,List.flatten_cons,List.flatten_nil,List.append_nil,List.length_append] at hl2 hl3;have hwf:IntKind.i64.wrap ((rs.length:Int) - t.foot)=(rs.length:Int) - t.foot:=(by rw [IntKind.wrap_i64];omega);clear hs1 hln;obtain ⟨z0,z1,z2,z3,z4⟩:=zK HX.out;go_upto_region 9 with fail
    clear z0 z1 z2 z3 z4 x0;refine z0n (fun L act W=>∃ v11 v30 v31 v32 v33 v34 v35 v36 v37 v38:Value,act=⟨#[.agg #[.slice ac t.cols.length cc,int i64 t.head,int i64 t.foot,.slice ar t.rows.length cr,int i64 t.gap],int i64 width,.slice ah high.length ch,.pointer (some ⟨w.heap.size,0,none⟩),undef,undef,.slice none 0 0,.slice (some ⟨gb,go,none⟩) pss.length c1,.slice ao us.length co,.slice ax rs.length cx,int i64 (k:Int),v11,.agg #[.slice ac t.cols.length cc,int i64 t.head,int i64 t.foot,.slice ar t.rows.length cr,int i64 t.gap],int i64 width,.slice ah high.length ch,.slice (some ⟨gb,go,none⟩) pss.length c1,.slice (some ⟨W1.heap.size,0,none⟩) 0 0,.slice (some ⟨gb,go,none⟩) pss.length c1,int i64 (pss.length:Int),.bool false,undef,.agg #[.slice ac t.cols.length cc,int i64 t.head,int i64 t.foot,.slice ar t.rows.length cr,int i64 t.gap],int i64 width,.slice ax rs.length cx,int i64 (k:Int),.slice (some ⟨gb,go,none⟩) pss.length c1,int i64 (pss.length:Int),.bool true,u28,u29,v30,v31,v32,v33,v34,v35,v36,v37,v38,u39,u40,u41,u42,u43,u44,u45,u46,u47,u48,u49,u50,u51,u52,undef],[]⟩/\PbJ gb go k pss.length c1 cu cx rs.length w.heap.size ac ar ax au cc cr t pg hp wr L W v11 v30 v31 v32 v33 v34 v35 v36 v37 v38) hmx (by kernel_rfl) ?hs ?hd ?h0
    case h0=>exact e10 ⟨rfl,⟨n0,n0,n0,n0,n0,n0,n0,n0,n0,n0,fun _=>z0X (Below.refl _ _)⟩⟩
    case hd =>
     intro L act W hJ hall;obtain ⟨v11,v30,v31,v32,v33,v34,v35,v36,v37,v38,ha,J⟩:=hJ;subst ha;obtain ⟨hb5,hO5⟩:=J.f9 (hall 9 (by decide));obtain ⟨h9,c9,rfl,_⟩:=zP hO5;have hz5:=hb5.size;have HO5:=Hd hO5;have HB5:=Hd hb5;have hX5:=(hb5.block _ hl0).trans HX.out;obtain ⟨z0,z1,z2,z3,z4⟩:=zK hX5;clear J hall KH hO5 hb5;go_wp2_with fail
     refine (KF.out _ HB5.out).mono ?_;rintro e W6 ⟨uf,rfl,hOf,hb6⟩;obtain ⟨hf9,cf9,rfl,_⟩:=zP hOf;have hz6:=hb6.size;have hO6:W6.ownsRow wr.heap.size 45 3 (.slice h9 (hp ++ pg).length c9) (hp ++ pg).length ((hp ++ pg).flatMap z0z):=zv.kept HO5.out hb6;have HPf:=Hd (zv.at hOf);have HNf:Hid ((fp.flatMap z0z).length=fp.length * 3):=z6c z0z 3 (fun _=>rfl) fp;have HB6:=Hd (HB5.out.trans (hb6.mono hz5));have hl4:(hp ++ pg).length+fp.length<=100000:=(by rw [List.length_append];omega);clear hOf hb6 KF z0 z1 z2 z3 z4 hX5;generalize hhp:hp ++ pg=hpg at hO6 hl4 |-;have HHp:=Hd hhp;clear hhp;go_wp2_with (at_builtin;refine wpList_plain rfl fun K hK=>z5L _ (.tmp 40) (.tmp 49) 41 rfl wr.heap.size 45 i0 _ 3 24 Tryz.underlying41 hi hz0 hz1 hz2 rfl (by decide) _ _ _ rfl hO6 hf9 fp.length cf9 (fp.flatMap z0z) rfl (zeM HPf.out) HNf.out (fun p hp=>zaH (by rw [<-hp];exact HPf.out)) (zhA fp) (by unfold maxLen;omega) (by omega) (by omega) ?_)
     intro v' W7 hown7 hg7;refine hK _ _ ?_;have hO7:zv W7 wr.heap.size v' (hp ++ pg ++ fp):=(by rw [HHp.out];exact zeL hown7);have hB7:=HB6.out.grown hg7 (by omega) (fun b hb=>(World.ownsRow.lt hO6 b hb).1);have hz7:=hB7.size;obtain ⟨h7,c7,rfl,_⟩:=zP hO7;rw [HHp.out] at hO7 |-;rw [List.length_append] at hO7 |-;have hO8:=z2r HO.out hB7;have HU7:=Hd hO7;have HB7:=Hd hB7;have HLs:=HLu.out;have hus:us.length<=100000:=(by omega);have HHL:=Hd HLs;clear HLs hown7 hg7 hO6 HB6 HB5 HO5 hO7 hB7 hK;go_wp2_with (at_builtin;refine wpList_append_own _ rfl _ _ 30 rfl W1.heap.size 41 j0 _ 1 24 Tryz.underlying30 hj hy0 hy1 hy2 rfl (by decide) _ _ _ rfl (hO8.alloc _) ⟨W7.heap.size,0,none⟩ 1 1 [.slice h7 (hpg.length+fp.length) c7] rfl rfl ?c1 ?c2 ?c3 ?c4 ?c5 ?_)
     case c1=>exact z0L (zm W7 _)
     case c2=>simp [Value.oneCell']
     case c3=>unfold maxLen;omega
     case c4=>omega
     case c5=>simp;omega
     intro v9 W9 hown9 hg9 _;have hOA:=hO8.alloc (.cells #[.slice h7 (hpg.length+fp.length) c7] 41);have KA:=ze (Below.refl W7.heap.size W7) (.cells #[.slice h7 (hpg.length+fp.length) c7] 41)
     have HR9:Hid (zN W9 W1.heap.size (us ++ [.slice h7 (hpg.length+fp.length) c7]) ((pss.take (k+1)).map (fun b=>hp ++ b ++ fp))):=by
      show zN _ _ _ _;rw [HTk.out,HHp.out];exact (((HR.out.kept HB7.out).kept KA).grown hOA hg9).app (zN.one (zv.grown (zv.kept (zv.base HU7.out hBs) KA) hOA hg9))
     have HI9:=Hd (zfG (z2r (z2r HI.out HB7.out) KA) hOA (by decide) hg9);have HB9:=Hd ((ze (HB.out.trans (HB7.out.mono hBs)) (.cells #[.slice h7 (hpg.length+fp.length) c7] 41)).grown hg9 (by simp;omega) (fun b hb=>(World.ownsRow.lt hO8 b hb).1));have HL9:Hid ((us ++ [Value.slice h7 (hpg.length+fp.length) c7]).length=k+1):=(by show _=_;rw [List.length_append,HLu.out];rfl)
     have HO9:Hid (W9.ownsRow W1.heap.size 41 1 v9 (us ++ [Value.slice h7 (hpg.length+fp.length) c7]).length (us ++ [Value.slice h7 (hpg.length+fp.length) c7])):=by
      show World.ownsRow _ _ _ _ _ _ _;rw [List.length_append];exact hown9
     obtain ⟨ao9,co9,rfl,_⟩:=zP HO9.out;clear hown9 hg9 hOA KA HO HR HI HB HLu hO8 HU7 HB7;generalize us ++ [Value.slice h7 (hpg.length+fp.length) c7]=us9 at *;go_wp2;go_roundw
     case rel=>exact ⟨k+1,us9,by go_num,by omega,HL9,HO9,HR9,HI9,HB9⟩
     case measure=>simp [intOf];omega
    case hs =>
     intro L act W i o hJ hcl ho hLi haft K hK;obtain ⟨v11,v30,v31,v32,v33,v34,v35,v36,v37,v38,ha,J⟩:=hJ;subst ha
     have hi':i < 10:=by
      have:=(bL ho)
      simpa using this
     rcases (by omega:i=0\/i=1\/i=2\/i=3\/i=4\/i=5\/i=6\/i=7\/i=8\/i=9) with rfl | rfl | rfl | rfl | rfl | rfl | rfl | rfl | rfl | rfl
     all_goals
      simp only [List.getElem?_toArray,List.getElem?_cons_zero,List.getElem?_cons_succ,Option.some.injEq] at ho;subst ho;clear hi'
     ·have hN:=Pl hcl 9 [8,3] hLi;have hB:=J.b hN;go_simp;exact hK _ _ (e10 ⟨rfl,⟨fun _=>rfl,uq J.f1,uq J.f2,ug (Qh hcl 3 0 hLi),uq J.f4,uq J.f5,uq J.f6,uq J.f7,ug (Pl hcl 8 [3] hLi),ug (Pl hcl 9 [8,3] hLi),fun _=>hB⟩⟩)
     ·have hN:=Pl hcl 9 [8,3,2] hLi;have hB:=J.b hN;go_simp;exact hK _ _ (e10 ⟨rfl,⟨uq J.f0,fun _=>rfl,ug (Qh hcl 2 1 hLi),ug (Pl hcl 3 [2] hLi),uq J.f4,uq J.f5,uq J.f6,uq J.f7,ug (Pl hcl 8 [3,2] hLi),ug (Pl hcl 9 [8,3,2] hLi),fun _=>hB⟩⟩)
     ·have hN:=Pl hcl 9 [8,3] hLi;have hB:=J.b hN;obtain rfl:=J.f1 (Fa haft 1);obtain ⟨q0,q1,q2,q3,q4⟩:=zK ((hB.block _ hl0).trans HX.out);go_simp;exact hK _ _ (e10 ⟨rfl,⟨uq J.f0,uq J.f1,fun _=>rfl,ug (Qh hcl 3 2 hLi),uq J.f4,uq J.f5,uq J.f6,uq J.f7,ug (Pl hcl 8 [3] hLi),ug (Pl hcl 9 [8,3] hLi),fun _=>hB⟩⟩)
     ·have hN:=Pl hcl 9 [8] hLi;have hB:=J.b hN;obtain rfl:=J.f0 (Fa haft 0);obtain rfl:=J.f2 (Fa haft 2);go_simp;go_wp2_with (go_at_call 34;refine (KH.out W hB).mono ?_;rintro e W2 ⟨v,rfl,hO,hb⟩;replace hO:=zv.base hO hB.size)
      exact e10 ⟨rfl,⟨uq J.f0,uq J.f1,uq J.f2,fun _ _=>hO,uq J.f4,uq J.f5,uq J.f6,uq J.f7,ug (Qh hcl 8 3 hLi),ug (Pl hcl 9 [8] hLi),fun _=>zi hB hb⟩⟩
     ·have hN:=Pl hcl 9 [8,7,6] hLi;have hB:=J.b hN;go_simp;exact hK _ _ (e10 ⟨rfl,⟨uq J.f0,uq J.f1,uq J.f2,u2 J.f3,fun _=>rfl,uq J.f5,ug (Qh hcl 6 4 hLi),ug (Pl hcl 7 [6] hLi),ug (Pl hcl 8 [7,6] hLi),ug (Pl hcl 9 [8,7,6] hLi),fun _=>hB⟩⟩)
     ·have hN:=Pl hcl 9 [8,7,6] hLi;have hB:=J.b hN;go_simp;exact hK _ _ (e10 ⟨rfl,⟨uq J.f0,uq J.f1,uq J.f2,u2 J.f3,uq J.f4,fun _=>rfl,ug (Qh hcl 6 5 hLi),ug (Pl hcl 7 [6] hLi),ug (Pl hcl 8 [7,6] hLi),ug (Pl hcl 9 [8,7,6] hLi),fun _=>hB⟩⟩)
     ·have hN:=Pl hcl 9 [8,7] hLi;have hB:=J.b hN;obtain rfl:=J.f4 (Fa haft 4);obtain rfl:=J.f5 (Fa haft 5);go_simp;exact hK _ _ (e10 ⟨rfl,⟨uq J.f0,uq J.f1,uq J.f2,u2 J.f3,uq J.f4,uq J.f5,fun _=>rfl,ug (Qh hcl 7 6 hLi),ug (Pl hcl 8 [7] hLi),ug (Pl hcl 9 [8,7] hLi),fun _=>hB⟩⟩)
     ·have hN:=Pl hcl 9 [8] hLi;have hB:=J.b hN;obtain rfl:=J.f6 (Fa haft 6);have x0:=(hB.cell (p:=⟨gb,go+k,none⟩) hgb).trans X0.out;have hgl:=Nat.lt_of_lt_of_le hgb hB.size;go_simp;exact hK _ _ (e10 ⟨rfl,⟨uq J.f0,uq J.f1,uq J.f2,u2 J.f3,uq J.f4,uq J.f5,uq J.f6,fun _=>rfl,ug (Qh hcl 8 7 hLi),ug (Pl hcl 9 [8] hLi),fun _=>hB⟩⟩)
     ·have hN:=Qh hcl 9 8 hLi;have hB:=J.b hN;have hO0:=J.f3 (Fa haft 3) hLi;obtain ⟨h1,c1x,rfl,_⟩:=zP hO0;obtain rfl:=J.f7 (Fa haft 7);have hO:W.ownsRow wr.heap.size 45 3 (.slice h1 hp.length c1x) hp.length (hp.flatMap z0z):=hO0;rw [if_pos (by rfl)];refine z5L _ (.tmp 33) (.tmp 37) 41 rfl wr.heap.size 45 i0 _ 3 24 Tryz.underlying41 hi hz0 hz1 hz2 rfl (by decide) _ _ _ rfl hO au pg.length cu (pg.flatMap z0z) rfl HAu.out HNl.out (fun p hp=>zaH (by rw [<-hp];exact HG.out.kept hB)) HCl.out (by unfold maxLen;omega) (by omega) hB.size ?_;intro v' w5 hown' hgrow';exact hK _ _ (e10 ⟨rfl,⟨uq J.f0,uq J.f1,uq J.f2,fun _ h=>absurd (h.symm.trans zI) (by simp),uq J.f4,uq J.f5,uq J.f6,uq J.f7,fun _ _=>zeL hown',ug (Qh hcl 9 8 hLi),fun _=>hB.grown hgrow' hB.size (fun q hq=>(hO.lt q hq).1)⟩⟩)
     ·have hN:=hLi;have hB:=J.b hN;have hO1:=J.f8 (Fa haft 8) hLi;go_simp;exact hK _ _ (e10 ⟨rfl,⟨uq J.f0,uq J.f1,uq J.f2,u2 J.f3,uq J.f4,uq J.f5,uq J.f6,uq J.f7,fun _ h=>absurd (h.symm.trans zI) (by simp),fun _=>⟨hB,hO1⟩,fun h=>absurd (h.symm.trans zI) (by simp)⟩⟩)
structure zl3 (t:T) (hs:List Int) (pss:List (List zk)) (E:Nat):Prop where
 tl:(t.rows.length:Int) - t.foot=E
 hd:0<=t.head/\t.head<=E
 le:E<=t.rows.length
 run:z1y hs ⟨t.head,0,false⟩ pss.flatten
 ready:z4v hs (z22 hs ⟨t.head,0,false⟩ pss.flatten) E
 rows:∀ s ∈ pss.flatten,t.head<=s.r/\s.r < E
def zl4 (hs:List Int) (p:Pos) (pss:List (List zk)) (i k:Nat):Pos:=z22 hs p ((pss.take i).flatten ++ (pss.getD i []).take k)
structure SP (w:World) (tb:Nat) (ac ar:Option Addr) (cc cr:Nat) (t:T) (vh:Value) (high:List Int) (W:World):Prop where
 st:St w tb ac ar cc cr t W
 hi:zC W vh high
theorem SP.kept {w W W':World} {tb:Nat} {ac ar:Option Addr} {cc cr:Nat} {t:T} {vh:Value} {high:List Int} (h:SP w tb ac ar cc cr t vh high W) (k:Below W.heap.size W W'):SP w tb ac ar cc cr t vh high W':=⟨h.st.kept k,h.hi.kept k⟩
theorem zhB {t:T} {width:Int} {high:List Int} (h:z2j t width high=false):z0H t width high=[]:=by unfold z0H;rw [if_neg (by rw [h];simp)]
def zl5 (hs:List Int) (E:Nat) (p:Pos) (s:zk):Prop :=
 (∃ n:Nat,p.row=n/\n < E/\s.r=n/\s.f=p.line/\¬ s.t < s.f/\¬ hs.getD n 0 < s.t/\(s.f=s.t->¬ 0 < hs.getD n 0)/\z4u hs p s=⟨n,s.t,true⟩)
 \/ (∃ n m:Nat,p.row=n/\(n:Int)+1=m/\n < E/\m < E/\p.seen=true/\p.line=hs.getD n 0/\s.r=m/\s.f=0/\¬ s.t < s.f/\¬ hs.getD m 0 < s.t/\(s.f=s.t->¬ 0 < hs.getD m 0)/\z4u hs p s=⟨m,s.t,true⟩)
end
section
open Go.RowKit Go.BigFrame
theorem z8C (hs:List Int):∀ (n a k:Nat),k < n->(zS hs a n).getD k dP=⟨((a+k:Nat):Int),0,hs.getD (a+k) 0⟩
 | n+1,a,0,_=>rfl
 | n+1,a,k+1,h=>by
  show (zS hs (a+1) n).getD k dP=_;rw [z8C hs n (a+1) k (by omega),show a+(k+1)=a+1+k by omega]
theorem z8D {a b c:List zk} {k:Nat}:(k < a.length->(a ++ b ++ c).getD k dP=a.getD k dP)/\(k < b.length->(a ++ b ++ c).getD (a.length+k) dP=b.getD k dP)/\(k < c.length->(a ++ b ++ c).getD (a.length+b.length+k) dP=c.getD k dP):=by
 refine ⟨fun h=>?_,fun h=>?_,fun h=>?_⟩
 ·rw [List.getD_eq_getElem?_getD,List.getElem?_append_left (by rw [List.length_append];omega),List.getElem?_append_left h,<-List.getD_eq_getElem?_getD]
 ·rw [List.getD_eq_getElem?_getD,List.getElem?_append_left (by rw [List.length_append];omega),List.getElem?_append_right (by omega),Nat.add_sub_cancel_left,<-List.getD_eq_getElem?_getD]
 ·rw [List.getD_eq_getElem?_getD,List.getElem?_append_right (by rw [List.length_append];omega),List.length_append,Nat.add_sub_cancel_left,<-List.getD_eq_getElem?_getD]
structure PhF (rs:List Int) (H F RF:Nat) (al pg:List zk):Prop where
 len:al.length=H+pg.length+F
 hd:∀ k,k < H->al.getD k dP=⟨(k:Int),0,rs.getD k 0⟩
 ft:∀ k,k < F->al.getD (H+pg.length+k) dP=⟨((RF+k:Nat):Int),0,rs.getD (RF+k) 0⟩
 bd:∀ k,k < pg.length->al.getD (H+k) dP=pg.getD k dP
 small:pg.length<=50000
theorem zfJ {t:T} (hD:z0h t) {width:Int} {high:List Int} (hp:z2j t width high=true):∃ H F RF:Nat,t.head=H/\t.foot=F/\RF+F=t.rows.length/\H<=t.rows.length/\t.rows.length<=8/\(zJ t width).length=t.rows.length/\(z59 t width high).length=(z0H t width high).length/\∀ i,i < (z0H t width high).length->PhF (zJ t width) H F RF ((z59 t width high).getD i []) ((z0H t width high).getD i []):=by
 have hok2:=hp;unfold z2j at hok2;rw [Bool.and_eq_true,Bool.and_eq_true] at hok2;obtain ⟨⟨hok,hw⟩,_⟩:=hok2;obtain ⟨H,E,hH,hE,h1,h2,h3,h4⟩:=z8b hok;have htb:=z0N hok
 have hrl:(zJ t width).length=t.rows.length:=by
  rw [zJ,hok,hw];exact z0O _ _
 refine ⟨H,t.foot.toNat,t.rows.length - t.foot.toNat,hH,by omega,by omega,by omega,h4,hrl,by unfold z59;rw [List.length_map],fun i hi=>?_⟩;have hpl:=z9y hD hp hi 2
 have e:(z59 t width high).getD i []=z05 t (zJ t width) ++ (z0H t width high).getD i [] ++ z06 t (zJ t width):=by
  unfold z59;rw [List.getD_eq_getElem?_getD,List.getElem?_map,List.getElem?_eq_getElem hi];simp [List.getD,hi]
 rw [e];have lh:(z05 t (zJ t width)).length=H:=(by rw [z05,z1b];omega);have lf:(z06 t (zJ t width)).length=t.foot.toNat:=(by rw [z06,z1b]);simp only [List.take,List.flatten_cons,List.flatten_nil,List.append_nil,List.length_append] at hpl;refine ⟨by rw [List.length_append,List.length_append,lh,lf],fun k hk=>?_,fun k hk=>?_,fun k hk=>?_,?_⟩
 ·rw [z8D.1 (by omega),z05,z8C _ _ _ _ (by omega),Nat.zero_add]
 ·have:=(z8D (a:=z05 t (zJ t width)) (b:=(z0H t width high).getD i []) (c:=z06 t (zJ t width)) (k:=k)).2.2 (by omega);rw [lh] at this;rw [this,z06,z8C _ _ _ _ (by omega)]
 ·have:=(z8D (a:=z05 t (zJ t width)) (b:=(z0H t width high).getD i []) (c:=z06 t (zJ t width)) (k:=k)).2.1 hk;rw [lh] at this;exact this
 ·have hb:=zaw hD hp hi;exact hb
theorem zfK (A:Option Addr) (len cap:Nat) (hlen:len<=1048576) (w:World) (h:z3I w A len cap) :
  Calls Tryz.prog 5 #[.slice A len cap] w fun e w'=>e=.returned (.bool true)/\Below w.heap.size w w':=by
 have hl:¬ (1048576:Int) < (len:Int):=(by omega);have hmx:Tryz.prog.follows .mixedOrders=true:=(by kernel_rfl);have HD:=Hd h;clear h;go_enter Tryz.func5,Tryz.ntmps5;go_wp2_with fail
 refine (zb9 _ _ _ _ HD.out).mono ?_;rintro e w1 ⟨ac,ar,cc,cr,t,x,vh,high,rfl,hD,hxb,hsm,hC1,hW1,hH1,hb1⟩;obtain ⟨ah,ch,rfl,_⟩:=At.form hH1;have KA1:=ze (Below.refl w1.heap.size w1) (.cells #[.slice ac t.cols.length cc,int i64 t.head,int i64 t.foot,.slice ar t.rows.length cr,int i64 t.gap] 26);have HS:Hid (SP w w1.heap.size ac ar cc cr t (.slice ah high.length ch) high (w1.alloc (.cells #[.slice ac t.cols.length cc,int i64 t.head,int i64 t.foot,.slice ar t.rows.length cr,int i64 t.gap] 26))):=⟨⟨hb1.alloc hb1.size _,TA.kept ⟨hC1,hW1⟩ KA1,zm _ _⟩,hH1.ints.kept KA1⟩;have HAi:=Hd (fun W (h:SP w w1.heap.size ac ar cc cr t (.slice ah high.length ch) high W)=>zfy ac ar cc cr t hD x (.slice ah high.length ch) high W h.st.2.1.1 h.st.2.1.2 h.hi);have HAs:=Hd (fun W (h:SP w w1.heap.size ac ar cc cr t (.slice ah high.length ch) high W)=>zfH ac ar cc cr t hD x (.slice ah high.length ch) high W h.st.2.1.1 h.st.2.1.2 h.hi);have HPi:=Hd (fun W (h:SP w w1.heap.size ac ar cc cr t (.slice ah high.length ch) high W)=>z9e ac ar cc cr t hD x (.slice ah high.length ch) high W h.st.2.1.1 h.st.2.1.2 h.hi);have HRi:=Hd (fun W (h:TA W w.heap.size ac ar cc cr t)=>z6S ac ar cc cr t hD x W h.1 h.2);have HF:=Hd (fun hp=>zfJ hD (width:=x) (high:=high) hp);have HNo:=Hd (fun hp=>zhB (t:=t) (width:=x) (high:=high) hp);have HNa:Hid (z0H t x high=[]->z59 t x high=[]):=fun h=>by unfold z59;rw [h];rfl
 generalize z59 t x high=al at HAi HAs HF HNa;generalize z0H t x high=pss at HPi HF HNo HNa;generalize zJ t x=rs at HRi HF;generalize z2j t x high=ok at HF HNo;clear hC1 hW1 hH1 hb1 hD HD hxb hsm KA1;go_upto_region 4 with fail
 generalize w1.alloc (.cells #[.slice ac t.cols.length cc,int i64 t.head,int i64 t.foot,.slice ar t.rows.length cr,int i64 t.gap] 26)=W1 at HS |-;generalize w1.heap.size=tb at HS HAi HAs HPi |-;obtain ⟨z0,z1,z2,z3,z4⟩:=HS.out.st.at;go_wp2_with fail
 refine (HAi.out _ HS.out).mono ?_;rintro e W3 ⟨v3,us,rfl,hO3,hR3,hb3⟩;have hP3:=hR3.pss hO3 (Nat.le_refl _) (Nat.le_refl _);obtain ⟨aq,cq,rfl,hlq⟩:=At.form hP3;unfold maxLen at hlq;have HPA:=Hd hP3;replace HS:=Hd (HS.out.kept hb3);clear hO3 hR3 hP3 hb3 z0 z1 z2 z3 z4 HAi;obtain ⟨z0,z1,z2,z3,z4⟩:=HS.out.st.at;go_wp2_with fail
 refine (HAs.out _ HS.out).mono ?_;rintro e W4 ⟨v4,us4,rfl,hO4,hR4,hb4⟩;have HP4:=Hd (hR4.pss hO4 (Nat.le_refl _) (Nat.le_refl _));replace HS:=Hd (HS.out.kept hb4);replace HPA:=Hd (HPA.out.kept hb4);clear hO4 hR4 hb4 z0 z1 z2 z3 z4 HAs;obtain ⟨ap4,cp4,rfl,_⟩:=At.form HP4.out;go_wp2_with fail
 refine (zeh _ _ al W4 HPA.out HP4.out).mono ?_;rintro e W5 ⟨rfl,hb5⟩;replace HS:=Hd (HS.out.kept hb5);replace HPA:=Hd (HPA.out.kept hb5);clear HP4 hb5;obtain ⟨z0,z1,z2,z3,z4⟩:=HS.out.st.at;go_wp2_with fail
 refine (HPi.out _ HS.out).mono ?_;rintro e W6 ⟨v6,us6,rfl,hO6,hR6,hb6⟩;have hP6:=hR6.pss hO6 (Nat.le_refl _) (Nat.le_refl _);obtain ⟨ap,cp,rfl,hlp⟩:=At.form hP6;unfold maxLen at hlp;have HPB:=Hd hP6;replace HS:=Hd (HS.out.kept hb6);replace HPA:=Hd (HPA.out.kept hb6);clear hO6 hR6 hP6 hb6 z0 z1 z2 z3 z4 HPi;obtain ⟨z0,z1,z2,z3,z4⟩:=HS.out.st.at;go_wp2_with fail
 refine (HRi.out _ HS.out.st.2.1).mono ?_;rintro e w9 ⟨v9,rfl,hR9,hb9⟩;obtain ⟨ax,cx,rfl⟩:=hR9.form;have HIx:=Hd hR9.at;replace HS:=Hd (HS.out.kept hb9);replace HPA:=Hd (HPA.out.kept hb9);replace HPB:=Hd (HPB.out.kept hb9);clear hR9 hb9 z0 z1 z2 z3 z4 HRi
 cases ok with
 | false =>
  obtain rfl:=HNo.out rfl;obtain rfl:=HNa.out rfl;have HK:=Hd HS.out.st.1;clear HNo HNa HF HIx HPA HPB;go_wp2_with fail
  go_loopw [9] (fun i W=>i=int i64 0/\Hid (Below w9.heap.size w9 W)) (fun _ _=>0)
  case atStart=>exact ⟨rfl,Below.refl _ _⟩
  case round =>
   obtain ⟨rfl,HB⟩:=hrel;have HKe:=Hd (HK.out.trans (HB.out.mono HK.out.size));go_wp2_with fail
   refine (zdK _).mono ?_;rintro e wa ⟨rfl,rfl⟩;go_wp2;go_ret;exact ⟨rfl,HKe.out⟩
 | true =>
  obtain ⟨H,F,RF,fH,fF,hRF,hHr,hR8,hrl,hal,hpf⟩:=HF.out rfl;have FH:=Hd fH;have FF:=Hd fF;have HRl:=Hd hrl;have HAl:=Hd hal;have HPf:=Hd hpf;have hRr:RF+F<=8/\H<=8:=(by omega);have HRF:=Hd hRF;have HHr:=Hd hHr;clear HNo HNa HF fH fF hrl hal hpf hRF hHr;rw [HAl.out];rw [HAl.out] at hlq;go_wp2_with fail
  go_loopw [9] (fun i W=>∃ q:Nat,i=int i64 (q:Int)/\q<=pss.length/\Hid (Below w9.heap.size w9 W)) (fun i _=>pss.length - (intOf i).toNat)
  case atStart=>exact ⟨0,rfl,Nat.zero_le _,Below.refl _ _⟩
  case round =>
   obtain ⟨q,rfl,hq,HB⟩:=hrel;by_cases hlt:q < pss.length
   case neg =>
    obtain rfl:q=pss.length:=by omega
    have HK:=Hd HS.out.st.1;have HKe:=Hd (HK.out.trans (HB.out.mono HK.out.size));have hee:((pss.length:Int) == (pss.length:Int))=true:=(by simp);go_wp2_with fail
    refine (zdK _).mono ?_;rintro e wa ⟨rfl,rfl⟩;go_wp2;go_ret;exact ⟨rfl,HKe.out⟩
   case pos=>as_aux_lemma =>
    replace HS:=Hd (HS.out.kept HB.out);have HIw:=Hd (HIx.out.kept HB.out);obtain ⟨b1,off1,cap1',u1,e1,hc11,hc12,hbl1,x0,hs1⟩:=(HPA.out.kept HB.out).get (i:=q) (by rw [HAl.out];exact hlt);rw [HAl.out] at e1 hc11;simp only [Value.slice.injEq,true_and] at e1;obtain ⟨rfl,rfl⟩:=e1;unfold maxLen at hc12;obtain ⟨b2,z2Z,cap2',u2,e2,hc21,hc22,hbl2,y0,hs2⟩:=(HPB.out.kept HB.out).get (i:=q) hlt;simp only [Value.slice.injEq,true_and] at e2;obtain ⟨rfl,rfl⟩:=e2;unfold maxLen at hc22;have hpf:=HPf.out q hlt;generalize al.getD q []=ag at hs1 hpf;generalize pss.getD q []=pg at hs2 hpf;obtain ⟨a1,c1,rfl,hl1⟩:=At.form hs1;obtain ⟨a2,c2,rfl,hl2⟩:=At.form hs2;have hN:=hpf.len;have hL5:=hpf.small;have HP:=Hd hpf;obtain ⟨N,hNe⟩:∃ N,ag.length=N:=⟨_,rfl⟩;obtain ⟨L,hLe⟩:∃ L,pg.length=L:=⟨_,rfl⟩;obtain ⟨HL,hHL⟩:∃ HL,H+L=HL:=⟨_,rfl⟩;rw [hNe,hLe] at hN;rw [hNe] at hl1 hs1 x0;rw [hLe] at hL5 hl2 hs2 y0;have HG1:=Hd hs1;have HG2:=Hd hs2;have X0:=Hd x0;have Y0:=Hd y0;have HNe:=Hd hNe;have HLe:=Hd hLe;have hw1:IntKind.i64.wrap ((H:Int)+(L:Int))=(HL:Int):=(by rw [IntKind.wrap_i64];omega);have hw2:IntKind.i64.wrap ((HL:Int)+(F:Int))=(N:Int):=(by rw [IntKind.wrap_i64];omega);have hw3:IntKind.i64.wrap ((N:Int) - (F:Int))=(HL:Int):=(by rw [IntKind.wrap_i64];omega);have hnn:((N:Int) != (N:Int))=false:=(by simp);have HhL:=Hd hHL;have HN:=Hd hN;obtain ⟨W8,hW8⟩:∃ W8,W8=wr:=⟨_,rfl⟩;subst hW8;have htb:=(bL HS.out.st.2.2);clear hs1 hs2 hpf hNe hLe hHL hN HPf HPA HPB HIx HAl;obtain ⟨z0,z1,z2,z3,z4⟩:=HS.out.st.at;rw [FH.out] at z1;rw [FF.out] at z2;go_upto_region 13 with fail
    have hne:=z0x W8;have m1:=zj htb z1;have m2:=zj htb z2;have m3:=zj hbl2 y0;clear z0 z1 z2 z3 z4 x0 y0;refine zo hmx (by kernel_rfl) ?_;repeat (go_big_quiet_step (fail))
    refine wpQuiet_nil ?_;intro W7 hw';obtain ⟨⟨Wy,hW7⟩,hw''⟩:=hw';subst hw'';have HBr:=Hd hW7;clear m1 m2 m3 hne hW7;go_wp2_with fail
    go_loopw [11] (fun i W=>∃ j:Nat,i=int i64 (j:Int)/\j<=H/\Hid (Below W8.heap.size W8 W)) (fun i _=>H - (intOf i).toNat)
    case atStart=>exact ⟨0,rfl,Nat.zero_le _,HBr⟩
    case round=>as_aux_lemma =>
     clear HBr;obtain ⟨j,rfl,hj,HBj⟩:=hrel;obtain ⟨z0,z1,z2,z3,z4⟩:=(HS.out.kept HBj.out).st.at;rw [FH.out] at z1;rw [FF.out] at z2;have x0:=(HBj.out.cell (p:=⟨b1,off1+q,none⟩) hbl1).trans X0.out;have y0:=(HBj.out.cell (p:=⟨b2,z2Z+q,none⟩) hbl2).trans Y0.out;have hz:=HBj.out.size;by_cases hjl:j < H
     case pos =>
      obtain ⟨d1,o1,cd1,f1,hd11,hd12,hdl1,p0,p1,p2⟩:=At.get (HG1.out.kept HBj.out) (i:=j) (by have:=HN.out;have:=HNe.out;have:=HhL.out;omega);simp only [Value.slice.injEq] at f1;obtain ⟨rfl,hx,rfl⟩:=f1;clear hx;unfold maxLen at hd12;rw [HP.out.hd j hjl] at p0 p1 p2;simp only at p0 p1 p2;have hjN:j < N:=(by have:=HN.out;omega);obtain ⟨rb,ro,rcap,er,ra1,ra2,ra3,ra4⟩:=(HIw.out.kept HBj.out).get (i:=j) (by rw [HRl.out];have:=HRF.out;have:=HHr.out;omega);simp only [Value.slice.injEq,true_and] at er;obtain ⟨rfl,rfl⟩:=er;unfold maxLen at ra2;generalize rs.getD (j) 0=y at p2 ra4;have g2:(y == y)=true:=(by simp);have g1:((0:Int) == 0)=true:=rfl;have mr:=zj ra3 ra4;clear ra4;have mp0:=zj hdl1 p0;have mp1:=zj hdl1 p1;have mp2:=zj hdl1 p2;clear p0 p1 p2;have hjR:j < rs.length:=(by rw [HRl.out];have:=HHr.out;omega);have g0:((j:Int) == (j:Int))=true:=(by simp);go_upto_region 18 with fail
      have hne:=z0x wr;have n1:=zj (Nat.lt_of_lt_of_le htb hz) z1;have n2:=zj (Nat.lt_of_lt_of_le htb hz) z2;have n3:=zj (a:=⟨b1,off1+q,none⟩) (Nat.lt_of_lt_of_le hbl1 hz) x0;have n4:=zj (a:=⟨b2,z2Z+q,none⟩) (Nat.lt_of_lt_of_le hbl2 hz) y0;clear z0 z1 z2 z3 z4 x0 y0;refine zo hmx (by kernel_rfl) ?_;repeat (go_big_quiet_step (fail))
      refine wpQuiet_nil ?_;intro W7 hw';obtain ⟨⟨Wy,hW7⟩,hw''⟩:=hw';subst hw'';have HB7:=Hd (zi HBj.out hW7);clear hne n1 n2 n3 n4 hW7;go_wp2;go_roundw
      case rel=>exact ⟨j+1,by go_num,by omega,HB7⟩
      case measure=>simp [intOf];omega
     case neg =>
      have hje:H=j:=(by omega);subst hje;clear hjl;go_wp2_with fail
      go_loopw [12] (fun i W=>∃ j:Nat,i=int i64 (j:Int)/\j<=F/\Hid (Below W8.heap.size W8 W)) (fun i _=>F - (intOf i).toNat)
      case atStart=>exact ⟨0,rfl,Nat.zero_le _,HBj⟩
      case round=>as_aux_lemma =>
       clear HBj;clear z0 z1 z2 z3 z4 x0 y0 hz;obtain ⟨j,rfl,hj,HBj⟩:=hrel;obtain ⟨z0,z1,z2,z3,z4⟩:=(HS.out.kept HBj.out).st.at;rw [FH.out] at z1;rw [FF.out] at z2;have x0:=(HBj.out.cell (p:=⟨b1,off1+q,none⟩) hbl1).trans X0.out;have y0:=(HBj.out.cell (p:=⟨b2,z2Z+q,none⟩) hbl2).trans Y0.out;have hz:=HBj.out.size;by_cases hjl:j < F
       case pos =>
        obtain ⟨d1,o1,cd1,f1,hd11,hd12,hdl1,p0,p1,p2⟩:=At.get (HG1.out.kept HBj.out) (i:=HL+j) (by have:=HN.out;have:=HNe.out;have:=HhL.out;omega);simp only [Value.slice.injEq] at f1;obtain ⟨rfl,hx,rfl⟩:=f1;clear hx;unfold maxLen at hd12;have hft:=HP.out.ft j hjl;rw [HLe.out,HhL.out] at hft;rw [hft] at p0 p1 p2;simp only at p0 p1 p2;obtain ⟨rb,ro,rcap,er,ra1,ra2,ra3,ra4⟩:=(HIw.out.kept HBj.out).get (i:=RF+j) (by rw [HRl.out];have:=HRF.out;have:=HHr.out;omega);simp only [Value.slice.injEq,true_and] at er;obtain ⟨rfl,rfl⟩:=er;unfold maxLen at ra2;generalize rs.getD (RF+j) 0=y at p2 ra4;have g2:(y == y)=true:=(by simp);have g1:((0:Int) == 0)=true:=rfl;have mr:=zj ra3 ra4;clear ra4;have mp0:=zj hdl1 p0;have mp1:=zj hdl1 p1;have mp2:=zj hdl1 p2;clear p0 p1 p2;obtain ⟨g,hg⟩:∃ g,RF+j=g:=⟨_,rfl⟩;obtain ⟨k,hk⟩:∃ k,HL+j=k:=⟨_,rfl⟩;have hgR:g < rs.length:=(by rw [HRl.out];have:=HRF.out;omega);have hkN:k < N:=(by have:=HN.out;have:=HhL.out;omega);have hr1:IntKind.i64.wrap ((t.rows.length:Int) - (F:Int))=(RF:Int):=(by rw [IntKind.wrap_i64];have:=HRF.out;omega);have hr2:IntKind.i64.wrap ((RF:Int)+(j:Int))=(g:Int):=(by rw [IntKind.wrap_i64];omega);have hr3:IntKind.i64.wrap ((HL:Int)+(j:Int))=(k:Int):=(by rw [IntKind.wrap_i64];have:=HhL.out;omega);rw [hg] at mp0 mr;rw [hk] at mp0 mp1 mp2;clear hg hk hft;have g0:((g:Int) == (g:Int))=true:=(by simp);go_upto_region 24 with fail
        have hne:=z0x wr;have n1:=zj (Nat.lt_of_lt_of_le htb hz) z1;have n2:=zj (Nat.lt_of_lt_of_le htb hz) z2;have n3:=zj (a:=⟨b1,off1+q,none⟩) (Nat.lt_of_lt_of_le hbl1 hz) x0;have n4:=zj (a:=⟨b2,z2Z+q,none⟩) (Nat.lt_of_lt_of_le hbl2 hz) y0;clear z0 z1 z2 z3 z4 x0 y0;refine zo hmx (by kernel_rfl) ?_;repeat (go_big_quiet_step (fail))
        refine wpQuiet_nil ?_;intro W7 hw';obtain ⟨⟨Wy,hW7⟩,hw''⟩:=hw';subst hw'';have HB7:=Hd (zi HBj.out hW7);clear hne n1 n2 n3 n4 hW7;go_wp2;go_roundw
        case rel=>exact ⟨j+1,by go_num,by omega,HB7⟩
        case measure=>simp [intOf];omega
       case neg =>
        have hje:F=j:=(by omega);subst hje;clear hjl;go_wp2_with fail
        go_loopw [14] (fun i W=>∃ j:Nat,i=int i64 (j:Int)/\j<=L/\Hid (Below W8.heap.size W8 W)) (fun i _=>L - (intOf i).toNat)
        case atStart=>exact ⟨0,rfl,Nat.zero_le _,HBj⟩
        case round=>as_aux_lemma =>
         clear HBj;clear z0 z1 z2 z3 z4 x0 y0 hz;obtain ⟨j,rfl,hj,HBj⟩:=hrel;obtain ⟨z0,z1,z2,z3,z4⟩:=(HS.out.kept HBj.out).st.at;rw [FH.out] at z1;rw [FF.out] at z2;have x0:=(HBj.out.cell (p:=⟨b1,off1+q,none⟩) hbl1).trans X0.out;have y0:=(HBj.out.cell (p:=⟨b2,z2Z+q,none⟩) hbl2).trans Y0.out;have hz:=HBj.out.size;by_cases hjl:j < L
         case pos =>
          obtain ⟨d1,o1,cd1,f1,hd11,hd12,hdl1,p0,p1,p2⟩:=At.get (HG1.out.kept HBj.out) (i:=H+j) (by have:=HN.out;have:=HNe.out;have:=HhL.out;omega);simp only [Value.slice.injEq] at f1;obtain ⟨rfl,hx,rfl⟩:=f1;clear hx;unfold maxLen at hd12;have hbd:=HP.out.bd j (by rw [HLe.out];exact hjl);rw [hbd] at p0 p1 p2;obtain ⟨d2,o2,cd2,f2,hd21,hd22,hdl2,r0,r1,r2⟩:=At.get (HG2.out.kept HBj.out) (i:=j) (by have:=HLe.out;omega);simp only [Value.slice.injEq] at f2;obtain ⟨rfl,hx,rfl⟩:=f2;clear hx;unfold maxLen at hd22;generalize pg.getD j dP=s at p0 p1 p2 r0 r1 r2;have g0:(s.r == s.r)=true:=(by simp);have g1:(s.f == s.f)=true:=(by simp);have g2:(s.t == s.t)=true:=(by simp);have mp0:=zj hdl1 p0;have mp1:=zj hdl1 p1;have mp2:=zj hdl1 p2;clear p0 p1 p2;have mr0:=zj hdl2 r0;have mr1:=zj hdl2 r1;have mr2:=zj hdl2 r2;clear r0 r1 r2;obtain ⟨k,hk⟩:∃ k,H+j=k:=⟨_,rfl⟩;have hkN:k < N:=(by have:=HN.out;omega);have hr3:IntKind.i64.wrap ((H:Int)+(j:Int))=(k:Int):=(by rw [IntKind.wrap_i64];omega);rw [hk] at mp0 mp1 mp2;clear hk hbd;go_upto_region 29 with fail
          have hne:=z0x wr;have n1:=zj (Nat.lt_of_lt_of_le htb hz) z1;have n2:=zj (Nat.lt_of_lt_of_le htb hz) z2;have n3:=zj (a:=⟨b1,off1+q,none⟩) (Nat.lt_of_lt_of_le hbl1 hz) x0;have n4:=zj (a:=⟨b2,z2Z+q,none⟩) (Nat.lt_of_lt_of_le hbl2 hz) y0;clear z0 z1 z2 z3 z4 x0 y0;refine zo hmx (by kernel_rfl) ?_;repeat (go_big_quiet_step (fail))
          refine wpQuiet_nil ?_;intro W7 hw';obtain ⟨⟨Wy,hW7⟩,hw''⟩:=hw';subst hw'';have HB7:=Hd (zi HBj.out hW7);clear hne n1 n2 n3 n4 hW7;go_wp2;go_roundw
          case rel=>exact ⟨j+1,by go_num,by omega,HB7⟩
          case measure=>simp [intOf];omega
         case neg =>
          have hje:L=j:=(by omega);subst hje;clear hjl;have HBe:=Hd (zi HB.out HBj.out);go_wp2;go_roundw
          case rel=>exact ⟨q+1,by go_num,by omega,HBe⟩
          case measure=>simp [intOf];omega
theorem zfL (A:Option Addr) (len cap:Nat) (w:World) (h:z3I w A len cap) :
  Calls Tryz.prog 5 #[.slice A len cap] w fun e w'=>e=.returned (.bool true)/\Below w.heap.size w w':=by
 have hlen:len<=maxLen:=Nat.le_trans h.1 h.2.1;unfold maxLen at hlen;by_cases hbig:len<=1048576
 ·exact zfK A len cap hbig w h
 ·clear h;have hb:(1048576:Int) < (len:Int):=(by omega);go_enter Tryz.func5,Tryz.ntmps5;go_wp2;go_ret;exact ⟨rfl,Below.refl _ _⟩
end
end Go.Proofs.YtggmjiddadjilahGreat
