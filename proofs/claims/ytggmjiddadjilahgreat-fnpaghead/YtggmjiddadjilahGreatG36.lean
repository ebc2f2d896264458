/-
  PROVED HERE: what the program's PagAll answers of a drawn table, any width and any heights: the pages of its body, head and foot with each, in new memory; nothing that was in memory is turned. Also: 2 more texts of the same proof.
-/
import Derived.Test.YtggmjiddadjilahGreatG35
import Derived.Test.YtggmjiddadjilahGreatG31
set_option maxRecDepth 1000000
set_option maxHeartbeats 40000000
namespace Go.Proofs.YtggmjiddadjilahGreat
open Value (int)
open IntKind (i64)
open Go.RowKit
theorem zhl {w:World} {v1 v2 v3:Value} {l1 l2 l3:List zk} (h1:z1W w 0 v1 l1) (h2:z1W w 0 v2 l2) (h3:z1W w 0 v3 l3) {T:TypeId}:z1p (w.alloc (.cells #[v1,v2,v3] T)) 0 (.slice (some ⟨w.heap.size,0,none⟩) 3 3) [l1,l2,l3]:=by
 have K:=ze (Below.refl w.heap.size w) (.cells #[v1,v2,v3] T);have hN:=zm w (.cells #[v1,v2,v3] T);refine ⟨_,3,rfl,Nat.le_refl _,by unfold maxLen;omega,fun i hi=>⟨w.heap.size,0,rfl,(bL hN),Nat.zero_le _,?_⟩⟩;have hi3:i < 3:=hi
 rcases (by omega:i=0\/i=1\/i=2) with rfl | rfl | rfl
 ·exact ⟨v1,zf hN,h1.kept K⟩
 ·exact ⟨v2,zf hN,h2.kept K⟩
 ·exact ⟨v3,zf hN,h3.kept K⟩
theorem zfw {l1 l2 l3:List zk}:[l1,l2,l3].flatten=l1 ++ l2 ++ l3:=by simp
theorem zjI {w:World} {g k:Nat} {cur:Array Value} {T:TypeId} (h:w.heap[g]?=some (.cells cur T)) (hk:k < cur.size):∃ y,w.cell? ⟨g,k,none⟩=some y:=⟨cur[k],by rw [zf h];simp [hk]⟩
theorem ziI {w:World} {base:Nat} {T:TypeId} {n g cap:Nat} {xs:List Value} (h:w.ownsRow base T 1 (.slice (some ⟨g,0,none⟩) n cap) n xs) {k:Nat} (u:Value):(w.setCell ⟨g,k,none⟩ u).ownsRow base T 1 (.slice (some ⟨g,0,none⟩) n cap) n (xs.set k u):=by
 obtain ⟨h1,h2⟩:=h
 rcases h2 with ⟨e,_⟩ | ⟨g',cap',cur,e,hb,hg,c1,c2,c3,c4⟩
 ·cases e
 ·injection e with e1 _ e3
  injection e1 with e1
  injection e1 with e1 _ _
  subst e1 e3;refine ⟨by rw [List.length_set];exact h1,.inr ⟨g,cap,cur.setIfInBounds k u,rfl,hb,z0s hg u,c1,c2,by simpa using c3,?_⟩⟩;rw [<-c4,Array.toList_setIfInBounds,List.take_set]
def z3G (hp fp:List zk) (pss:List (List zk)) (k:Nat):List (List zk):=(pss.take k).map (fun b=>hp ++ b ++ fp) ++ pss.drop k
theorem z8x (hp fp:List zk) (pss:List (List zk)) (k:Nat):(z3G hp fp pss k).length=pss.length:=by
 unfold z3G;rw [List.length_append,List.length_map,List.length_take,List.length_drop];omega
theorem zfx (hp fp:List zk) (pss:List (List zk)):z3G hp fp pss 0=pss:=by simp [z3G]
theorem zhm (hp fp:List zk) (pss:List (List zk)):z3G hp fp pss pss.length=pss.map (fun b=>hp ++ b ++ fp):=by simp [z3G]
theorem zhn {hp fp:List zk} {pss:List (List zk)} {k:Nat} (hk:k < pss.length):(z3G hp fp pss k).getD k []=pss.getD k []:=by
 unfold z3G;have hl:((pss.take k).map (fun b=>hp ++ b ++ fp)).length=k:=(by rw [List.length_map,List.length_take];omega);rw [List.getD_eq_getElem?_getD,List.getElem?_append_right (by omega),hl,Nat.sub_self,List.getElem?_drop,Nat.add_zero,<-List.getD_eq_getElem?_getD]
theorem zho {hp fp:List zk} {pss:List (List zk)} {k:Nat} (hk:k < pss.length):(z3G hp fp pss k).set k (hp ++ pss.getD k [] ++ fp)=z3G hp fp pss (k+1):=by
 have e:pss.getD k []=pss[k]:=(by simp [List.getD,hk]);have hl:((pss.take k).map (fun b=>hp ++ b ++ fp)).length=k:=(by rw [List.length_map,List.length_take];omega);unfold z3G;rw [List.set_append_right _ _ (by omega),hl,Nat.sub_self,List.drop_eq_getElem_cons hk,List.set_cons_zero,List.take_succ_eq_append_getElem hk,List.map_append,e];simp
theorem zN.put {w w':World} {B:Nat} {us:List Value} {ls:List (List zk)} (h:zN w B us ls) (hO:∀ v l,zv w B v l->zv w' B v l) {k:Nat} (hk:k < ls.length) {u:Value} {l:List zk} (hu:zv w' B u l):zN w' B (us.set k u) (ls.set k l):=by
 obtain ⟨h1,h2⟩:=h;refine ⟨by rw [List.length_set,List.length_set,h1],fun i hi=>?_⟩;rw [List.length_set] at hi;by_cases e:i=k
 ·subst e;have e1:(us.set i u).getD i (.slice none 0 0)=u:=(by simp [List.getD,show i < us.length by omega]);have e2:(ls.set i l).getD i []=l:=(by simp [List.getD,hi]);rw [e1,e2];exact hu
 ·have e1:(us.set k u).getD i (.slice none 0 0)=us.getD i (.slice none 0 0):=(by simp only [List.getD,List.getElem?_set_ne (show k ≠ i by omega)]);have e2:(ls.set k l).getD i []=ls.getD i []:=(by simp only [List.getD,List.getElem?_set_ne (show k ≠ i by omega)]);rw [e1,e2];exact hO _ _ (h2 i hi)
theorem zav {t:T} {width:Int} {high:List Int} (h:z2j t width high=false):z0H t width high=[]:=by unfold z0H;rw [if_neg (by rw [h];simp)]
theorem zaw {t:T} (hD:z0h t) {width:Int} {high:List Int} (hp:z2j t width high=true) {i:Nat} (hi:i < (z0H t width high).length):((z0H t width high).getD i []).length<=50000:=by
 have hok2:=hp;unfold z2j at hok2;rw [Bool.and_eq_true,Bool.and_eq_true] at hok2;obtain ⟨⟨hok,_⟩,_⟩:=hok2;have hb:=z8Q (t:=t) (x:=width);have hbd:z0H t width high=z3B (high.map (· - (zy (z05 t (zJ t width))+zy (z06 t (zJ t width))))) (z0K t (zJ t width)):=(by unfold z0H;rw [if_pos hp]);have hfl:(z7F (high.map (· - (zy (z05 t (zJ t width))+zy (z06 t (zJ t width))))) (z0K t (zJ t width))).flatten=z0K t (zJ t width):=(ze9 hD hok hb _).flat;rw [zdx] at hbd;generalize z7F (high.map (· - (zy (z05 t (zJ t width))+zy (z06 t (zJ t width))))) (z0K t (zJ t width))=gs at hbd hfl;rw [hbd] at hi |-;rw [List.length_map] at hi;have e0:(gs.map z1U).getD i []=z1U gs[i]:=(by simp [List.getD,hi])
 have hsp:z0K t (zJ t width)=(gs.take i).flatten ++ gs[i] ++ (gs.drop (i+1)).flatten:=by
  rw [<-hfl];have e1:gs=gs.take i ++ (gs[i] :: gs.drop (i+1)):=(by rw [<-List.drop_eq_getElem_cons hi,List.take_append_drop])
  conv=>lhs;rw [e1,List.flatten_append,List.flatten_cons]
  rw [List.append_assoc]
 have hl:=(z4X hD hok hb hsp).2.1;rw [e0];exact hl
theorem z9y {t:T} (hD:z0h t) {width:Int} {high:List Int} (hp:z2j t width high=true) {i:Nat} (hi:i < (z0H t width high).length) (k:Nat):(([z05 t (zJ t width),(z0H t width high).getD i [],z06 t (zJ t width)].take k).flatten).length<=100000:=by
 have hm:=zaw hD hp hi;unfold z2j at hp;rw [Bool.and_eq_true,Bool.and_eq_true] at hp;obtain ⟨H,E,hH,hE,h1,h2,h3,h4⟩:=z8b hp.1.1;have hh:(z05 t (zJ t width)).length<=8:=(by rw [z05,z1b];omega);have hf:(z06 t (zJ t width)).length<=8:=(by rw [z06,z1b];omega);generalize z05 t (zJ t width)=a at hh |-;generalize z06 t (zJ t width)=b at hf |-;generalize (z0H t width high).getD i []=c at hm |-
 have e:([a,c,b].take k).flatten ++ ([a,c,b].drop k).flatten=a ++ c ++ b:=by
  rw [<-List.flatten_append,List.take_append_drop];simp
 have:=congrArg List.length e;simp only [List.length_append] at this;omega
def z59 (t:T) (width:Int) (high:List Int):List (List zk):=(z0H t width high).map (fun b=>z05 t (zJ t width) ++ b ++ z06 t (zJ t width))
structure PaJ (gb k m cp cu cx rl:Nat) (ac ar ax au:Option Addr) (cc cr:Nat) (t:T) (pg hp fp:List zk) (W3:World) (L:Nat->Bool) (W:World) (v25 v26 v27 v28 v29 v30 v31 v32 v33 v34 v35 v36:Value):Prop where
 f0:L 0=true->v25=.slice (some ⟨gb,0,none⟩) m cp
 f1:L 1=true->v26=int i64 (k:Int)
 f2:L 2=true->v27=.agg #[.slice ac t.cols.length cc,int i64 t.head,int i64 t.foot,.slice ar t.rows.length cr,int i64 t.gap]
 f3:L 3=true->v28=.slice ax rl cx
 f4:L 4=true->L 12=false->zv W W3.heap.size v29 hp
 f5:L 5=true->v30=.slice au pg.length cu
 f6:L 6=true->v31=.agg #[.slice ac t.cols.length cc,int i64 t.head,int i64 t.foot,.slice ar t.rows.length cr,int i64 t.gap]
 f7:L 7=true->v32=.slice ax rl cx
 f8:L 8=true->L 12=false->zv W W3.heap.size v33 fp
 f9:L 9=true->L 12=false->z1p W 0 v34 [hp,pg,fp]
 f10:L 10=true->L 12=false->zv W W3.heap.size v35 (hp ++ pg ++ fp)
 f11:L 11=true->v36=.pointer (some ⟨gb,k,none⟩)
 f12:L 12=true->∃ W1,Below W3.heap.size W3 W1/\W=W1.setCell ⟨gb,k,none⟩ v35/\zv W1 W3.heap.size v35 (hp ++ pg ++ fp)
 b:L 12=false->Below W3.heap.size W3 W
theorem zfy (ac ar:Option Addr) (cc cr:Nat) (t:T) (hD:z0h t) (width:Int) (vh:Value) (high:List Int) (w:World) {z:Nat} (hc:z08 w z (.slice ac t.cols.length cc) t.cols) (hr:z03 w z (.slice ar t.rows.length cr) t.rows) (hh:zC w vh high) :
  Calls Tryz.prog 10 #[.agg #[.slice ac t.cols.length cc,int i64 t.head,int i64 t.foot,.slice ar t.rows.length cr,int i64 t.gap],int i64 width,vh] w fun e w'=>∃ v us,e=.returned v/\w'.ownsRow w.heap.size 41 1 v us.length us/\zN w' w.heap.size us (z59 t width high)/\Below w.heap.size w w':=by
 have hmx:Tryz.prog.follows .mixedOrders=true:=(by kernel_rfl);obtain ⟨ah,ch,rfl,_⟩:=hh.form;have HK0:=Hd (ze (Below.refl w.heap.size w) (.cells #[.slice ac t.cols.length cc,int i64 t.head,int i64 t.foot,.slice ar t.rows.length cr,int i64 t.gap] 26));have HX0:=Hd (zm w (.cells #[.slice ac t.cols.length cc,int i64 t.head,int i64 t.foot,.slice ar t.rows.length cr,int i64 t.gap] 26));have hs0:(w.alloc (.cells #[.slice ac t.cols.length cc,int i64 t.head,int i64 t.foot,.slice ar t.rows.length cr,int i64 t.gap] 26)).heap.size=w.heap.size+1:=(by simp);have KP:=Hd (fun W (k:Below w.heap.size w W)=>z9e ac ar cc cr t hD width _ high W (hc.kept k) (hr.kept k) (hh.kept k));have KR:=Hd (fun W (k:Below w.heap.size w W)=>z6S ac ar cc cr t hD width W (hc.kept k) (hr.kept k));clear hc hr hh;have HAl:Hid (z59 t width high=(z0H t width high).map (fun b=>z05 t (zJ t width) ++ b ++ z06 t (zJ t width))):=rfl;have HNo:=Hd (fun hp=>zav (t:=t) (width:=width) (high:=high) hp)
 have HOk:Hid (z2j t width high=true->zF t=true/\(zJ t width).length=t.rows.length/\∀ i,i < (z0H t width high).length->∀ k,(([z05 t (zJ t width),(z0H t width high).getD i [],z06 t (zJ t width)].take k).flatten).length<=100000):=fun hp=>by
  have hok2:=hp;unfold z2j at hok2;rw [Bool.and_eq_true,Bool.and_eq_true] at hok2;refine ⟨hok2.1.1,by rw [zJ,hok2.1.1,hok2.1.2];exact z0O _ _,fun i hi k=>z9y hD hp hi k⟩
 generalize z59 t width high=al at HAl |-;generalize z0H t width high=pss at KP HAl HNo HOk;generalize zJ t width=rs at KR HAl HOk;generalize z2j t width high=ok at HNo HOk;go_enter Tryz.func10,Tryz.ntmps10;go_upto_region 1 with fail
 generalize w.alloc (.cells #[.slice ac t.cols.length cc,int i64 t.head,int i64 t.foot,.slice ar t.rows.length cr,int i64 t.gap] 26)=W0 at HK0 HX0 hs0 |-;obtain ⟨z0,z1,z2,z3,z4⟩:=zK HX0.out;go_wp2_with fail
 refine (KP.out _ HK0.out).mono ?_;rintro e W1 ⟨v1,us,rfl,hO1,hR1,hb1⟩;obtain ⟨a1,c1,rfl,hul⟩:=zP hO1;have hlu:=hR1.1;have HK1:=Hd (zi HK0.out hb1);have HX1:=Hd ((hb1.block _ (bL HX0.out)).trans HX0.out);rw [hlu] at hO1 |-;have hB1:W0.heap.size<=W1.heap.size:=hb1.size;clear hb1 HK0 HX0 z0 z1 z2 z3 z4;obtain ⟨z0,z1,z2,z3,z4⟩:=zK HX1.out;have HO1:=Hd hO1;have HR1:=Hd hR1;unfold maxLen at hul;rw [hlu] at hul;have HLu:=Hd hlu;clear hO1 hR1 hlu;go_wp2_with fail
 refine (KR.out _ HK1.out).mono ?_;rintro e W2 ⟨v2,rfl,hI,hb2⟩;obtain ⟨ax,cx,rfl⟩:=hI.form;have HI:=Hd (z3J hI.owns hB1);have hB2:W1.heap.size<=W2.heap.size:=hb2.size;have HK2:=Hd (zi HK1.out hb2);have HX2:=Hd ((hb2.block _ (bL HX1.out)).trans HX1.out);have HO2:=Hd (z2r HO1.out hb2);have HR2:=Hd (HR1.out.kept hb2);clear hI hb2 HK1 HX1 HO1 HR1 z0 z1 z2 z3 z4 KR KP;rw [<-zfx (z05 t rs) (z06 t rs) pss] at HR2;go_wp2_with fail
 go_loopw [20] (fun i W=>∃ (k:Nat) (us:List Value),i=int i64 (k:Int)/\k<=pss.length/\Hid (us.length=pss.length)/\Hid (W.ownsRow W0.heap.size 41 1 (.slice a1 pss.length c1) pss.length us)/\Hid (zN W W0.heap.size us (z3G (z05 t rs) (z06 t rs) pss k))/\Hid (W.ownsRow W0.heap.size 3 1 (.slice ax rs.length cx) rs.length (rs.map (Value.int .i64)))/\Hid (Below w.heap.size w W)/\Hid (W.heap[w.heap.size]?=some (.cells #[.slice ac t.cols.length cc,int i64 t.head,int i64 t.foot,.slice ar t.rows.length cr,int i64 t.gap] 26))/\W0.heap.size<=W.heap.size) (fun i _=>pss.length - (intOf i).toNat)
 case atStart=>exact ⟨0,us,rfl,Nat.zero_le _,HLu,HO2,HR2,HI,HK2,HX2,Nat.le_trans hB1 hB2⟩
 case round =>
  clear HO2 HR2 HI HK2 HX2 HLu;obtain ⟨k,us,rfl,hk,HLu,HO,HR,HI,HK,HX,hBs⟩:=hrel;by_cases hlt:k < pss.length
  case neg =>
   obtain rfl:k=pss.length:=by omega
   go_wp2;go_ret;refine ⟨_,us,rfl,?_,?_,HK.out⟩
   ·rw [HLu.out];exact z3J HO.out (by omega)
   ·rw [HAl.out,<-zhm];exact HR.out.base (by omega)
  case pos =>
   have hok:ok=true:=by
    cases hok:ok with
    | true=>rfl
    | false =>
     rw [HNo.out hok] at hlt;exact absurd hlt (Nat.not_lt_zero _)
   obtain ⟨htk,hrl,hln⟩:=HOk.out hok
   have hPs:z1p wr 0 (.slice a1 pss.length c1) (z3G (z05 t rs) (z06 t rs) pss k):=by
    have h1:=HO.out;rw [<-HLu.out] at h1 |-;exact HR.out.pss h1 (Nat.zero_le _) (Nat.zero_le _)
   obtain ⟨gb,goff,cap',u1,e1,hc11,hc12,hbl1,x0,hs1⟩:=hPs.get (i:=k) (by rw [z8x];exact hlt);rw [z8x] at e1 hc11;simp only [Value.slice.injEq,true_and] at e1;obtain ⟨rfl,rfl⟩:=e1;rw [zhn hlt] at hs1
   have hgo:goff=0:=by
    rcases HO.out.2 with ⟨e,_⟩ | ⟨g',_,_,e,_⟩
    ·cases e
    ·injection e with e1 _ _
     injection e1 with e1
     injection e1 with _ e2 _
   subst hgo;rw [Nat.zero_add] at x0
   obtain ⟨cur,hcur,hkc,hgB⟩:∃ cur,wr.heap[gb]?=some (.cells cur 41)/\k < cur.size/\W0.heap.size<=gb:=by
    rcases HO.out.2 with ⟨e,_⟩ | ⟨g',cap2,cur,e,hb,hg,c1,c2,c3,c4⟩
    ·cases e
    ·injection e with e1 _ e3
     injection e1 with e1
     injection e1 with e1 _ _
     subst e1;exact ⟨cur,hg,by omega,hb⟩
   unfold maxLen at hc12;have HC3:=Hd (hln k hlt);have HAs:=Hd (zho (hp:=z05 t rs) (fp:=z06 t rs) hlt);have HLt:=Hd hlt;generalize hpg:pss.getD k []=pg at hs1 HC3 HAs;clear hpg;obtain ⟨au,cu,rfl,hlu⟩:=At.form hs1;unfold maxLen at hlu;have HG:=Hd hs1;have HGB:=Hd hcur;have hgb:=(bL hcur);have hl0:=(bL HX.out);have HIx:=Hd ((zt.of_owns HI.out).at);have KH:=Hd (fun W (h:Below wr.heap.size wr W)=>z9J (.slice ac t.cols.length cc) (.slice ar t.rows.length cr) t htk rs hrl _ W (HIx.out.kept h));have KF:=Hd (fun W (h:Below wr.heap.size wr W)=>z9K (.slice ac t.cols.length cc) (.slice ar t.rows.length cr) t htk rs hrl _ W (HIx.out.kept h));generalize z05 t rs=hp at *;generalize z06 t rs=fp at *;clear hs1 hcur hPs hln hrl htk hok;obtain ⟨z0,z1,z2,z3,z4⟩:=zK HX.out;go_upto_region 6 with fail
   clear z0 z1 z2 z3 z4 x0;refine z0n (fun L act W=>∃ v25 v26 v27 v28 v29 v30 v31 v32 v33 v34 v35 v36:Value,act=⟨#[.agg #[.slice ac t.cols.length cc,int i64 t.head,int i64 t.foot,.slice ar t.rows.length cr,int i64 t.gap],int i64 width,.slice ah high.length ch,.pointer (some ⟨w.heap.size,0,none⟩),undef,undef,.slice none 0 0,.slice (some ⟨gb,0,none⟩) pss.length c1,.slice ax rs.length cx,int i64 (k:Int),.slice au pg.length cu,.agg #[.slice ac t.cols.length cc,int i64 t.head,int i64 t.foot,.slice ar t.rows.length cr,int i64 t.gap],int i64 width,.slice ah high.length ch,.slice (some ⟨gb,0,none⟩) pss.length c1,.agg #[.slice ac t.cols.length cc,int i64 t.head,int i64 t.foot,.slice ar t.rows.length cr,int i64 t.gap],int i64 width,.slice ax rs.length cx,.slice (some ⟨gb,0,none⟩) pss.length c1,int i64 (pss.length:Int),int i64 (k:Int),.bool true,int i64 (k:Int),.pointer (some ⟨gb,k,none⟩),.slice au pg.length cu,v25,v26,v27,v28,v29,v30,v31,v32,v33,v34,v35,v36,u37,undef],[]⟩/\PaJ gb k pss.length c1 cu cx rs.length ac ar ax au cc cr t pg hp fp wr L W v25 v26 v27 v28 v29 v30 v31 v32 v33 v34 v35 v36) hmx (by kernel_rfl) ?hs ?hd ?h0
   case h0=>exact e12 ⟨rfl,⟨n0,n0,n0,n0,n0,n0,n0,n0,n0,n0,n0,n0,n0,fun _=>z0X (Below.refl _ _)⟩⟩
   case hd =>
    intro L act W hJ hall;obtain ⟨v25,v26,v27,v28,v29,v30,v31,v32,v33,v34,v35,v36,ha,J⟩:=hJ;subst ha;obtain ⟨W5,hb5,rfl,hO5⟩:=J.f12 (hall 12 (by decide));have hg5:=(hb5.block _ hgb).trans HGB.out;have hz5:=hb5.size;have HO6:=Hd (ziI (z2r HO.out hb5) (k:=k) v35)
    have HR6:Hid (zN (W5.setCell ⟨gb,k,none⟩ v35) W0.heap.size (us.set k v35) (z3G hp fp pss (k+1))):=by
     show zN _ _ _ _;rw [<-HAs.out];exact (HR.out.kept hb5).put (fun v l h=>z6j h hg5 (by decide) _ _) (by rw [z8x];exact HLt.out) (z6j (zv.base hO5 hBs) hg5 (by decide) _ _)
    have HI6:=Hd (z6j (z2r HI.out hb5) hg5 (by decide) k v35);have HK6:=Hd ((HK.out.trans (hb5.mono HK.out.size)).setCell (p:=⟨gb,k,none⟩) (by dsimp only;omega) v35);have HX6:Hid ((W5.setCell ⟨gb,k,none⟩ v35).heap[w.heap.size]?=some (.cells #[.slice ac t.cols.length cc,int i64 t.head,int i64 t.foot,.slice ar t.rows.length cr,int i64 t.gap] 26)):=(Below.heap_setCell _ _ _ _ (by dsimp only;omega)).trans ((hb5.block _ hl0).trans HX.out);have HL6:Hid ((us.set k v35).length=pss.length):=(by show _=_;rw [List.length_set];exact HLu.out);have hB6:W0.heap.size<=(W5.setCell ⟨gb,k,none⟩ v35).heap.size:=(by simp [World.setCell];omega);generalize W5.setCell ⟨gb,k,none⟩ v35=W6 at *;clear J hall HO HR HI HK HX KH KF;go_wp2;go_roundw
    case rel=>exact ⟨k+1,_,by go_num,by omega,HL6,HO6,HR6,HI6,HK6,HX6,hB6⟩
    case measure=>simp [intOf];omega
   case hs =>
    intro L act W i o hJ hcl ho hLi haft K hK;obtain ⟨v25,v26,v27,v28,v29,v30,v31,v32,v33,v34,v35,v36,ha,J⟩:=hJ;subst ha
    have hi':i < 13:=by
     have:=(bL ho)
     simpa using this
    rcases (by omega:i=0\/i=1\/i=2\/i=3\/i=4\/i=5\/i=6\/i=7\/i=8\/i=9\/i=10\/i=11\/i=12) with rfl | rfl | rfl | rfl | rfl | rfl | rfl | rfl | rfl | rfl | rfl | rfl | rfl
    all_goals
     simp only [List.getElem?_toArray,List.getElem?_cons_zero,List.getElem?_cons_succ,Option.some.injEq] at ho;subst ho;clear hi'
    ·have hN:=Pl hcl 12 [11] hLi;have hB:=J.b hN;go_simp;exact hK _ _ (e12 ⟨rfl,⟨fun _=>rfl,uq J.f1,uq J.f2,uq J.f3,u2 J.f4,uq J.f5,uq J.f6,uq J.f7,u2 J.f8,u2 J.f9,u2 J.f10,ug (Qh hcl 11 0 hLi),ug (Pl hcl 12 [11] hLi),fun _=>hB⟩⟩)
    ·have hN:=Pl hcl 12 [11] hLi;have hB:=J.b hN;go_simp;exact hK _ _ (e12 ⟨rfl,⟨uq J.f0,fun _=>rfl,uq J.f2,uq J.f3,u2 J.f4,uq J.f5,uq J.f6,uq J.f7,u2 J.f8,u2 J.f9,u2 J.f10,ug (Qh hcl 11 1 hLi),ug (Pl hcl 12 [11] hLi),fun _=>hB⟩⟩)
    ·have hN:=Pl hcl 12 [10,9,4] hLi;have hB:=J.b hN;obtain ⟨q0,q1,q2,q3,q4⟩:=zK ((hB.block _ hl0).trans HX.out);go_simp;exact hK _ _ (e12 ⟨rfl,⟨uq J.f0,uq J.f1,fun _=>rfl,uq J.f3,ug (Qh hcl 4 2 hLi),uq J.f5,uq J.f6,uq J.f7,u2 J.f8,ug (Pl hcl 9 [4] hLi),ug (Pl hcl 10 [9,4] hLi),uq J.f11,ug (Pl hcl 12 [10,9,4] hLi),fun _=>hB⟩⟩)
    ·have hN:=Pl hcl 12 [10,9,4] hLi;have hB:=J.b hN;go_simp;exact hK _ _ (e12 ⟨rfl,⟨uq J.f0,uq J.f1,uq J.f2,fun _=>rfl,ug (Qh hcl 4 3 hLi),uq J.f5,uq J.f6,uq J.f7,u2 J.f8,ug (Pl hcl 9 [4] hLi),ug (Pl hcl 10 [9,4] hLi),uq J.f11,ug (Pl hcl 12 [10,9,4] hLi),fun _=>hB⟩⟩)
    ·have hN:=Pl hcl 12 [10,9] hLi;have hB:=J.b hN;obtain rfl:=J.f2 (Fa haft 2);obtain rfl:=J.f3 (Fa haft 3);go_simp;go_wp2_with (go_at_call 31;refine (KH.out W hB).mono ?_;rintro e W2 ⟨v,rfl,hO,hb⟩;replace hO:=zv.base hO hB.size)
     exact e12 ⟨rfl,⟨uq J.f0,uq J.f1,uq J.f2,uq J.f3,fun _ _=>hO,uq J.f5,uq J.f6,uq J.f7,fun h h2=>zv.kept (J.f8 (un h) (un h2)) hb,ug (Qh hcl 9 4 hLi),ug (Pl hcl 10 [9] hLi),uq J.f11,ug (Pl hcl 12 [10,9] hLi),fun _=>zi hB hb⟩⟩
    ·have hN:=Pl hcl 12 [10,9] hLi;have hB:=J.b hN;go_simp;exact hK _ _ (e12 ⟨rfl,⟨uq J.f0,uq J.f1,uq J.f2,uq J.f3,u2 J.f4,fun _=>rfl,uq J.f6,uq J.f7,u2 J.f8,ug (Qh hcl 9 5 hLi),ug (Pl hcl 10 [9] hLi),uq J.f11,ug (Pl hcl 12 [10,9] hLi),fun _=>hB⟩⟩)
    ·have hN:=Pl hcl 12 [10,9,8] hLi;have hB:=J.b hN;obtain ⟨q0,q1,q2,q3,q4⟩:=zK ((hB.block _ hl0).trans HX.out);go_simp;exact hK _ _ (e12 ⟨rfl,⟨uq J.f0,uq J.f1,uq J.f2,uq J.f3,u2 J.f4,uq J.f5,fun _=>rfl,uq J.f7,ug (Qh hcl 8 6 hLi),ug (Pl hcl 9 [8] hLi),ug (Pl hcl 10 [9,8] hLi),uq J.f11,ug (Pl hcl 12 [10,9,8] hLi),fun _=>hB⟩⟩)
    ·have hN:=Pl hcl 12 [10,9,8] hLi;have hB:=J.b hN;go_simp;exact hK _ _ (e12 ⟨rfl,⟨uq J.f0,uq J.f1,uq J.f2,uq J.f3,u2 J.f4,uq J.f5,uq J.f6,fun _=>rfl,ug (Qh hcl 8 7 hLi),ug (Pl hcl 9 [8] hLi),ug (Pl hcl 10 [9,8] hLi),uq J.f11,ug (Pl hcl 12 [10,9,8] hLi),fun _=>hB⟩⟩)
    ·have hN:=Pl hcl 12 [10,9] hLi;have hB:=J.b hN;obtain rfl:=J.f6 (Fa haft 6);obtain rfl:=J.f7 (Fa haft 7);go_simp;go_wp2_with (go_at_call 32;refine (KF.out W hB).mono ?_;rintro e W2 ⟨v,rfl,hO,hb⟩;replace hO:=zv.base hO hB.size)
     exact e12 ⟨rfl,⟨uq J.f0,uq J.f1,uq J.f2,uq J.f3,fun h h2=>zv.kept (J.f4 (un h) (un h2)) hb,uq J.f5,uq J.f6,uq J.f7,fun _ _=>hO,ug (Qh hcl 9 8 hLi),ug (Pl hcl 10 [9] hLi),uq J.f11,ug (Pl hcl 12 [10,9] hLi),fun _=>zi hB hb⟩⟩
    ·have hN:=Pl hcl 12 [10] hLi;have hB:=J.b hN;have hO1:=J.f4 (Fa haft 4) (Pl hcl 12 [10] hLi);obtain ⟨h1,c1,rfl,_⟩:=zP hO1;obtain rfl:=J.f5 (Fa haft 5);have hO2:=J.f8 (Fa haft 8) (Pl hcl 12 [10] hLi);obtain ⟨h2,c2,rfl,_⟩:=zP hO2;go_simp;exact hK _ _ (e12 ⟨rfl,⟨uq J.f0,uq J.f1,uq J.f2,uq J.f3,fun h h2=>zv.kept (J.f4 (un h) (un h2)) (ze (Below.refl _ _) _),uq J.f5,uq J.f6,uq J.f7,fun h h2=>zv.kept (J.f8 (un h) (un h2)) (ze (Below.refl _ _) _),fun _ _=>zhl (z1W.base (zv.at hO1) (Nat.zero_le _)) (z1W.base ((HG.out).kept hB) (Nat.zero_le _)) (z1W.base (zv.at hO2) (Nat.zero_le _)),ug (Qh hcl 10 9 hLi),uq J.f11,ug (Pl hcl 12 [10] hLi),fun _=>ze hB _⟩⟩)
    ·have hN:=Qh hcl 12 10 hLi;have hB:=J.b hN;have hP3:=J.f9 (Fa haft 9) (Qh hcl 12 10 hLi);go_simp;go_wp2_with (go_at_call 30;refine (zeS _ _ HC3.out W hP3).mono ?_;rintro e W2 ⟨v,rfl,hO,hb⟩;replace hO:=zv.base hO hB.size;rw [zfw] at hO)
     exact e12 ⟨rfl,⟨uq J.f0,uq J.f1,uq J.f2,uq J.f3,fun h h2=>zv.kept (J.f4 (un h) (un h2)) hb,uq J.f5,uq J.f6,uq J.f7,fun h h2=>zv.kept (J.f8 (un h) (un h2)) hb,fun h h2=>z1p.kept (J.f9 (un h) (un h2)) hb,fun _ _=>hO,uq J.f11,ug (Qh hcl 12 10 hLi),fun _=>zi hB hb⟩⟩
    ·have hN:=Qh hcl 12 11 hLi;have hB:=J.b hN;obtain rfl:=J.f0 (Fa haft 0);obtain rfl:=J.f1 (Fa haft 1);go_simp;exact hK _ _ (e12 ⟨rfl,⟨uq J.f0,uq J.f1,uq J.f2,uq J.f3,u2 J.f4,uq J.f5,uq J.f6,uq J.f7,u2 J.f8,u2 J.f9,u2 J.f10,fun _=>rfl,ug (Qh hcl 12 11 hLi),fun _=>hB⟩⟩)
    ·have hN:=hLi;have hB:=J.b hN;have hO1:=J.f10 (Fa haft 10) hLi;obtain ⟨h1,c1x,rfl,_⟩:=zP hO1;rw [List.length_append,List.length_append,Nat.add_assoc] at hO1;obtain rfl:=J.f11 (Fa haft 11);have hgl:=Nat.lt_of_lt_of_le hgb hB.size;have hfz:=zT ((hB.block _ hgb).trans HGB.out) (p:=k);obtain ⟨y0,hy0⟩:∃ y0,W.cell? ⟨gb,k,none⟩=some y0:=zjI ((hB.block _ hgb).trans HGB.out) hkc;go_simp;exact hK _ _ (e12 ⟨rfl,⟨uq J.f0,uq J.f1,uq J.f2,uq J.f3,fun _ h=>absurd (h.symm.trans zI) (by simp),uq J.f5,uq J.f6,uq J.f7,fun _ h=>absurd (h.symm.trans zI) (by simp),fun _ h=>absurd (h.symm.trans zI) (by simp),fun _ h=>absurd (h.symm.trans zI) (by simp),uq J.f11,fun _=>⟨_,hB,rfl,hO1⟩,fun h=>absurd (h.symm.trans zI) (by simp)⟩⟩)
theorem zfA (vc:Value) (ar:Option Addr) (cr:Nat) (t:T) (hok:zF t=true) (q:Nat) (hq:q < t.rows.length) (w:World) :
  Calls Tryz.prog 97 #[.agg #[vc,int i64 t.head,int i64 t.foot,.slice ar t.rows.length cr,int i64 t.gap],int i64 (q:Int)] w fun e w'=>e=.returned (int i64 (z0j t (q:Int)))/\Below w.heap.size w w':=by
 have hbb:=z0N hok;have HP:Hid (z0j t (q:Int)=if (q:Int) < t.head then 0 else if t.rows.length - t.foot<=(q:Int) then 2 else 1):=Hd (by rw [z0j,if_pos ⟨hok,by unfold zL;exact decide_eq_true (by omega)⟩]);have K0:=Hd (ze (Below.refl w.heap.size w) (.cells #[vc,int i64 t.head,int i64 t.foot,.slice ar t.rows.length cr,int i64 t.gap] 26));have X0:=zm w (.cells #[vc,int i64 t.head,int i64 t.foot,.slice ar t.rows.length cr,int i64 t.gap] 26);obtain ⟨b0,b1,b2,b3,b4⟩:=zK X0;have hw:IntKind.i64.wrap ((t.rows.length:Int) - t.foot)=(t.rows.length:Int) - t.foot:=(by rw [IntKind.wrap_i64];omega);clear X0;by_cases h1:(q:Int) < t.head
 ·have HF:Hid (z0j t (q:Int)=0):=Hd (by rw [HP.out,if_pos h1]);go_enter Tryz.func97,Tryz.ntmps97;go_wp2;go_ret;exact ⟨z6w HF.out.symm,K0.out⟩
 by_cases h2:(t.rows.length:Int) - t.foot<=(q:Int)
 ·have HF:Hid (z0j t (q:Int)=2):=Hd (by rw [HP.out,if_neg h1,if_pos h2]);go_enter Tryz.func97,Tryz.ntmps97;go_wp2;go_ret;exact ⟨z6w HF.out.symm,K0.out⟩
 ·have HF:Hid (z0j t (q:Int)=1):=Hd (by rw [HP.out,if_neg h1,if_neg h2]);go_enter Tryz.func97,Tryz.ntmps97;go_wp2;go_ret;exact ⟨z6w HF.out.symm,K0.out⟩
def z1M (t:T) (L:List Nat):Nat->List (Nat × Nat)
 | 0=>[]
 | k+1=>z1M t L k ++ if z0j t ((L.getD k 0:Nat):Int)=1 then [(L.getD k 0,L.getD (k+1) 0)] else []
def z0g (t:T):List (Nat × Nat):=z1M t (z0l (zh t).cells t.rows.length) (zQ (zh t).cells t.rows.length).length
theorem zeK {t:T} {L:List Nat} {k:Nat} (h:z0j t ((L.getD k 0:Nat):Int)=1):z1M t L (k+1)=z1M t L k ++ [(L.getD k 0,L.getD (k+1) 0)]:=by rw [z1M,if_pos h]
theorem zdA {t:T} {L:List Nat} {k:Nat} (h:¬ z0j t ((L.getD k 0:Nat):Int)=1):z1M t L (k+1)=z1M t L k:=by rw [z1M,if_neg h,List.append_nil]
theorem z9A (t:T) (L:List Nat):∀ k,(z1M t L k).length<=k
 | 0=>Nat.le_refl _
 | k+1=>by
  have:=z9A t L k;rw [z1M,List.length_append]
  split <;> simp <;> omega
theorem zdB (t:T) (hs:List Int) (L:List Nat):∀ k,(z1M t L k).flatMap (fun p=>z1x t hs p.1 p.2)=z1h t hs L k
 | 0=>rfl
 | k+1=>by
  rw [z1h,<-zdB t hs L k];by_cases h:z0j t ((L.getD k 0:Nat):Int)=1
  ·rw [zeK h,List.flatMap_append];simp
  ·rw [zdA h,zaK h,List.append_nil]
theorem zdC {t:T} {gs:List GC} {R:Nat}:∀ k,k < (z0l gs R).length->∀ p ∈ z1M t (z0l gs R) k,p.1 < p.2/\p.2<=R/\z0j t (p.1:Int)=1
 | 0,_,p,hp=>by cases hp
 | k+1,hk,p,hp=>by
  rw [z1M] at hp
  rcases List.mem_append.1 hp with h | h
  ·exact zdC k (by omega) p h
  ·split at h
   ·rename_i hpt
    rw [List.mem_singleton] at h;subst h;obtain ⟨s1,s2⟩:=z3O hk;exact ⟨s1,s2,hpt⟩
   ·cases h
def z7a (w:World) (v:Value) (ps:List (Nat × Nat)):Prop:=At w 0 v ps.length 1 (fun i b o=>∃ u,w.cell? ⟨b,o,none⟩=some u/\zC w u [((ps.getD i (0,0)).1:Int),((ps.getD i (0,0)).2:Int)])
theorem z7a.kept {w w':World} {v:Value} {ps:List (Nat × Nat)} (h:z7a w v ps) (k:Below w.heap.size w w'):z7a w' v ps :=
 At.mono h k.size (Nat.le_refl _) (fun _ _ _ _ hb _ ⟨u,h1,h2⟩=>⟨u,(k.cell (p:=⟨_,_,none⟩) hb).trans h1,h2.kept k⟩)
theorem z3o {w w':World} {base:Nat} {e:TypeId} {sz:Nat} {v:Value} {m:Nat} {xs:List Value} (h:w.ownsRow base e sz v m xs) (hb:Below w.heap.size w w'):w'.ownsRow base e sz v m xs :=
 ⟨h.1,h.2.elim Or.inl (fun ⟨g,cap,cur,hv,hg,hc,r⟩=>Or.inr ⟨g,cap,cur,hv,hg,(hb.block g (bL hc)).trans hc,r⟩)⟩
theorem z8z {w:World} {base base':Nat} {e:TypeId} {sz:Nat} {v:Value} {m:Nat} {xs:List Value} (h:w.ownsRow base e sz v m xs) (hb:base'<=base):w.ownsRow base' e sz v m xs :=
 ⟨h.1,h.2.elim Or.inl (fun ⟨g,cap,cur,hv,hg,r⟩=>Or.inr ⟨g,cap,cur,hv,Nat.le_trans hb hg,r⟩)⟩
theorem z64 {w w':World} {base base':Nat} {e e':TypeId} {sz sz':Nat} {v U:Value} {m n:Nat} {xs ys:List Value} (h:w.ownsRow base e sz v m xs) (hU:w.ownsRow base' e' sz' U n ys) (he:e' ≠ e) (k:w.grownBy w' U.ownBlock):w'.ownsRow base e sz v m xs :=
 ⟨h.1,h.2.elim Or.inl (fun ⟨g,cap,cur,hv,hg,hc,r⟩=>Or.inr ⟨g,cap,cur,hv,hg,z04 hc k (z0d (zu hU hc he)),r⟩)⟩
def z2u (w:World) (B:Nat) (us:List Value) (ps:List (Nat × Nat)):Prop:=us.length=ps.length/\∀ i,i < ps.length->w.ownsRow B 3 1 (us.getD i (.slice none 0 0)) 2 [int i64 ((ps.getD i (0,0)).1:Int),int i64 ((ps.getD i (0,0)).2:Int)]
theorem z2u.kept {w w':World} {B:Nat} {us:List Value} {ps:List (Nat × Nat)} (h:z2u w B us ps) (k:Below w.heap.size w w'):z2u w' B us ps:=⟨h.1,fun i hi=>z3o (h.2 i hi) k⟩
theorem z2u.grown {w w':World} {B base:Nat} {U:Value} {us:List Value} {ps:List (Nat × Nat)} {m:Nat} {xs:List Value} (h:z2u w B us ps) (hU:w.ownsRow base 27 1 U m xs) (k:w.grownBy w' U.ownBlock):z2u w' B us ps:=⟨h.1,fun i hi=>z64 (h.2 i hi) hU (by decide) k⟩
theorem z2u.snoc {w:World} {B:Nat} {us:List Value} {ps:List (Nat × Nat)} {u:Value} {p:Nat × Nat} (h:z2u w B us ps) (hu:w.ownsRow B 3 1 u 2 [int i64 (p.1:Int),int i64 (p.2:Int)]):z2u w B (us ++ [u]) (ps ++ [p]):=by
 refine ⟨by rw [List.length_append,List.length_append,h.1];rfl,fun i hi=>?_⟩;rw [List.length_append,List.length_cons,List.length_nil] at hi
 rcases Nat.lt_or_eq_of_le (Nat.lt_succ_iff.1 hi) with h1 | h1
 ·rw [List.getD_eq_getElem?_getD,List.getD_eq_getElem?_getD,List.getElem?_append_left (by rw [h.1];exact h1),List.getElem?_append_left h1,<-List.getD_eq_getElem?_getD,<-List.getD_eq_getElem?_getD];exact h.2 i h1
 ·subst h1;have e1:(us ++ [u]).getD ps.length (.slice none 0 0)=u:=(by rw [<-h.1];simp [List.getD]);have e2:(ps ++ [p]).getD ps.length (0,0)=p:=(by simp [List.getD]);rw [e1,e2];exact hu
theorem zhr {w:World} {B:Nat} {u:Value} {a b:Int} (h:w.ownsRow B 3 1 u 2 [int i64 a,int i64 b]):zC w u [a,b]:=(zt.of_owns (l:=[a,b]) h).at
theorem z2u.pairs {w:World} {B base:Nat} {v:Value} {us:List Value} {ps:List (Nat × Nat)} (h:z2u w B us ps) (hO:w.ownsRow base 27 1 v us.length us):z7a w v ps:=by
 unfold z7a;have hul:=h.1
 rcases hO.2 with ⟨hv,h0⟩ | ⟨g,cap,cur,hv,hb,hg,h1,h2,h3,h4⟩
 ·exact ⟨none,0,by rw [<-hul,h0];exact hv,by omega,Nat.zero_le _,fun i hi=>by omega⟩
 ·refine ⟨some ⟨g,0,none⟩,cap,by rw [<-hul];exact hv,by omega,h2,fun i hi=>⟨g,0,rfl,(bL hg),Nat.zero_le _,us.getD i (.slice none 0 0),?_,zhr (h.2 i hi)⟩⟩;have:cur.toList[i]?=us[i]?:=(by rw [<-h4,List.getElem?_take_of_lt (by omega)]);rw [Nat.zero_add,Nat.mul_one,zf hg,<-Array.getElem?_toList,this];simp [List.getD,show i < us.length by omega]
structure PX (w:World) (ac ar ag:Option Addr) (cc cr cg:Nat) (t:T) (vb:Value) (bl:List Int) (W:World):Prop where
 below:Below w.heap.size w W
 box:W.heap[w.heap.size]?=some (.cells #[.slice ac t.cols.length cc,int i64 t.head,int i64 t.foot,.slice ar t.rows.length cr,int i64 t.gap] 26)
 grd:W.heap[w.heap.size+1]?=some (.cells #[int i64 (t.rows.length:Int),int i64 (zh t).cols,.slice ag (zh t).cells.length cg] 38)
 bnd:W.ownsRow w.heap.size 3 1 vb bl.length (bl.map (Value.int .i64))
theorem PX.kept {w:World} {ac ar ag:Option Addr} {cc cr cg:Nat} {t:T} {vb:Value} {bl:List Int} {W W':World} (h:PX w ac ar ag cc cr cg t vb bl W) (k:Below W.heap.size W W'):PX w ac ar ag cc cr cg t vb bl W' :=
 ⟨zi h.below k,(k.block _ (bL h.box)).trans h.box,(k.block _ (bL h.grd)).trans h.grd,z3o h.bnd k⟩
theorem PX.grown {w:World} {ac ar ag:Option Addr} {cc cr cg:Nat} {t:T} {vb:Value} {bl:List Int} {W W':World} {base m:Nat} {U:Value} {xs:List Value} (h:PX w ac ar ag cc cr cg t vb bl W) (hU:W.ownsRow base 27 1 U m xs) (hb:w.heap.size<=base) (k:W.grownBy W' U.ownBlock):PX w ac ar ag cc cr cg t vb bl W' :=
 ⟨h.below.grown k h.below.size (fun q hq=>Nat.le_trans hb (hU.lt q hq).1),z04 h.box k (z0d (zu hU h.box (by decide))),z04 h.grd k (z0d (zu hU h.grd (by decide))),z64 h.bnd hU (by decide) k⟩
theorem PX.ints {w:World} {ac ar ag:Option Addr} {cc cr cg:Nat} {t:T} {vb:Value} {bl:List Int} {W:World} (h:PX w ac ar ag cc cr cg t vb bl W):zC W vb bl:=(zt.of_owns h.bnd).at
theorem zdD (w:World) (a b:Nat) (B:Nat) (hB:B<=w.heap.size):(w.alloc (.cells #[int i64 (a:Int),int i64 (b:Int)] 3)).ownsRow B 3 1 (.slice (some ⟨w.heap.size,0,none⟩) 2 2) 2 [int i64 (a:Int),int i64 (b:Int)] :=
 ⟨rfl,.inr ⟨w.heap.size,2,#[int i64 (a:Int),int i64 (b:Int)],rfl,hB,zm _ _,Nat.le_refl _,by unfold maxLen;omega,rfl,rfl⟩⟩
theorem zkg:(Tryz.prog.info? 27).map (fun i=>(i.zero,i.size,i.bytes))=some (some (Value.slice none 0 0),1,24):=by kernel_rfl
theorem zfB (ac ar ag:Option Addr) (cc cr cg:Nat) (t:T) (hD:z0h t) (htk:zF t=true) (w:World) {zg:Nat} (hg:z1I w zg (.slice ag (zh t).cells.length cg) (zh t).cells) :
  Calls Tryz.prog 53 #[.agg #[.slice ac t.cols.length cc,int i64 t.head,int i64 t.foot,.slice ar t.rows.length cr,int i64 t.gap],.agg #[int i64 (zh t).rows,int i64 (zh t).cols,.slice ag (zh t).cells.length cg]] w fun e w'=>∃ v us,e=.returned v/\w'.ownsRow w.heap.size 27 1 v us.length us/\z2u w' w.heap.size us (z0g t)/\Below w.heap.size w w':=by
 have hmx:Tryz.prog.follows .mixedOrders=true:=(by kernel_rfl);obtain ⟨i0,hi0,hz0,hz1,hz2⟩:=info_parts zkg;have hR8:=z0N htk;have hgr:(zh t).rows=(t.rows.length:Int):=(by rw [z2z htk])
 have hcl:t.cols.length<=8:=by
  simp only [zF,z2k,Bool.and_eq_true,decide_eq_true_eq] at htk;omega
 have HBL:Hid (z67 ⟨(t.rows.length:Int),(zh t).cols,(zh t).cells⟩=zQ (zh t).cells t.rows.length):=Hd (by
  rw [z9Q (by rw [z2z htk];exact zgs (z3N htk hD) hR8.1.1 hcl)]
  simp)
 rw [hgr];have K0:=ze (ze (ze (Below.refl w.heap.size w) (.cells #[.slice ac t.cols.length cc,int i64 t.head,int i64 t.foot,.slice ar t.rows.length cr,int i64 t.gap] 26)) (.cells #[int i64 (t.rows.length:Int),int i64 (zh t).cols,.slice ag (zh t).cells.length cg] 38)) (.cells #[] 27);have hs0:(((w.alloc (.cells #[.slice ac t.cols.length cc,int i64 t.head,int i64 t.foot,.slice ar t.rows.length cr,int i64 t.gap] 26)).alloc (.cells #[int i64 (t.rows.length:Int),int i64 (zh t).cols,.slice ag (zh t).cells.length cg] 38)).alloc (.cells #[] 27)).heap.size=w.heap.size+3:=(by simp);have X0:(((w.alloc (.cells #[.slice ac t.cols.length cc,int i64 t.head,int i64 t.foot,.slice ar t.rows.length cr,int i64 t.gap] 26)).alloc (.cells #[int i64 (t.rows.length:Int),int i64 (zh t).cols,.slice ag (zh t).cells.length cg] 38)).alloc (.cells #[] 27)).heap[w.heap.size]?=some (.cells #[.slice ac t.cols.length cc,int i64 t.head,int i64 t.foot,.slice ar t.rows.length cr,int i64 t.gap] 26):=(Below.heap_alloc _ _ _ (by simp;omega)).trans ((Below.heap_alloc _ _ _ (by simp)).trans (zm _ _));have G0:(((w.alloc (.cells #[.slice ac t.cols.length cc,int i64 t.head,int i64 t.foot,.slice ar t.rows.length cr,int i64 t.gap] 26)).alloc (.cells #[int i64 (t.rows.length:Int),int i64 (zh t).cols,.slice ag (zh t).cells.length cg] 38)).alloc (.cells #[] 27)).heap[w.heap.size+1]?=some (.cells #[int i64 (t.rows.length:Int),int i64 (zh t).cols,.slice ag (zh t).cells.length cg] 38):=(Below.heap_alloc _ _ _ (by simp)).trans (by have:=zm (w.alloc (.cells #[.slice ac t.cols.length cc,int i64 t.head,int i64 t.foot,.slice ar t.rows.length cr,int i64 t.gap] 26)) (.cells #[int i64 (t.rows.length:Int),int i64 (zh t).cols,.slice ag (zh t).cells.length cg] 38);rwa [World.size_alloc] at this);have O0:(((w.alloc (.cells #[.slice ac t.cols.length cc,int i64 t.head,int i64 t.foot,.slice ar t.rows.length cr,int i64 t.gap] 26)).alloc (.cells #[int i64 (t.rows.length:Int),int i64 (zh t).cols,.slice ag (zh t).cells.length cg] 38)).alloc (.cells #[] 27)).heap[w.heap.size+2]?=some (.cells #[] 27):=(by have:=zm ((w.alloc (.cells #[.slice ac t.cols.length cc,int i64 t.head,int i64 t.foot,.slice ar t.rows.length cr,int i64 t.gap] 26)).alloc (.cells #[int i64 (t.rows.length:Int),int i64 (zh t).cols,.slice ag (zh t).cells.length cg] 38)) (.cells #[] 27);rwa [World.size_alloc,World.size_alloc] at this);have HG:=Hd (hg.kept K0);have HK0:=Hd K0;have HX0:=Hd X0;have HG0:=Hd G0;have HO0:=Hd O0;have HTK:=Hd htk;clear hg K0 X0 G0 O0 hgr hcl htk;go_enter Tryz.func53,Tryz.ntmps53;go_upto_region 2 with fail
 generalize (((w.alloc (.cells #[.slice ac t.cols.length cc,int i64 t.head,int i64 t.foot,.slice ar t.rows.length cr,int i64 t.gap] 26)).alloc (.cells #[int i64 (t.rows.length:Int),int i64 (zh t).cols,.slice ag (zh t).cells.length cg] 38)).alloc (.cells #[] 27))=W0 at HK0 HX0 HG0 HO0 HG hs0 |-;obtain ⟨b0,b1,b2,b3,b4⟩:=zK HX0.out;obtain ⟨y0,y1,y2⟩:=z25 HG0.out;go_wp2_with fail
 refine (zce (t.rows.length:Int) (zh t).cols ag cg (zh t).cells W0 HG.out).mono ?_;rintro e w1 ⟨vb,rfl,hI,hb1⟩;rw [HBL.out] at hI;obtain ⟨avb,cvb,rfl⟩:=hI.form;have HX1:Hid (PX w ac ar ag cc cr cg t (.slice avb (zQ (zh t).cells t.rows.length).length cvb) (zQ (zh t).cells t.rows.length) w1):=Hd ⟨zi HK0.out hb1,(hb1.block _ (by omega)).trans HX0.out,(hb1.block _ (by omega)).trans HG0.out,(hI.base (by omega:w.heap.size<=W0.heap.size) (Nat.le_refl _)).owns⟩;have HO1:Hid (w1.ownsRow (w.heap.size+2) 27 1 (.slice (some ⟨w.heap.size+2,0,none⟩) 0 0) 0 []):=Hd ⟨rfl,.inr ⟨w.heap.size+2,0,#[],rfl,Nat.le_refl _,(hb1.block _ (by omega)).trans HO0.out,Nat.le_refl _,Nat.zero_le _,rfl,rfl⟩⟩;have hbl:=z3d (zh t).cells t.rows.length;have HLl:=Hd (z5j (zh t).cells t.rows.length);have HLg:=Hd (fun (k:Nat)=>zcA (gs:=(zh t).cells) (R:=t.rows.length) (k:=k));have HLs:=Hd (fun (k:Nat)=>z3O (gs:=(zh t).cells) (R:=t.rows.length) (k:=k));have HLe:=Hd (z8c (zh t).cells t.rows.length);have HET:Hid (z0g t=z1M t (z0l (zh t).cells t.rows.length) (zQ (zh t).cells t.rows.length).length):=Hd rfl;have HEL:=Hd (fun k=>z9A t (z0l (zh t).cells t.rows.length) k);generalize z0l (zh t).cells t.rows.length=L at HLl HLg HLs HLe HET HEL;generalize zQ (zh t).cells t.rows.length=bs at hI HX1 hbl HLl HLg HLe HET;clear hI hb1 HG HK0 HX0 HG0 HO0 hs0 HBL b0 b1 b2 b3 b4 y0 y1 y2;go_wp2_with fail
 go_loopw [5,7] (fun o i W=>∃ (k:Nat) (us:List Value),k<=bs.length/\i=int i64 (k:Int)/\Hid (W.ownsRow (w.heap.size+2) 27 1 o us.length us)/\Hid (z2u W w.heap.size us (z1M t L k))/\Hid (PX w ac ar ag cc cr cg t (.slice avb bs.length cvb) bs W)) (fun _ i _=>bs.length - (intOf i).toNat)
 case atStart=>exact ⟨0,[],Nat.zero_le _,rfl,HO1,⟨rfl,fun i hi=>absurd hi (Nat.not_lt_zero _)⟩,HX1⟩
 case round =>
  clear HX1 HO1;obtain ⟨k,us,hk,rfl,HO,HR,HX⟩:=hrel;have hul:us.length<=k:=(by have:=HR.out.1;have:=HEL.out k;omega);obtain ⟨ao,co,rfl,_⟩:=zP HO.out;by_cases hlt:k < bs.length
  case neg =>
   obtain rfl:k=bs.length:=by omega
   go_wp2;go_ret;exact ⟨_,us,rfl,z8z HO.out (by omega),by rw [HET.out];exact HR.out,HX.out.below⟩
  obtain ⟨s1,s2⟩:=HLs.out k (by rw [HLl.out];omega);have HLk:=Hd (HLg.out k (by rw [HLl.out];omega));have HLk1:=Hd (HLg.out (k+1) (by rw [HLl.out];omega));have HPn:=Hd (fun (h:¬ z0j t ((L.getD k 0:Nat):Int)=1)=>zdA h);have hin:=@zeK t L k;obtain ⟨a,ha⟩:∃ a,L.getD k 0=a:=⟨_,rfl⟩;obtain ⟨b,hb⟩:∃ b,L.getD (k+1) 0=b:=⟨_,rfl⟩;have HLa:=Hd ha;have HLb:=Hd hb;rw [ha] at s1 HPn HLk;rw [hb] at s1 s2 HLk1;rw [ha,hb] at hin;have hlk:(bs ++ [(t.rows.length:Int)]).getD k 0=bs.getD k 0:=(by rw [List.getD_eq_getElem?_getD,List.getElem?_append_left hlt,<-List.getD_eq_getElem?_getD]);rw [hlk] at HLk;have HIn:=Hd hin;have KP:=Hd (fun (p:BW wr)=>z4s (zfA (.slice ac t.cols.length cc) ar cr t HTK.out a (by omega) p.u));have hne:=z0x wr;have hlw:=(bL HX.out.box);obtain ⟨b0,b1,b2,b3,b4⟩:=zK HX.out.box;obtain ⟨y0,y1,y2⟩:=z25 HX.out.grd;have m0:=zj (a:=⟨w.heap.size,0,none⟩) hlw b0;have m1:=zj (a:=⟨w.heap.size,1,none⟩) hlw b1;have m2:=zj (a:=⟨w.heap.size,2,none⟩) hlw b2;have m3:=zj (a:=⟨w.heap.size,3,none⟩) hlw b3;have m4:=zj (a:=⟨w.heap.size,4,none⟩) hlw b4;obtain ⟨gx,ox,cx,ex,f1,f2,f3,x1⟩:=HX.out.ints.get (i:=k) hlt;simp only [Value.slice.injEq,true_and] at ex;obtain ⟨rfl,rfl⟩:=ex;rw [HLk.out] at x1;have n1:=zj (a:=⟨gx,ox+k,none⟩) f3 x1;unfold maxLen at f2;clear ha hb hlk hin s1 f3;by_cases hk1:k+1 < bs.length
  ·obtain ⟨gq,oq,cq,eq,q1,q2,q3,x2⟩:=HX.out.ints.get (i:=k+1) hk1;simp only [Value.slice.injEq,Option.some.injEq,Addr.mk.injEq,and_true,true_and] at eq;obtain ⟨⟨rfl,rfl⟩,rfl⟩:=eq;have hlk1:(bs ++ [(t.rows.length:Int)]).getD (k+1) 0=bs.getD (k+1) 0:=(by rw [List.getD_eq_getElem?_getD,List.getElem?_append_left hk1,<-List.getD_eq_getElem?_getD]);rw [<-hlk1,HLk1.out] at x2;clear q1 q2 q3 hlk1;by_cases hp:z0j t (a:Int)=1
   case neg =>
    have HPt:=Hd (HPn.out hp);have hp2:(z0j t (a:Int) == 1)=false:=beq_eq_false_iff_ne.2 hp;generalize z0j t (a:Int)=pv at KP hp2;clear hp HPn;go_upto_region 9 with fail
    refine zo hmx (by kernel_rfl) ?_;repeat (go_big_quiet_step (first | (go_at_call 97;refine KP.out _)))
    refine wpQuiet_nil ?_;intro W4 hw';obtain ⟨⟨Wx,hW4⟩,hw''⟩:=hw';subst hw'';have HX4:=Hd (HX.out.kept hW4);have HO4:=Hd (z3o HO.out hW4)
    have HR4:Hid (z2u W4 w.heap.size us (z1M t L (k+1))):=Hd (by
     rw [HPt.out];exact HR.out.kept hW4)
    clear x1 x2 m0 m1 m2 m3 m4 n1 hne KP HX HO HR hW4 y0 y1 y2 b0 b1 b2 b3 b4;go_wp2;go_roundw
    case rel=>exact ⟨k+1,_,by omega,by go_num,HO4,HR4,HX4⟩
    case measure=>simp [intOf];omega
   have HPt:=Hd (HIn.out hp);rw [hp] at KP;clear hp HPn;go_upto_region 9 with fail
   refine zo hmx (by kernel_rfl) ?_;repeat (go_big_quiet_step (first | (go_at_call 97;refine KP.out _)))
   refine wpQuiet_nil ?_;intro W4 hw';obtain ⟨⟨Wx,hW4⟩,hw''⟩:=hw';subst hw'';have HX4:=Hd (HX.out.kept hW4);have HO4:=Hd (z3o HO.out hW4);have HR4:=Hd (HR.out.kept hW4);have hz4:=HX4.out.below.size;obtain ⟨gx,ox,cx,ex,f1,f2,f3,x4⟩:=HX4.out.ints.get (i:=k) hlt;simp only [Value.slice.injEq,Option.some.injEq,Addr.mk.injEq,and_true,true_and] at ex;obtain ⟨⟨rfl,rfl⟩,rfl⟩:=ex;rw [HLk.out] at x4;clear f1 f2 f3 x1 x2 m0 m1 m2 m3 m4 n1 hne KP HX HO HR hW4 y0 y1 y2 b0 b1 b2 b3 b4;have KA:=ze (ze (Below.refl W4.heap.size W4) (.cells #[int i64 (a:Int),int i64 (b:Int)] 3)) (.cells #[.slice (some ⟨W4.heap.size,0,none⟩) 2 2] 27);have hOA:=(HO4.out.alloc (.cells #[int i64 (a:Int),int i64 (b:Int)] 3)).alloc (.cells #[.slice (some ⟨W4.heap.size,0,none⟩) 2 2] 27);have HPn:=Hd (zdD W4 a b w.heap.size hz4);go_wp2_with (at_builtin;refine wpList_append_own _ rfl _ _ 86 rfl (w.heap.size+2) 27 i0 _ 1 24 Tryz.underlying86 hi0 hz0 hz1 hz2 rfl (by decide) _ _ _ rfl hOA ⟨W4.heap.size+1,0,none⟩ 1 1 [.slice (some ⟨W4.heap.size,0,none⟩) 2 2] rfl rfl ?c1 ?c2 ?c3 ?c4 ?c5 ?_)
   case c1=>exact z0L (by have:=zm (W4.alloc (.cells #[int i64 (a:Int),int i64 (b:Int)] 3)) (.cells #[.slice (some ⟨W4.heap.size,0,none⟩) 2 2] 27);rwa [World.size_alloc] at this)
   case c2=>simp [Value.oneCell']
   case c3=>unfold maxLen;omega
   case c4=>omega
   case c5=>have:=HX4.out.grd;have:=(bL this);simp;omega
   intro v' w5 hown' hgrow' _;have HX5:=Hd ((HX4.out.kept KA).grown hOA (by omega) hgrow')
   have HR5:Hid (z2u w5 w.heap.size (us ++ [.slice (some ⟨W4.heap.size,0,none⟩) 2 2]) (z1M t L (k+1))):=Hd (by
    rw [HPt.out];exact ((HR4.out.kept KA).grown hOA hgrow').snoc (z64 (z3o HPn.out (ze (Below.refl _ _) _)) hOA (by decide) hgrow'))
   have HO5:Hid (w5.ownsRow (w.heap.size+2) 27 1 v' (us ++ [Value.slice (some ⟨W4.heap.size,0,none⟩) 2 2]).length (us ++ [Value.slice (some ⟨W4.heap.size,0,none⟩) 2 2])):=Hd (by rw [List.length_append];exact hown');obtain ⟨g',cap',rfl⟩:=Joins.ownsRow_form hown' (by omega);clear hown' hgrow' hOA KA HX4 HO4 HR4 x4;go_wp2;go_roundw
   case rel=>exact ⟨k+1,_,by omega,by go_num,HO5,HR5,HX5⟩
   case measure=>simp [intOf];omega
  ·have hbR:(b:Int)=(t.rows.length:Int):=by
    have e:bs.length=k+1:=(by omega);have:=HLe.out;rw [e,HLb.out] at this;omega
   have hbR2:b=t.rows.length:=(by omega);subst hbR2;clear hbR;by_cases hp:z0j t (a:Int)=1
   case neg =>
    have HPt:=Hd (HPn.out hp);have hp2:(z0j t (a:Int) == 1)=false:=beq_eq_false_iff_ne.2 hp;generalize z0j t (a:Int)=pv at KP hp2;clear hp HPn;go_upto_region 9 with fail
    refine zo hmx (by kernel_rfl) ?_;repeat (go_big_quiet_step (first | (go_at_call 97;refine KP.out _)))
    refine wpQuiet_nil ?_;intro W4 hw';obtain ⟨⟨Wx,hW4⟩,hw''⟩:=hw';subst hw'';have HX4:=Hd (HX.out.kept hW4);have HO4:=Hd (z3o HO.out hW4)
    have HR4:Hid (z2u W4 w.heap.size us (z1M t L (k+1))):=Hd (by
     rw [HPt.out];exact HR.out.kept hW4)
    clear x1 m0 m1 m2 m3 m4 n1 hne KP HX HO HR hW4 y0 y1 y2 b0 b1 b2 b3 b4;go_wp2;go_roundw
    case rel=>exact ⟨k+1,_,by omega,by go_num,HO4,HR4,HX4⟩
    case measure=>simp [intOf];omega
   have HPt:=Hd (HIn.out hp);rw [hp] at KP;clear hp HPn;go_upto_region 9 with fail
   refine zo hmx (by kernel_rfl) ?_;repeat (go_big_quiet_step (first | (go_at_call 97;refine KP.out _)))
   refine wpQuiet_nil ?_;intro W4 hw';obtain ⟨⟨Wx,hW4⟩,hw''⟩:=hw';subst hw'';have HX4:=Hd (HX.out.kept hW4);have HO4:=Hd (z3o HO.out hW4);have HR4:=Hd (HR.out.kept hW4);have hz4:=HX4.out.below.size;obtain ⟨gx,ox,cx,ex,f1,f2,f3,x4⟩:=HX4.out.ints.get (i:=k) hlt;simp only [Value.slice.injEq,Option.some.injEq,Addr.mk.injEq,and_true,true_and] at ex;obtain ⟨⟨rfl,rfl⟩,rfl⟩:=ex;rw [HLk.out] at x4;clear f1 f2 f3 x1 m0 m1 m2 m3 m4 n1 hne KP HX HO HR hW4 y0 y1 y2 b0 b1 b2 b3 b4;have KA:=ze (ze (Below.refl W4.heap.size W4) (.cells #[int i64 (a:Int),int i64 (t.rows.length:Int)] 3)) (.cells #[.slice (some ⟨W4.heap.size,0,none⟩) 2 2] 27);have hOA:=(HO4.out.alloc (.cells #[int i64 (a:Int),int i64 (t.rows.length:Int)] 3)).alloc (.cells #[.slice (some ⟨W4.heap.size,0,none⟩) 2 2] 27);have HPn:=Hd (zdD W4 a t.rows.length w.heap.size hz4);go_wp2_with (at_builtin;refine wpList_append_own _ rfl _ _ 86 rfl (w.heap.size+2) 27 i0 _ 1 24 Tryz.underlying86 hi0 hz0 hz1 hz2 rfl (by decide) _ _ _ rfl hOA ⟨W4.heap.size+1,0,none⟩ 1 1 [.slice (some ⟨W4.heap.size,0,none⟩) 2 2] rfl rfl ?c1 ?c2 ?c3 ?c4 ?c5 ?_)
   case c1=>exact z0L (by have:=zm (W4.alloc (.cells #[int i64 (a:Int),int i64 (t.rows.length:Int)] 3)) (.cells #[.slice (some ⟨W4.heap.size,0,none⟩) 2 2] 27);rwa [World.size_alloc] at this)
   case c2=>simp [Value.oneCell']
   case c3=>unfold maxLen;omega
   case c4=>omega
   case c5=>have:=HX4.out.grd;have:=(bL this);simp;omega
   intro v' w5 hown' hgrow' _;have HX5:=Hd ((HX4.out.kept KA).grown hOA (by omega) hgrow')
   have HR5:Hid (z2u w5 w.heap.size (us ++ [.slice (some ⟨W4.heap.size,0,none⟩) 2 2]) (z1M t L (k+1))):=Hd (by
    rw [HPt.out];exact ((HR4.out.kept KA).grown hOA hgrow').snoc (z64 (z3o HPn.out (ze (Below.refl _ _) _)) hOA (by decide) hgrow'))
   have HO5:Hid (w5.ownsRow (w.heap.size+2) 27 1 v' (us ++ [Value.slice (some ⟨W4.heap.size,0,none⟩) 2 2]).length (us ++ [Value.slice (some ⟨W4.heap.size,0,none⟩) 2 2])):=Hd (by rw [List.length_append];exact hown');obtain ⟨g',cap',rfl⟩:=Joins.ownsRow_form hown' (by omega);clear hown' hgrow' hOA KA HX4 HO4 HR4 x4;go_wp2;go_roundw
   case rel=>exact ⟨k+1,_,by omega,by go_num,HO5,HR5,HX5⟩
   case measure=>simp [intOf];omega
theorem z8A (rm:List Int):∀ (n:Nat) (ps:List (List zk)),ps.length=n->∃ A B,ps=A ++ B/\(ps.foldl (zY rm) ([],[])).2=B.foldl z0f []/\(ps.foldl (zY rm) ([],[])).1.length<=A.length
 | 0,ps,h=>by
  have:ps=[]:=List.eq_nil_of_length_eq_zero h;subst this;exact ⟨[],[],rfl,rfl,Nat.le_refl _⟩
 | n+1,ps,h=>by
  rcases List.eq_nil_or_concat ps with rfl | ⟨a,p,rfl⟩
  ·cases h
  ·rw [List.concat_eq_append] at h |-;obtain ⟨A,B,e1,e2,e3⟩:=z8A rm n a (by simpa using h);rw [List.foldl_append,List.foldl_cons,List.foldl_nil];generalize a.foldl (zY rm) ([],[])=st at e2 e3 |-;obtain ⟨pgs,page⟩:=st;simp only at e2 e3
   cases ht:z1a page p (zO rm pgs.length) with
   | true =>
    rw [z7T ht];exact ⟨A,B ++ [p],by rw [e1,List.append_assoc],by simp [e2],e3⟩
   | false =>
    refine ⟨A ++ B,[p],by rw [e1],?_,?_⟩
    ·unfold zY;rw [if_neg (by simp only;rw [ht];simp)];rfl
    ·have hB:B ≠ []:=by
      rintro rfl;rw [List.foldl_nil] at e2;rw [e2] at ht
      cases ht
     have:=List.length_pos_iff.2 hB;unfold zY;rw [if_neg (by simp only;rw [ht];simp)];simp only [List.length_append,List.length_cons,List.length_nil];omega
theorem zjJ (rm:List Int) {ps:List (List zk)} (hne:∀ p ∈ ps,p ≠ []) (h:ps ≠ []):(ps.foldl (zY rm) ([],[])).2 ≠ []:=by
 rcases List.eq_nil_or_concat ps with rfl | ⟨a,p,rfl⟩
 ·exact absurd rfl h
 ·rw [List.concat_eq_append] at hne |-;rw [List.foldl_append,List.foldl_cons,List.foldl_nil];have hp:=hne p (by simp);unfold zY
  split
  ·exact z9x hp
  ·exact z9x hp
theorem zfC {page:List zk} {s:zk} {r:Nat} (h:z3p page r) (hs:s.r < r):z3p (z2o page s) r:=by
 rcases List.eq_nil_or_concat page with rfl | ⟨a,l,rfl⟩
 ·intro x hx;simp only [z2o,List.getLast?_nil,List.mem_singleton] at hx;rw [hx];exact hs
 ·rw [List.concat_eq_append] at h |-;rw [z6A];intro x hx
  split at hx
  ·rcases List.mem_append.1 hx with h1 | h1
   ·exact h x (List.mem_append.2 (.inl h1))
   ·rw [List.mem_singleton.1 h1];exact h l (by simp)
  ·rcases List.mem_append.1 hx with h1 | h1
   ·exact h x h1
   ·rw [List.mem_singleton.1 h1];exact hs
theorem z7I {r:Nat}:∀ {piece page:List zk},z3p page r->(∀ s ∈ piece,s.r < r)->z3p (z0f page piece) r
 | [],_,h,_=>h
 | s :: l,page,h,hp=>z7I (piece:=l) (page:=z2o page s) (zfC h (hp s (by simp))) (fun x hx=>hp x (List.mem_cons_of_mem _ hx))
theorem zfD {rm:List Int} {st:List (List zk) × List zk} {piece:List zk} {r:Nat} (h:z3p st.2 r) (hp:∀ s ∈ piece,s.r < r):z3p (zY rm st piece).2 r:=by
 unfold zY
 split
 ·exact z7I h hp
 ·exact z7I (page:=[]) (fun x hx=>by cases hx) hp
theorem zay {rm:List Int} {r:Nat}:∀ {ps:List (List zk)} {st:List (List zk) × List zk},z3p st.2 r->(∀ p ∈ ps,∀ s ∈ p,s.r < r)->z3p (ps.foldl (zY rm) st).2 r
 | [],_,h,_=>h
 | p :: ps,st,h,hp=>zay (ps:=ps) (st:=zY rm st p) (zfD h (hp p (by simp))) (fun q hq=>hp q (List.mem_cons_of_mem _ hq))
theorem zaz (hs:List Int):∀ (n a:Nat),∀ s ∈ zS hs a n,s.r < ((a+n:Nat):Int)
 | 0,_,s,h=>by cases h
 | n+1,a,s,h=>by
  rw [zS] at h
  rcases List.mem_cons.1 h with rfl | h
  ·simp only;omega
  ·have:=zaz hs n (a+1) s h;omega
theorem zjK {t:T} {hs:List Int} {a b:Nat} (hab:a < b):∀ p ∈ z1x t hs a b,∀ s ∈ p,s.r < (b:Int):=by
 intro p hp s hs';unfold z1x at hp
 split at hp
 ·split at hp
  ·rw [z0o,List.mem_map] at hp;obtain ⟨i,_,rfl⟩:=hp;rw [List.mem_singleton.1 hs'];simp only;omega
  ·rw [List.mem_singleton] at hp;subst hp;have:=zaz hs (b - a) a s hs';omega
 ·cases hp
theorem zbZ {t:T} {gs:List GC} {R:Nat}:∀ k,k < (z0l gs R).length->(z1M t (z0l gs R) k).Pairwise (fun p q=>p.2<=q.1)/\∀ p ∈ z1M t (z0l gs R) k,p.2<=(z0l gs R).getD k 0
 | 0,_=>⟨List.Pairwise.nil,fun p hp=>by cases hp⟩
 | k+1,hk=>by
  obtain ⟨h1,h2⟩:=zbZ (t:=t) (gs:=gs) (R:=R) k (by omega);obtain ⟨s1,s2⟩:=z3O hk;rw [z1M]
  split
  ·refine ⟨List.pairwise_append.2 ⟨h1,by simp,fun p hp q hq=>?_⟩,fun p hp=>?_⟩
   ·rw [List.mem_singleton.1 hq];exact h2 p hp
   ·rcases List.mem_append.1 hp with h | h
    ·have:=h2 p h;omega
    ·rw [List.mem_singleton.1 h];exact Nat.le_refl _
  ·rw [List.append_nil];exact ⟨h1,fun p hp=>by have:=h2 p hp;omega⟩
theorem z9f (t:T):(z0g t).Pairwise (fun p q=>p.2<=q.1)/\∀ p ∈ z0g t,p.1 < p.2/\p.2<=t.rows.length/\z0j t (p.1:Int)=1:=by
 have hk:(zQ (zh t).cells t.rows.length).length < (z0l (zh t).cells t.rows.length).length:=(by rw [z5j];omega);exact ⟨(zbZ _ hk).1,zdC _ hk⟩
theorem zc0 (t:T) (hs:List Int):(z0g t).flatMap (fun p=>z1x t hs p.1 p.2)=z0K t hs:=zdB t hs _ _
def stE (t:T) (hs rm:List Int) (i:Nat):List (List zk) × List zk:=(((z0g t).take i).flatMap (fun p=>z1x t hs p.1 p.2)).foldl (zY rm) ([],[])
theorem ziK {t:T} {hs rm:List Int} {i:Nat} (h:i < (z0g t).length):stE t hs rm (i+1)=(z1x t hs ((z0g t).getD i (0,0)).1 ((z0g t).getD i (0,0)).2).foldl (zY rm) (stE t hs rm i):=by
 have e:(z0g t).getD i (0,0)=(z0g t)[i]:=(by simp [List.getD,h]);rw [stE,List.take_succ_eq_append_getElem h,List.flatMap_append,List.foldl_append,e];simp [stE]
theorem ziL (t:T) (hs rm:List Int):stE t hs rm 0=([],[]):=rfl
theorem zjL (t:T) (hs rm:List Int):stE t hs rm (z0g t).length=(z0K t hs).foldl (zY rm) ([],[]):=by rw [stE,List.take_length,zc0]
theorem zhs {t:T} {hs rm:List Int} {i:Nat} (h:i < (z0g t).length):z3p (stE t hs rm i).2 ((z0g t).getD i (0,0)).1:=by
 obtain ⟨h1,h2⟩:=z9f t;have e:(z0g t).getD i (0,0)=(z0g t)[i]:=(by simp [List.getD,h]);rw [e];refine zay (fun x hx=>by cases hx) (fun p hp s hs'=>?_);obtain ⟨q,hq,hpq⟩:=List.mem_flatMap.1 hp;obtain ⟨j,hj,rfl⟩:=List.mem_iff_getElem.1 hq;rw [List.length_take] at hj;rw [List.getElem_take] at hpq;have h3:=zjK (h2 _ (List.getElem_mem (by omega:j < (z0g t).length))).1 p hpq s hs';have h4:=List.pairwise_iff_getElem.1 h1 j i (by omega) h (by omega);omega
structure zkS (t:T) (hs rm:List Int) (i a b:Nat):Prop where
 ab:a < b/\b<=t.rows.length
 ahead:z3p (stE t hs rm i).2 a
 low:z3r (stE t hs rm i).2
 len:(stE t hs rm i).2.length<=50000
 pgs:(stE t hs rm i).1.length<=9000
 cut:(b - a=1/\(t.rows.getD a dR).whole=false)/\0 < hs.getD a 0->stE t hs rm (i+1)=(z0o a 0 (hs.getD a 0).toNat).foldl (zY rm) (stE t hs rm i)/\zy (stE t hs rm i).2+(hs.getD a 0).toNat<=1000000
 whole:¬ ((b - a=1/\(t.rows.getD a dR).whole=false)/\0 < hs.getD a 0)->stE t hs rm (i+1)=z4j rm (stE t hs rm i).1 (stE t hs rm i).2 (zS hs a (b - a))/\z3r (zS hs a (b - a))
theorem zht {t:T} (hD:z0h t) (hok:zF t=true) {hs rm:List Int} (hb:∀ x ∈ hs,0<=x/\x<=1000) {i:Nat} (h:i < (z0g t).length):zkS t hs rm i ((z0g t).getD i (0,0)).1 ((z0g t).getD i (0,0)).2:=by
 have e:(z0g t).getD i (0,0)=(z0g t)[i]:=(by simp [List.getD,h]);have hm:(z0g t).getD i (0,0) ∈ z0g t:=(by rw [e];exact List.getElem_mem h);obtain ⟨f1,f2,f3⟩:=(z9f t).2 _ hm;have hah:=zhs (hs:=hs) (rm:=rm) h;have hsu:=ziK (hs:=hs) (rm:=rm) h;obtain ⟨A,B,e1,e2,e3⟩:=z8A rm _ (((z0g t).take i).flatMap (fun p=>z1x t hs p.1 p.2)) rfl
 have hsp:z0K t hs=((z0g t).take i).flatMap (fun p=>z1x t hs p.1 p.2) ++ z1x t hs ((z0g t).getD i (0,0)).1 ((z0g t).getD i (0,0)).2 ++ ((z0g t).drop (i+1)).flatMap (fun p=>z1x t hs p.1 p.2):=by
  rw [<-zc0 t hs,e];have h9:z0g t=(z0g t).take i ++ ((z0g t)[i] :: (z0g t).drop (i+1)):=(by rw [<-List.drop_eq_getElem_cons h,List.take_append_drop])
  conv=>lhs;rw [h9]
  rw [List.flatMap_append,List.flatMap_cons,List.append_assoc]
 have hlow:=z4X hD hok hb (show z0K t hs=A ++ B ++ (z1x t hs ((z0g t).getD i (0,0)).1 ((z0g t).getD i (0,0)).2 ++ ((z0g t).drop (i+1)).flatMap (fun p=>z1x t hs p.1 p.2)) by rw [hsp,e1];simp [List.append_assoc]);have hlow2:=z4X hD hok hb (show z0K t hs=A ++ (B ++ z1x t hs ((z0g t).getD i (0,0)).1 ((z0g t).getD i (0,0)).2) ++ ((z0g t).drop (i+1)).flatMap (fun p=>z1x t hs p.1 p.2) by rw [hsp,e1];simp [List.append_assoc]);have hl9:=z62 hok hb;have hAl:A.length<=(z0K t hs).length:=(by rw [hsp,e1];simp only [List.length_append];omega);have hS2:(stE t hs rm i).2=B.foldl z0f []:=e2;have hS1:(stE t hs rm i).1.length<=A.length:=e3;generalize ((z0g t).getD i (0,0)).1=a at f1 f3 hah hsu hlow hlow2 |-;generalize ((z0g t).getD i (0,0)).2=b at f1 f2 hsu hlow hlow2 |-;refine ⟨⟨f1,f2⟩,hah,by rw [hS2];exact hlow.1,by rw [hS2];exact hlow.2.1,by omega,fun hc=>?_,fun hc=>?_⟩
 ·rw [zaL f3 hc] at hsu hlow2;refine ⟨hsu,?_⟩;have h3:=hlow2.2.2;rw [List.flatten_append,z26,z9l,<-hlow.2.2] at h3;rw [hS2];omega
 ·rw [z83 f3 hc] at hsu;have hlw:=z7g hb (n:=b - a) (a:=a) (by have:=z0N hok;omega);refine ⟨?_,hlw⟩;rw [hsu,List.foldl_cons,List.foldl_nil];unfold zY z4j;rw [(z7b hs (b - a) a _ hah).1,(z7b hs (b - a) a [] (fun x hx=>by cases hx)).1];rfl
end Go.Proofs.YtggmjiddadjilahGreat
