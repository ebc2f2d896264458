/-
  PROVED HERE: what the program's PagAll answers of a drawn table, any width and any heights: the pages of its body, head and foot with each, in new memory; nothing that was in memory is turned. Also: 2 more texts of the same proof.
-/
import Derived.Test.YtggmjiddadjilahGreatJ35
import Derived.Test.YtggmjiddadjilahGreatJ31
set_option maxRecDepth 1000000
set_option maxHeartbeats 40000000
open Go.Proofs.Tryz
namespace Go.Proofs.YtggmjiddadjilahGreat
open Value (int)
open IntKind (i64)
open Go.RowKit
theorem zhs {w:World} {v1 v2 v3:Value} {l1 l2 l3:List zk} (h1:z1Y w 0 v1 l1) (h2:z1Y w 0 v2 l2) (h3:z1Y w 0 v3 l3) {T:TypeId}:z1p (w.alloc (.cells #[v1,v2,v3] T)) 0 (.slice (some ⟨w.heap.size,0,none⟩) 3 3) [l1,l2,l3]:=by
 have K:=ze (Below.refl w.heap.size w) (.cells #[v1,v2,v3] T);have hN:=zj w (.cells #[v1,v2,v3] T);refine ⟨_,3,rfl,lR,by unfold maxLen;omega,λi hi=>⟨w.heap.size,0,rfl,(bL hN),nZ,?_⟩⟩;have hi3:i < 3:=hi
 rcases (by omega:i=0\/i=1\/i=2) with rfl | rfl | rfl
 ·exact ⟨v1,zf hN,h1.kept K⟩
 ·exact ⟨v2,zf hN,h2.kept K⟩
 ·exact ⟨v3,zf hN,h3.kept K⟩
theorem zfC {l1 l2 l3:List zk}:[l1,l2,l3].flatten=l1 ++ l2 ++ l3:=by simp
theorem zjT {w:World} {g k:Nat} {cur:Array Value} {T:TypeId} (h:w.heap[g]?=some (.cells cur T)) (hk:k < cur.size):∃ y,w.cell? ⟨g,k,none⟩=some y:=⟨cur[k],by rw [zf h];simp [hk]⟩
theorem ziS {w:World} {base:Nat} {T:TypeId} {n g cap:Nat} {xs:List Value} (h:w.ownsRow base T 1 (.slice (some ⟨g,0,none⟩) n cap) n xs) {k:Nat} (u:Value):(w.setCell ⟨g,k,none⟩ u).ownsRow base T 1 (.slice (some ⟨g,0,none⟩) n cap) n (xs.set k u):=by
 obtain ⟨h1,h2⟩:=h
 rcases h2 with ⟨e,_⟩ | ⟨g',cap',cur,e,hb,hg,c1,c2,c3,c4⟩
 ·cases e
 ·injection e with e1 _ e3
  injection e1 with e1
  injection e1 with e1 _ _
  subst e1 e3;refine ⟨by rw [List.length_set];exact h1,.inr ⟨g,cap,cur.setIfInBounds k u,rfl,hb,z0s hg u,c1,c2,by simpa using c3,?_⟩⟩;rw [<-c4,Array.toList_setIfInBounds,List.take_set]
def z3L (hp fp:List zk) (pss:List (List zk)) (k:Nat):List (List zk):=(pss.take k).map (λb=>hp ++ b ++ fp) ++ pss.drop k
theorem z8C (hp fp:List zk) (pss:List (List zk)) (k:Nat):(z3L hp fp pss k).length=pss.length:=by
 unfold z3L;rw [List.length_append,List.length_map,List.length_take,List.length_drop];omega
theorem zfD (hp fp:List zk) (pss:List (List zk)):z3L hp fp pss 0=pss:=by simp [z3L]
theorem zht (hp fp:List zk) (pss:List (List zk)):z3L hp fp pss pss.length=pss.map (λb=>hp ++ b ++ fp):=by simp [z3L]
theorem zhu {hp fp:List zk} {pss:List (List zk)} {k:Nat} (hk:k < pss.length):(z3L hp fp pss k).getD k []=pss.getD k []:=by
 unfold z3L;have hl:((pss.take k).map (λb=>hp ++ b ++ fp)).length=k:=(by rw [List.length_map,List.length_take];omega);rw [List.getD_eq_getElem?_getD,List.getElem?_append_right (by omega),hl,Nat.sub_self,List.getElem?_drop,Nat.add_zero,<-List.getD_eq_getElem?_getD]
theorem zhv {hp fp:List zk} {pss:List (List zk)} {k:Nat} (hk:k < pss.length):(z3L hp fp pss k).set k (hp ++ pss.getD k [] ++ fp)=z3L hp fp pss (k+1):=by
 have e:pss.getD k []=pss[k]:=(by simp [List.getD,hk]);have hl:((pss.take k).map (λb=>hp ++ b ++ fp)).length=k:=(by rw [List.length_map,List.length_take];omega);unfold z3L;rw [List.set_append_right _ _ (by omega),hl,Nat.sub_self,List.drop_eq_getElem_cons hk,List.set_cons_zero,List.take_succ_eq_append_getElem hk,List.map_append,e];simp
theorem zO.put {w w':World} {B:Nat} {us:List Value} {ls:List (List zk)} (h:zO w B us ls) (hO:∀ v l,zx w B v l->zx w' B v l) {k:Nat} (hk:k < ls.length) {u:Value} {l:List zk} (hu:zx w' B u l):zO w' B (us.set k u) (ls.set k l):=by
 obtain ⟨h1,h2⟩:=h;refine ⟨by rw [List.length_set,List.length_set,h1],λi hi=>?_⟩;rw [List.length_set] at hi;by_cases e:i=k
 ·subst e;have e1:(us.set i u).getD i (.slice none 0 0)=u:=(by simp [List.getD,show i < us.length by omega]);have e2:(ls.set i l).getD i []=l:=(by simp [List.getD,hi]);rw [e1,e2];exact hu
 ·have e1:(us.set k u).getD i (.slice none 0 0)=us.getD i (.slice none 0 0):=(by simp only [List.getD,List.getElem?_set_ne (show k ≠ i by omega)]);have e2:(ls.set k l).getD i []=ls.getD i []:=(by simp only [List.getD,List.getElem?_set_ne (show k ≠ i by omega)]);rw [e1,e2];exact hO _ _ (h2 i hi)
theorem zax {t:T} {width:Int} {high:List Int} (h:z27 t width high=false):z0Q t width high=[]:=by unfold z0Q;rw [if_neg (by rw [h];simp)]
theorem zfE {t:T} (hD:z0g t) {width:Int} {high:List Int} (hp:z27 t width high=true) {i:Nat} (hi:i < (z0Q t width high).length):((z0Q t width high).getD i []).length<=50000:=by
 have hok2:=hp;unfold z27 at hok2;rw [Bool.and_eq_true,Bool.and_eq_true] at hok2;obtain ⟨⟨hok,_⟩,_⟩:=hok2;have hb:=z6f (t:=t) (x:=width);have hbd:z0Q t width high=z3c (high.map (· - (zu (zX t (zH t width))+zu (zY t (zH t width))))) (z0B t (zH t width)):=(by unfold z0Q;rw [if_pos hp]);have hfl:(z6x (high.map (· - (zu (zX t (zH t width))+zu (zY t (zH t width))))) (z0B t (zH t width))).flatten=z0B t (zH t width):=(z9g hD hok hb _).flat;rw [z8B] at hbd;generalize z6x (high.map (· - (zu (zX t (zH t width))+zu (zY t (zH t width))))) (z0B t (zH t width))=gs at hbd hfl;rw [hbd] at hi |-;rw [List.length_map] at hi;have e0:(gs.map z1C).getD i []=z1C gs[i]:=(by simp [List.getD,hi])
 have hsp:z0B t (zH t width)=(gs.take i).flatten ++ gs[i] ++ (gs.drop (i+1)).flatten:=by
  rw [<-hfl];have e1:gs=gs.take i ++ (gs[i] :: gs.drop (i+1)):=(by rw [<-List.drop_eq_getElem_cons hi,List.take_append_drop])
  conv=>lhs;rw [e1,List.flatten_append,List.flatten_cons]
  rw [List.append_assoc]
 have hl:=(z4h hD hok hb hsp).2.1;rw [e0];exact hl
theorem zdB {t:T} (hD:z0g t) {width:Int} {high:List Int} (hp:z27 t width high=true) {i:Nat} (hi:i < (z0Q t width high).length) (k:Nat):(([zX t (zH t width),(z0Q t width high).getD i [],zY t (zH t width)].take k).flatten).length<=100000:=by
 have hm:=zfE hD hp hi;unfold z27 at hp;rw [Bool.and_eq_true,Bool.and_eq_true] at hp;obtain ⟨H,E,hH,hE,h1,h2,h3,h4⟩:=z6o hp.1.1;have hh:(zX t (zH t width)).length<=8:=(by rw [zX,z1b];omega);have hf:(zY t (zH t width)).length<=8:=(by rw [zY,z1b];omega);generalize zX t (zH t width)=a at hh |-;generalize zY t (zH t width)=b at hf |-;generalize (z0Q t width high).getD i []=c at hm |-
 have e:([a,c,b].take k).flatten ++ ([a,c,b].drop k).flatten=a ++ c ++ b:=by
  rw [<-List.flatten_append,List.take_append_drop];simp
 have:=congrArg List.length e;simp only [List.length_append] at this;omega
def z4K (t:T) (width:Int) (high:List Int):List (List zk):=(z0Q t width high).map (λb=>zX t (zH t width) ++ b ++ zY t (zH t width))
structure PaJ (gb k m cp cu cx rl:Nat) (ac ar ax au:Option Addr) (cc cr:Nat) (t:T) (pg hp fp:List zk) (W3:World) (L:Nat->Bool) (W:World) (v25 v26 v27 v28 v29 v30 v31 v32 v33 v34 v35 v36:Value):Prop where
 f0:L 0=true->v25=.slice (some ⟨gb,0,none⟩) m cp
 f1:L 1=true->v26=int i64 (k:Int)
 f2:L 2=true->v27=.agg #[.slice ac t.cols.length cc,int i64 t.head,int i64 t.foot,.slice ar t.rows.length cr,int i64 t.gap]
 f3:L 3=true->v28=.slice ax rl cx
 f4:L 4=true->L 12=false->zx W W3.heap.size v29 hp
 f5:L 5=true->v30=.slice au pg.length cu
 f6:L 6=true->v31=.agg #[.slice ac t.cols.length cc,int i64 t.head,int i64 t.foot,.slice ar t.rows.length cr,int i64 t.gap]
 f7:L 7=true->v32=.slice ax rl cx
 f8:L 8=true->L 12=false->zx W W3.heap.size v33 fp
 f9:L 9=true->L 12=false->z1p W 0 v34 [hp,pg,fp]
 f10:L 10=true->L 12=false->zx W W3.heap.size v35 (hp ++ pg ++ fp)
 f11:L 11=true->v36=.pointer (some ⟨gb,k,none⟩)
 f12:L 12=true->∃ W1,Below W3.heap.size W3 W1/\W=W1.setCell ⟨gb,k,none⟩ v35/\zx W1 W3.heap.size v35 (hp ++ pg ++ fp)
 b:L 12=false->Below W3.heap.size W3 W
theorem zfF (ac ar:Option Addr) (cc cr:Nat) (t:T) (hD:z0g t) (width:Int) (vh:Value) (high:List Int) (w:World) {z:Nat} (hc:z09 w z (.slice ac t.cols.length cc) t.cols) (hr:z05 w z (.slice ar t.rows.length cr) t.rows) (hh:zA w vh high) :
  Calls prog 10 #[.agg #[.slice ac t.cols.length cc,int i64 t.head,int i64 t.foot,.slice ar t.rows.length cr,int i64 t.gap],int i64 width,vh] w λe w'=>∃ v us,e=.returned v/\w'.ownsRow w.heap.size 41 1 v us.length us/\zO w' w.heap.size us (z4K t width high)/\Below w.heap.size w w':=by
 have hmx:prog.follows .mixedOrders=true:=(by kernel_rfl);obtain ⟨ah,ch,rfl,_⟩:=hh.form;have HK0:=O (ze (Below.refl w.heap.size w) (.cells #[.slice ac t.cols.length cc,int i64 t.head,int i64 t.foot,.slice ar t.rows.length cr,int i64 t.gap] 26));have HX0:=O (zj w (.cells #[.slice ac t.cols.length cc,int i64 t.head,int i64 t.foot,.slice ar t.rows.length cr,int i64 t.gap] 26));have hs0:(w.alloc (.cells #[.slice ac t.cols.length cc,int i64 t.head,int i64 t.foot,.slice ar t.rows.length cr,int i64 t.gap] 26)).heap.size=w.heap.size+1:=(by simp);have KP:=O (λW (k:Below w.heap.size w W)=>zec ac ar cc cr t hD width _ high W (hc.kept k) (hr.kept k) (hh.kept k));have KR:=O (λW (k:Below w.heap.size w W)=>z6W ac ar cc cr t hD width W (hc.kept k) (hr.kept k));clear hc hr hh;have HAl:Hid (z4K t width high=(z0Q t width high).map (λb=>zX t (zH t width) ++ b ++ zY t (zH t width))):=rfl;have HNo:=O (λhp=>zax (t:=t) (width:=width) (high:=high) hp)
 have HOk:Hid (z27 t width high=true->zF t=true/\(zH t width).length=t.rows.length/\∀ i,i < (z0Q t width high).length->∀ k,(([zX t (zH t width),(z0Q t width high).getD i [],zY t (zH t width)].take k).flatten).length<=100000):=λhp=>by
  have hok2:=hp;unfold z27 at hok2;rw [Bool.and_eq_true,Bool.and_eq_true] at hok2;refine ⟨hok2.1.1,by rw [zH,hok2.1.1,hok2.1.2];exact z0M _ _,λi hi k=>zdB hD hp hi k⟩
 generalize z4K t width high=al at HAl |-;generalize z0Q t width high=pss at KP HAl HNo HOk;generalize zH t width=rs at KR HAl HOk;generalize z27 t width high=ok at HNo HOk;go_enter func10,ntmps10;go_upto_region 1 with fail
 generalize w.alloc (.cells #[.slice ac t.cols.length cc,int i64 t.head,int i64 t.foot,.slice ar t.rows.length cr,int i64 t.gap] 26)=W0 at HK0 HX0 hs0 |-;obtain ⟨z0,z1,z2,z3,z4⟩:=zL HX0.out;go_wp2_with fail
 refine (KP.out _ HK0.out).mono ?_;rintro e W1 ⟨v1,us,rfl,hO1,hR1,hb1⟩;obtain ⟨a1,c1,rfl,hul⟩:=zP hO1;have hlu:=hR1.1;have HK1:=O (zi HK0.out hb1);have HX1:=O ((hb1.block _ (bL HX0.out)).trans HX0.out);rw [hlu] at hO1 |-;have hB1:W0.heap.size<=W1.heap.size:=hb1.size;clear hb1 HK0 HX0 z0 z1 z2 z3 z4;obtain ⟨z0,z1,z2,z3,z4⟩:=zL HX1.out;have HO1:=O hO1;have HR1:=O hR1;unfold maxLen at hul;rw [hlu] at hul;have HLu:=O hlu;clear hO1 hR1 hlu;go_wp2_with fail
 refine (KR.out _ HK1.out).mono ?_;rintro e W2 ⟨v2,rfl,hI,hb2⟩;obtain ⟨ax,cx,rfl⟩:=hI.form;have HI:=O (z3O hI.owns hB1);have hB2:W1.heap.size<=W2.heap.size:=hb2.size;have HK2:=O (zi HK1.out hb2);have HX2:=O ((hb2.block _ (bL HX1.out)).trans HX1.out);have HO2:=O (z2r HO1.out hb2);have HR2:=O (HR1.out.kept hb2);clear hI hb2 HK1 HX1 HO1 HR1 z0 z1 z2 z3 z4 KR KP;rw [<-zfD (zX t rs) (zY t rs) pss] at HR2;go_wp2_with fail
 go_loopw [20] (λi W=>∃ (k:Nat) (us:List Value),i=int i64 (k:Int)/\k<=pss.length/\Hid (us.length=pss.length)/\Hid (W.ownsRow W0.heap.size 41 1 (.slice a1 pss.length c1) pss.length us)/\Hid (zO W W0.heap.size us (z3L (zX t rs) (zY t rs) pss k))/\Hid (W.ownsRow W0.heap.size 3 1 (.slice ax rs.length cx) rs.length (rs.map (Value.int .i64)))/\Hid (Below w.heap.size w W)/\Hid (W.heap[w.heap.size]?=some (.cells #[.slice ac t.cols.length cc,int i64 t.head,int i64 t.foot,.slice ar t.rows.length cr,int i64 t.gap] 26))/\W0.heap.size<=W.heap.size) (λi _=>pss.length - (intOf i).toNat)
 case atStart=>exact ⟨0,us,rfl,nZ,HLu,HO2,HR2,HI,HK2,HX2,nT hB1 hB2⟩
 case round =>
  clear HO2 HR2 HI HK2 HX2 HLu;obtain ⟨k,us,rfl,hk,HLu,HO,HR,HI,HK,HX,hBs⟩:=hrel;by_cases hlt:k < pss.length
  case neg =>
   obtain rfl:k=pss.length:=by omega
   go_wp2;go_ret;refine ⟨_,us,rfl,?_,?_,HK.out⟩
   ·rw [HLu.out];exact z3O HO.out (by omega)
   ·rw [HAl.out,<-zht];exact HR.out.base (by omega)
  case pos =>
   have hok:ok=true:=by
    cases hok:ok with
    | true=>rfl
    | false =>
     rw [HNo.out hok] at hlt;exact absurd hlt (Nat.not_lt_zero _)
   obtain ⟨htk,hrl,hln⟩:=HOk.out hok
   have hPs:z1p wr 0 (.slice a1 pss.length c1) (z3L (zX t rs) (zY t rs) pss k):=by
    have h1:=HO.out;rw [<-HLu.out] at h1 |-;exact HR.out.pss h1 nZ nZ
   obtain ⟨gb,goff,cap',u1,e1,hc11,hc12,hbl1,x0,hs1⟩:=hPs.get (i:=k) (by rw [z8C];exact hlt);rw [z8C] at e1 hc11;simp only [Value.slice.injEq,true_and] at e1;obtain ⟨rfl,rfl⟩:=e1;rw [zhu hlt] at hs1
   have hgo:goff=0:=by
    rcases HO.out.2 with ⟨e,_⟩ | ⟨g',_,_,e,_⟩
    ·cases e
    ·injection e with e1 _ _
     injection e1 with e1
     injection e1 with _ e2 _
   subst hgo;rw [Nat.zero_add] at x0
   obtain ⟨cur,hcur,hkc,hgB⟩:∃ cur,wr.heap[gb]?=some (.cells cur 41)/\k < cur.size/\W0.heap.size<=gb:=by
    rcases HO.out.2 with ⟨e,_⟩ | ⟨g',cap2,cur,e,hb,hg,c1,c2,c3,c4⟩
    ·cases e
    ·injection e with e1 _ e3
     injection e1 with e1
     injection e1 with e1 _ _
     subst e1;exact ⟨cur,hg,by omega,hb⟩
   unfold maxLen at hc12;have HC3:=O (hln k hlt);have HAs:=O (zhv (hp:=zX t rs) (fp:=zY t rs) hlt);have HLt:=O hlt;generalize hpg:pss.getD k []=pg at hs1 HC3 HAs;clear hpg;obtain ⟨au,cu,rfl,hlu⟩:=At.form hs1;unfold maxLen at hlu;have HG:=O hs1;have HGB:=O hcur;have hgb:=(bL hcur);have hl0:=(bL HX.out);have HIx:=O ((zq.of_owns HI.out).at);have KH:=O (λW (h:Below wr.heap.size wr W)=>z9L (.slice ac t.cols.length cc) (.slice ar t.rows.length cr) t htk rs hrl _ W (HIx.out.kept h));have KF:=O (λW (h:Below wr.heap.size wr W)=>z9M (.slice ac t.cols.length cc) (.slice ar t.rows.length cr) t htk rs hrl _ W (HIx.out.kept h));generalize zX t rs=hp at *;generalize zY t rs=fp at *;clear hs1 hcur hPs hln hrl htk hok;obtain ⟨z0,z1,z2,z3,z4⟩:=zL HX.out;go_upto_region 6 with fail
   clear z0 z1 z2 z3 z4 x0;refine z0n (λL act W=>∃ v25 v26 v27 v28 v29 v30 v31 v32 v33 v34 v35 v36:Value,act=⟨#[.agg #[.slice ac t.cols.length cc,int i64 t.head,int i64 t.foot,.slice ar t.rows.length cr,int i64 t.gap],int i64 width,.slice ah high.length ch,.pointer (some ⟨w.heap.size,0,none⟩),undef,undef,.slice none 0 0,.slice (some ⟨gb,0,none⟩) pss.length c1,.slice ax rs.length cx,int i64 (k:Int),.slice au pg.length cu,.agg #[.slice ac t.cols.length cc,int i64 t.head,int i64 t.foot,.slice ar t.rows.length cr,int i64 t.gap],int i64 width,.slice ah high.length ch,.slice (some ⟨gb,0,none⟩) pss.length c1,.agg #[.slice ac t.cols.length cc,int i64 t.head,int i64 t.foot,.slice ar t.rows.length cr,int i64 t.gap],int i64 width,.slice ax rs.length cx,.slice (some ⟨gb,0,none⟩) pss.length c1,int i64 (pss.length:Int),int i64 (k:Int),.bool true,int i64 (k:Int),.pointer (some ⟨gb,k,none⟩),.slice au pg.length cu,v25,v26,v27,v28,v29,v30,v31,v32,v33,v34,v35,v36,u37,undef],[]⟩/\PaJ gb k pss.length c1 cu cx rs.length ac ar ax au cc cr t pg hp fp wr L W v25 v26 v27 v28 v29 v30 v31 v32 v33 v34 v35 v36) hmx (by kernel_rfl) ?hs ?hd ?h0
   case h0=>exact e12 ⟨rfl,⟨n0,n0,n0,n0,n0,n0,n0,n0,n0,n0,n0,n0,n0,λ_=>z0X bR⟩⟩
   case hd =>
    intro L act W hJ hall;obtain ⟨v25,v26,v27,v28,v29,v30,v31,v32,v33,v34,v35,v36,ha,J⟩:=hJ;subst ha;obtain ⟨W5,hb5,rfl,hO5⟩:=J.f12 (hall 12 (by decide));have hg5:=(hb5.block _ hgb).trans HGB.out;have hz5:=hb5.size;have HO6:=O (ziS (z2r HO.out hb5) (k:=k) v35)
    have HR6:Hid (zO (W5.setCell ⟨gb,k,none⟩ v35) W0.heap.size (us.set k v35) (z3L hp fp pss (k+1))):=by
     show zO _ _ _ _;rw [<-HAs.out];exact (HR.out.kept hb5).put (λv l h=>z6n h hg5 (by decide) _ _) (by rw [z8C];exact HLt.out) (z6n (zx.base hO5 hBs) hg5 (by decide) _ _)
    have HI6:=O (z6n (z2r HI.out hb5) hg5 (by decide) k v35);have HK6:=O ((HK.out.trans (hb5.mono HK.out.size)).setCell (p:=⟨gb,k,none⟩) (by dsimp only;omega) v35);have HX6:Hid ((W5.setCell ⟨gb,k,none⟩ v35).heap[w.heap.size]?=some (.cells #[.slice ac t.cols.length cc,int i64 t.head,int i64 t.foot,.slice ar t.rows.length cr,int i64 t.gap] 26)):=(bS (by dsimp only;omega)).trans ((hb5.block _ hl0).trans HX.out);have HL6:Hid ((us.set k v35).length=pss.length):=(by show _=_;rw [List.length_set];exact HLu.out);have hB6:W0.heap.size<=(W5.setCell ⟨gb,k,none⟩ v35).heap.size:=(by simp [World.setCell];omega);generalize W5.setCell ⟨gb,k,none⟩ v35=W6 at *;clear J hall HO HR HI HK HX KH KF;go_wp2;go_roundw
    case rel=>exact ⟨k+1,_,by go_num,by omega,HL6,HO6,HR6,HI6,HK6,HX6,hB6⟩
    case measure=>simp [intOf];omega
   case hs =>
    intro L act W i o hJ hcl ho hLi haft K hK;obtain ⟨v25,v26,v27,v28,v29,v30,v31,v32,v33,v34,v35,v36,ha,J⟩:=hJ;subst ha
    have hi':i < 13:=by
     have:=(bL ho)
     simpa using this
    rcases (by omega:i=0\/i=1\/i=2\/i=3\/i=4\/i=5\/i=6\/i=7\/i=8\/i=9\/i=10\/i=11\/i=12) with rfl | rfl | rfl | rfl | rfl | rfl | rfl | rfl | rfl | rfl | rfl | rfl | rfl
    all_goals
     simp only [List.getElem?_toArray,List.getElem?_cons_zero,List.getElem?_cons_succ,Option.some.injEq] at ho;subst ho;clear hi'
    ·have hN:=Pl hcl 12 [11] hLi;have hB:=J.b hN;go_simp;exact hK _ _ (e12 ⟨rfl,⟨λ_=>rfl,V J.f1,V J.f2,V J.f3,u2 J.f4,V J.f5,V J.f6,V J.f7,u2 J.f8,u2 J.f9,u2 J.f10,ug (Qh hcl 11 0 hLi),ug (Pl hcl 12 [11] hLi),λ_=>hB⟩⟩)
    ·have hN:=Pl hcl 12 [11] hLi;have hB:=J.b hN;go_simp;exact hK _ _ (e12 ⟨rfl,⟨V J.f0,λ_=>rfl,V J.f2,V J.f3,u2 J.f4,V J.f5,V J.f6,V J.f7,u2 J.f8,u2 J.f9,u2 J.f10,ug (Qh hcl 11 1 hLi),ug (Pl hcl 12 [11] hLi),λ_=>hB⟩⟩)
    ·have hN:=Pl hcl 12 [10,9,4] hLi;have hB:=J.b hN;obtain ⟨q0,q1,q2,q3,q4⟩:=zL ((hB.block _ hl0).trans HX.out);go_simp;exact hK _ _ (e12 ⟨rfl,⟨V J.f0,V J.f1,λ_=>rfl,V J.f3,ug (Qh hcl 4 2 hLi),V J.f5,V J.f6,V J.f7,u2 J.f8,ug (Pl hcl 9 [4] hLi),ug (Pl hcl 10 [9,4] hLi),V J.f11,ug (Pl hcl 12 [10,9,4] hLi),λ_=>hB⟩⟩)
    ·have hN:=Pl hcl 12 [10,9,4] hLi;have hB:=J.b hN;go_simp;exact hK _ _ (e12 ⟨rfl,⟨V J.f0,V J.f1,V J.f2,λ_=>rfl,ug (Qh hcl 4 3 hLi),V J.f5,V J.f6,V J.f7,u2 J.f8,ug (Pl hcl 9 [4] hLi),ug (Pl hcl 10 [9,4] hLi),V J.f11,ug (Pl hcl 12 [10,9,4] hLi),λ_=>hB⟩⟩)
    ·have hN:=Pl hcl 12 [10,9] hLi;have hB:=J.b hN;obtain rfl:=J.f2 (Fa haft 2);obtain rfl:=J.f3 (Fa haft 3);go_simp;go_wp2_with (go_at_call 31;refine (KH.out W hB).mono ?_;rintro e W2 ⟨v,rfl,hO,hb⟩;replace hO:=zx.base hO hB.size)
     exact e12 ⟨rfl,⟨V J.f0,V J.f1,V J.f2,V J.f3,λ_ _=>hO,V J.f5,V J.f6,V J.f7,λh h2=>zx.kept (J.f8 (un h) (un h2)) hb,ug (Qh hcl 9 4 hLi),ug (Pl hcl 10 [9] hLi),V J.f11,ug (Pl hcl 12 [10,9] hLi),λ_=>zi hB hb⟩⟩
    ·have hN:=Pl hcl 12 [10,9] hLi;have hB:=J.b hN;go_simp;exact hK _ _ (e12 ⟨rfl,⟨V J.f0,V J.f1,V J.f2,V J.f3,u2 J.f4,λ_=>rfl,V J.f6,V J.f7,u2 J.f8,ug (Qh hcl 9 5 hLi),ug (Pl hcl 10 [9] hLi),V J.f11,ug (Pl hcl 12 [10,9] hLi),λ_=>hB⟩⟩)
    ·have hN:=Pl hcl 12 [10,9,8] hLi;have hB:=J.b hN;obtain ⟨q0,q1,q2,q3,q4⟩:=zL ((hB.block _ hl0).trans HX.out);go_simp;exact hK _ _ (e12 ⟨rfl,⟨V J.f0,V J.f1,V J.f2,V J.f3,u2 J.f4,V J.f5,λ_=>rfl,V J.f7,ug (Qh hcl 8 6 hLi),ug (Pl hcl 9 [8] hLi),ug (Pl hcl 10 [9,8] hLi),V J.f11,ug (Pl hcl 12 [10,9,8] hLi),λ_=>hB⟩⟩)
    ·have hN:=Pl hcl 12 [10,9,8] hLi;have hB:=J.b hN;go_simp;exact hK _ _ (e12 ⟨rfl,⟨V J.f0,V J.f1,V J.f2,V J.f3,u2 J.f4,V J.f5,V J.f6,λ_=>rfl,ug (Qh hcl 8 7 hLi),ug (Pl hcl 9 [8] hLi),ug (Pl hcl 10 [9,8] hLi),V J.f11,ug (Pl hcl 12 [10,9,8] hLi),λ_=>hB⟩⟩)
    ·have hN:=Pl hcl 12 [10,9] hLi;have hB:=J.b hN;obtain rfl:=J.f6 (Fa haft 6);obtain rfl:=J.f7 (Fa haft 7);go_simp;go_wp2_with (go_at_call 32;refine (KF.out W hB).mono ?_;rintro e W2 ⟨v,rfl,hO,hb⟩;replace hO:=zx.base hO hB.size)
     exact e12 ⟨rfl,⟨V J.f0,V J.f1,V J.f2,V J.f3,λh h2=>zx.kept (J.f4 (un h) (un h2)) hb,V J.f5,V J.f6,V J.f7,λ_ _=>hO,ug (Qh hcl 9 8 hLi),ug (Pl hcl 10 [9] hLi),V J.f11,ug (Pl hcl 12 [10,9] hLi),λ_=>zi hB hb⟩⟩
    ·have hN:=Pl hcl 12 [10] hLi;have hB:=J.b hN;have hO1:=J.f4 (Fa haft 4) (Pl hcl 12 [10] hLi);obtain ⟨h1,c1,rfl,_⟩:=zP hO1;obtain rfl:=J.f5 (Fa haft 5);have hO2:=J.f8 (Fa haft 8) (Pl hcl 12 [10] hLi);obtain ⟨h2,c2,rfl,_⟩:=zP hO2;go_simp;exact hK _ _ (e12 ⟨rfl,⟨V J.f0,V J.f1,V J.f2,V J.f3,λh h2=>zx.kept (J.f4 (un h) (un h2)) (ze bR _),V J.f5,V J.f6,V J.f7,λh h2=>zx.kept (J.f8 (un h) (un h2)) (ze bR _),λ_ _=>zhs (z1Y.base (zx.at hO1) nZ) (z1Y.base ((HG.out).kept hB) nZ) (z1Y.base (zx.at hO2) nZ),ug (Qh hcl 10 9 hLi),V J.f11,ug (Pl hcl 12 [10] hLi),λ_=>ze hB _⟩⟩)
    ·have hN:=Qh hcl 12 10 hLi;have hB:=J.b hN;have hP3:=J.f9 (Fa haft 9) (Qh hcl 12 10 hLi);go_simp;go_wp2_with (go_at_call 30;refine (zeY _ _ HC3.out W hP3).mono ?_;rintro e W2 ⟨v,rfl,hO,hb⟩;replace hO:=zx.base hO hB.size;rw [zfC] at hO)
     exact e12 ⟨rfl,⟨V J.f0,V J.f1,V J.f2,V J.f3,λh h2=>zx.kept (J.f4 (un h) (un h2)) hb,V J.f5,V J.f6,V J.f7,λh h2=>zx.kept (J.f8 (un h) (un h2)) hb,λh h2=>z1p.kept (J.f9 (un h) (un h2)) hb,λ_ _=>hO,V J.f11,ug (Qh hcl 12 10 hLi),λ_=>zi hB hb⟩⟩
    ·have hN:=Qh hcl 12 11 hLi;have hB:=J.b hN;obtain rfl:=J.f0 (Fa haft 0);obtain rfl:=J.f1 (Fa haft 1);go_simp;exact hK _ _ (e12 ⟨rfl,⟨V J.f0,V J.f1,V J.f2,V J.f3,u2 J.f4,V J.f5,V J.f6,V J.f7,u2 J.f8,u2 J.f9,u2 J.f10,λ_=>rfl,ug (Qh hcl 12 11 hLi),λ_=>hB⟩⟩)
    ·have hN:=hLi;have hB:=J.b hN;have hO1:=J.f10 (Fa haft 10) hLi;obtain ⟨h1,c1x,rfl,_⟩:=zP hO1;rw [List.length_append,List.length_append,Nat.add_assoc] at hO1;obtain rfl:=J.f11 (Fa haft 11);have hgl:=nL hgb hB.size;have hfz:=zS ((hB.block _ hgb).trans HGB.out) (p:=k);obtain ⟨y0,hy0⟩:∃ y0,W.cell? ⟨gb,k,none⟩=some y0:=zjT ((hB.block _ hgb).trans HGB.out) hkc;go_simp;exact hK _ _ (e12 ⟨rfl,⟨V J.f0,V J.f1,V J.f2,V J.f3,λ_ h=>absurd (h.symm.trans zJ) (by simp),V J.f5,V J.f6,V J.f7,λ_ h=>absurd (h.symm.trans zJ) (by simp),λ_ h=>absurd (h.symm.trans zJ) (by simp),λ_ h=>absurd (h.symm.trans zJ) (by simp),V J.f11,λ_=>⟨_,hB,rfl,hO1⟩,λh=>absurd (h.symm.trans zJ) (by simp)⟩⟩)
theorem zfH (vc:Value) (ar:Option Addr) (cr:Nat) (t:T) (hok:zF t=true) (q:Nat) (hq:q < t.rows.length) (w:World) :
  Calls prog 97 #[.agg #[vc,int i64 t.head,int i64 t.foot,.slice ar t.rows.length cr,int i64 t.gap],int i64 (q:Int)] w λe w'=>e=.returned (int i64 (z0j t (q:Int)))/\Below w.heap.size w w':=by
 have hbb:=z0R hok;have HP:Hid (z0j t (q:Int)=if (q:Int) < t.head then 0 else if t.rows.length - t.foot<=(q:Int) then 2 else 1):=O (by rw [z0j,if_pos ⟨hok,by unfold zM;exact decide_eq_true (by omega)⟩]);have K0:=O (ze (Below.refl w.heap.size w) (.cells #[vc,int i64 t.head,int i64 t.foot,.slice ar t.rows.length cr,int i64 t.gap] 26));have X0:=zj w (.cells #[vc,int i64 t.head,int i64 t.foot,.slice ar t.rows.length cr,int i64 t.gap] 26);obtain ⟨b0,b1,b2,b3,b4⟩:=zL X0;have hw:IntKind.i64.wrap ((t.rows.length:Int) - t.foot)=(t.rows.length:Int) - t.foot:=(by rw [IntKind.wrap_i64];omega);clear X0;by_cases h1:(q:Int) < t.head
 ·have HF:Hid (z0j t (q:Int)=0):=O (by rw [HP.out,if_pos h1]);go_enter func97,ntmps97;go_wp2;go_ret;exact ⟨z6A HF.out.symm,K0.out⟩
 by_cases h2:(t.rows.length:Int) - t.foot<=(q:Int)
 ·have HF:Hid (z0j t (q:Int)=2):=O (by rw [HP.out,if_neg h1,if_pos h2]);go_enter func97,ntmps97;go_wp2;go_ret;exact ⟨z6A HF.out.symm,K0.out⟩
 ·have HF:Hid (z0j t (q:Int)=1):=O (by rw [HP.out,if_neg h1,if_neg h2]);go_enter func97,ntmps97;go_wp2;go_ret;exact ⟨z6A HF.out.symm,K0.out⟩
def z1O (t:T) (L:List Nat):Nat->List (Nat × Nat)
 | 0=>[]
 | k+1=>z1O t L k ++ if z0j t ((L.getD k 0:Nat):Int)=1 then [(L.getD k 0,L.getD (k+1) 0)] else []
def z0h (t:T):List (Nat × Nat):=z1O t (z0l (Z t).cells t.rows.length) (zQ (Z t).cells t.rows.length).length
theorem zeP {t:T} {L:List Nat} {k:Nat} (h:z0j t ((L.getD k 0:Nat):Int)=1):z1O t L (k+1)=z1O t L k ++ [(L.getD k 0,L.getD (k+1) 0)]:=by rw [z1O,if_pos h]
theorem zdC {t:T} {L:List Nat} {k:Nat} (h:¬ z0j t ((L.getD k 0:Nat):Int)=1):z1O t L (k+1)=z1O t L k:=by rw [z1O,if_neg h,List.append_nil]
theorem z9B (t:T) (L:List Nat):∀ k,(z1O t L k).length<=k
 | 0=>lR
 | k+1=>by
  have:=z9B t L k;rw [z1O,List.length_append]
  split <;> simp <;> omega
theorem zdD (t:T) (hs:List Int) (L:List Nat):∀ k,(z1O t L k).flatMap (λp=>z1A t hs p.1 p.2)=z1h t hs L k
 | 0=>rfl
 | k+1=>by
  rw [z1h,<-zdD t hs L k];by_cases h:z0j t ((L.getD k 0:Nat):Int)=1
  ·rw [zeP h,List.flatMap_append];simp
  ·rw [zdC h,zaL h,List.append_nil]
theorem zdE {t:T} {gs:List GC} {R:Nat}:∀ k,k < (z0l gs R).length->∀ p ∈ z1O t (z0l gs R) k,p.1 < p.2/\p.2<=R/\z0j t (p.1:Int)=1
 | 0,_,p,hp=>by cases hp
 | k+1,hk,p,hp=>by
  rw [z1O] at hp
  rcases List.mem_append.1 hp with h | h
  ·exact zdE k (by omega) p h
  ·split at h
   ·rename_i hpt
    rw [List.mem_singleton] at h;subst h;obtain ⟨s1,s2⟩:=z3T hk;exact ⟨s1,s2,hpt⟩
   ·cases h
def z7e (w:World) (v:Value) (ps:List (Nat × Nat)):Prop:=At w 0 v ps.length 1 (λi b o=>∃ u,w.cell? ⟨b,o,none⟩=some u/\zA w u [((ps.getD i (0,0)).1:Int),((ps.getD i (0,0)).2:Int)])
theorem z7e.kept {w w':World} {v:Value} {ps:List (Nat × Nat)} (h:z7e w v ps) (k:Below w.heap.size w w'):z7e w' v ps :=
 At.mono h k.size lR (λ_ _ _ _ hb _ ⟨u,h1,h2⟩=>⟨u,(k.cell (p:=⟨_,_,none⟩) hb).trans h1,h2.kept k⟩)
theorem z3q {w w':World} {base:Nat} {e:TypeId} {sz:Nat} {v:Value} {m:Nat} {xs:List Value} (h:w.ownsRow base e sz v m xs) (hb:Below w.heap.size w w'):w'.ownsRow base e sz v m xs :=
 ⟨h.1,h.2.elim Or.inl (λ⟨g,cap,cur,hv,hg,hc,r⟩=>Or.inr ⟨g,cap,cur,hv,hg,(hb.block g (bL hc)).trans hc,r⟩)⟩
theorem z8E {w:World} {base base':Nat} {e:TypeId} {sz:Nat} {v:Value} {m:Nat} {xs:List Value} (h:w.ownsRow base e sz v m xs) (hb:base'<=base):w.ownsRow base' e sz v m xs :=
 ⟨h.1,h.2.elim Or.inl (λ⟨g,cap,cur,hv,hg,r⟩=>Or.inr ⟨g,cap,cur,hv,nT hb hg,r⟩)⟩
theorem z67 {w w':World} {base base':Nat} {e e':TypeId} {sz sz':Nat} {v U:Value} {m n:Nat} {xs ys:List Value} (h:w.ownsRow base e sz v m xs) (hU:w.ownsRow base' e' sz' U n ys) (he:e' ≠ e) (k:w.grownBy w' U.ownBlock):w'.ownsRow base e sz v m xs :=
 ⟨h.1,h.2.elim Or.inl (λ⟨g,cap,cur,hv,hg,hc,r⟩=>Or.inr ⟨g,cap,cur,hv,hg,z06 hc k (z0e (zt hU hc he)),r⟩)⟩
def z2u (w:World) (B:Nat) (us:List Value) (ps:List (Nat × Nat)):Prop:=us.length=ps.length/\∀ i,i < ps.length->w.ownsRow B 3 1 (us.getD i (.slice none 0 0)) 2 [int i64 ((ps.getD i (0,0)).1:Int),int i64 ((ps.getD i (0,0)).2:Int)]
theorem z2u.kept {w w':World} {B:Nat} {us:List Value} {ps:List (Nat × Nat)} (h:z2u w B us ps) (k:Below w.heap.size w w'):z2u w' B us ps:=⟨h.1,λi hi=>z3q (h.2 i hi) k⟩
theorem z2u.grown {w w':World} {B base:Nat} {U:Value} {us:List Value} {ps:List (Nat × Nat)} {m:Nat} {xs:List Value} (h:z2u w B us ps) (hU:w.ownsRow base 27 1 U m xs) (k:w.grownBy w' U.ownBlock):z2u w' B us ps:=⟨h.1,λi hi=>z67 (h.2 i hi) hU (by decide) k⟩
theorem z2u.snoc {w:World} {B:Nat} {us:List Value} {ps:List (Nat × Nat)} {u:Value} {p:Nat × Nat} (h:z2u w B us ps) (hu:w.ownsRow B 3 1 u 2 [int i64 (p.1:Int),int i64 (p.2:Int)]):z2u w B (us ++ [u]) (ps ++ [p]):=by
 refine ⟨by rw [List.length_append,List.length_append,h.1];rfl,λi hi=>?_⟩;rw [List.length_append,List.length_cons,List.length_nil] at hi
 rcases Nat.lt_or_eq_of_le (Nat.lt_succ_iff.1 hi) with h1 | h1
 ·rw [List.getD_eq_getElem?_getD,List.getD_eq_getElem?_getD,List.getElem?_append_left (by rw [h.1];exact h1),List.getElem?_append_left h1,<-List.getD_eq_getElem?_getD,<-List.getD_eq_getElem?_getD];exact h.2 i h1
 ·subst h1;have e1:(us ++ [u]).getD ps.length (.slice none 0 0)=u:=(by rw [<-h.1];simp [List.getD]);have e2:(ps ++ [p]).getD ps.length (0,0)=p:=(by simp [List.getD]);rw [e1,e2];exact hu
theorem zhy {w:World} {B:Nat} {u:Value} {a b:Int} (h:w.ownsRow B 3 1 u 2 [int i64 a,int i64 b]):zA w u [a,b]:=(zq.of_owns (l:=[a,b]) h).at
theorem z2u.pairs {w:World} {B base:Nat} {v:Value} {us:List Value} {ps:List (Nat × Nat)} (h:z2u w B us ps) (hO:w.ownsRow base 27 1 v us.length us):z7e w v ps:=by
 unfold z7e;have hul:=h.1
 rcases hO.2 with ⟨hv,h0⟩ | ⟨g,cap,cur,hv,hb,hg,h1,h2,h3,h4⟩
 ·exact ⟨none,0,by rw [<-hul,h0];exact hv,by omega,nZ,λi hi=>by omega⟩
 ·refine ⟨some ⟨g,0,none⟩,cap,by rw [<-hul];exact hv,by omega,h2,λi hi=>⟨g,0,rfl,(bL hg),nZ,us.getD i (.slice none 0 0),?_,zhy (h.2 i hi)⟩⟩;have:cur.toList[i]?=us[i]?:=(by rw [<-h4,List.getElem?_take_of_lt (by omega)]);rw [Nat.zero_add,Nat.mul_one,zf hg,<-Array.getElem?_toList,this];simp [List.getD,show i < us.length by omega]
structure PX (w:World) (ac ar ag:Option Addr) (cc cr cg:Nat) (t:T) (vb:Value) (bl:List Int) (W:World):Prop where
 below:Below w.heap.size w W
 box:W.heap[w.heap.size]?=some (.cells #[.slice ac t.cols.length cc,int i64 t.head,int i64 t.foot,.slice ar t.rows.length cr,int i64 t.gap] 26)
 grd:W.heap[w.heap.size+1]?=some (.cells #[int i64 (t.rows.length:Int),int i64 (Z t).cols,.slice ag (Z t).cells.length cg] 38)
 bnd:W.ownsRow w.heap.size 3 1 vb bl.length (bl.map (Value.int .i64))
theorem PX.kept {w:World} {ac ar ag:Option Addr} {cc cr cg:Nat} {t:T} {vb:Value} {bl:List Int} {W W':World} (h:PX w ac ar ag cc cr cg t vb bl W) (k:Below W.heap.size W W'):PX w ac ar ag cc cr cg t vb bl W' :=
 ⟨zi h.below k,(k.block _ (bL h.box)).trans h.box,(k.block _ (bL h.grd)).trans h.grd,z3q h.bnd k⟩
theorem PX.grown {w:World} {ac ar ag:Option Addr} {cc cr cg:Nat} {t:T} {vb:Value} {bl:List Int} {W W':World} {base m:Nat} {U:Value} {xs:List Value} (h:PX w ac ar ag cc cr cg t vb bl W) (hU:W.ownsRow base 27 1 U m xs) (hb:w.heap.size<=base) (k:W.grownBy W' U.ownBlock):PX w ac ar ag cc cr cg t vb bl W' :=
 ⟨h.below.grown k h.below.size (λq hq=>nT hb (hU.lt q hq).1),z06 h.box k (z0e (zt hU h.box (by decide))),z06 h.grd k (z0e (zt hU h.grd (by decide))),z67 h.bnd hU (by decide) k⟩
theorem PX.ints {w:World} {ac ar ag:Option Addr} {cc cr cg:Nat} {t:T} {vb:Value} {bl:List Int} {W:World} (h:PX w ac ar ag cc cr cg t vb bl W):zA W vb bl:=(zq.of_owns h.bnd).at
theorem zdF (w:World) (a b:Nat) (B:Nat) (hB:B<=w.heap.size):(w.alloc (.cells #[int i64 (a:Int),int i64 (b:Int)] 3)).ownsRow B 3 1 (.slice (some ⟨w.heap.size,0,none⟩) 2 2) 2 [int i64 (a:Int),int i64 (b:Int)] :=
 ⟨rfl,.inr ⟨w.heap.size,2,#[int i64 (a:Int),int i64 (b:Int)],rfl,hB,zj _ _,lR,by unfold maxLen;omega,rfl,rfl⟩⟩
theorem zkt:(prog.info? 27).map (λi=>(i.zero,i.size,i.bytes))=some (some (Value.slice none 0 0),1,24):=by kernel_rfl
theorem zfI (ac ar ag:Option Addr) (cc cr cg:Nat) (t:T) (hD:z0g t) (htk:zF t=true) (w:World) {zg:Nat} (hg:z1K w zg (.slice ag (Z t).cells.length cg) (Z t).cells) :
  Calls prog 53 #[.agg #[.slice ac t.cols.length cc,int i64 t.head,int i64 t.foot,.slice ar t.rows.length cr,int i64 t.gap],.agg #[int i64 (Z t).rows,int i64 (Z t).cols,.slice ag (Z t).cells.length cg]] w λe w'=>∃ v us,e=.returned v/\w'.ownsRow w.heap.size 27 1 v us.length us/\z2u w' w.heap.size us (z0h t)/\Below w.heap.size w w':=by
 have hmx:prog.follows .mixedOrders=true:=(by kernel_rfl);obtain ⟨i0,hi0,hz0,hz1,hz2⟩:=info_parts zkt;have hR8:=z0R htk;have hgr:(Z t).rows=(t.rows.length:Int):=(by rw [z2z htk])
 have hcl:t.cols.length<=8:=by
  simp only [zF,z2k,Bool.and_eq_true,decide_eq_true_eq] at htk;omega
 have HBL:Hid (z6a ⟨(t.rows.length:Int),(Z t).cols,(Z t).cells⟩=zQ (Z t).cells t.rows.length):=O (by
  rw [z9S (by rw [z2z htk];exact zgz (z3S htk hD) hR8.1.1 hcl)]
  simp)
 rw [hgr];have K0:=ze (ze (ze (Below.refl w.heap.size w) (.cells #[.slice ac t.cols.length cc,int i64 t.head,int i64 t.foot,.slice ar t.rows.length cr,int i64 t.gap] 26)) (.cells #[int i64 (t.rows.length:Int),int i64 (Z t).cols,.slice ag (Z t).cells.length cg] 38)) (.cells #[] 27);have hs0:(((w.alloc (.cells #[.slice ac t.cols.length cc,int i64 t.head,int i64 t.foot,.slice ar t.rows.length cr,int i64 t.gap] 26)).alloc (.cells #[int i64 (t.rows.length:Int),int i64 (Z t).cols,.slice ag (Z t).cells.length cg] 38)).alloc (.cells #[] 27)).heap.size=w.heap.size+3:=(by simp);have X0:(((w.alloc (.cells #[.slice ac t.cols.length cc,int i64 t.head,int i64 t.foot,.slice ar t.rows.length cr,int i64 t.gap] 26)).alloc (.cells #[int i64 (t.rows.length:Int),int i64 (Z t).cols,.slice ag (Z t).cells.length cg] 38)).alloc (.cells #[] 27)).heap[w.heap.size]?=some (.cells #[.slice ac t.cols.length cc,int i64 t.head,int i64 t.foot,.slice ar t.rows.length cr,int i64 t.gap] 26):=(bA (by simp;omega)).trans ((bA (by simp)).trans (zj _ _));have G0:(((w.alloc (.cells #[.slice ac t.cols.length cc,int i64 t.head,int i64 t.foot,.slice ar t.rows.length cr,int i64 t.gap] 26)).alloc (.cells #[int i64 (t.rows.length:Int),int i64 (Z t).cols,.slice ag (Z t).cells.length cg] 38)).alloc (.cells #[] 27)).heap[w.heap.size+1]?=some (.cells #[int i64 (t.rows.length:Int),int i64 (Z t).cols,.slice ag (Z t).cells.length cg] 38):=(bA (by simp)).trans (by have:=zj (w.alloc (.cells #[.slice ac t.cols.length cc,int i64 t.head,int i64 t.foot,.slice ar t.rows.length cr,int i64 t.gap] 26)) (.cells #[int i64 (t.rows.length:Int),int i64 (Z t).cols,.slice ag (Z t).cells.length cg] 38);rwa [World.size_alloc] at this);have O0:(((w.alloc (.cells #[.slice ac t.cols.length cc,int i64 t.head,int i64 t.foot,.slice ar t.rows.length cr,int i64 t.gap] 26)).alloc (.cells #[int i64 (t.rows.length:Int),int i64 (Z t).cols,.slice ag (Z t).cells.length cg] 38)).alloc (.cells #[] 27)).heap[w.heap.size+2]?=some (.cells #[] 27):=(by have:=zj ((w.alloc (.cells #[.slice ac t.cols.length cc,int i64 t.head,int i64 t.foot,.slice ar t.rows.length cr,int i64 t.gap] 26)).alloc (.cells #[int i64 (t.rows.length:Int),int i64 (Z t).cols,.slice ag (Z t).cells.length cg] 38)) (.cells #[] 27);rwa [World.size_alloc,World.size_alloc] at this);have HG:=O (hg.kept K0);have HK0:=O K0;have HX0:=O X0;have HG0:=O G0;have HO0:=O O0;have HTK:=O htk;clear hg K0 X0 G0 O0 hgr hcl htk;go_enter func53,ntmps53;go_upto_region 2 with fail
 generalize (((w.alloc (.cells #[.slice ac t.cols.length cc,int i64 t.head,int i64 t.foot,.slice ar t.rows.length cr,int i64 t.gap] 26)).alloc (.cells #[int i64 (t.rows.length:Int),int i64 (Z t).cols,.slice ag (Z t).cells.length cg] 38)).alloc (.cells #[] 27))=W0 at HK0 HX0 HG0 HO0 HG hs0 |-;obtain ⟨b0,b1,b2,b3,b4⟩:=zL HX0.out;obtain ⟨y0,y1,y2⟩:=z26 HG0.out;go_wp2_with fail
 refine (zcg (t.rows.length:Int) (Z t).cols ag cg (Z t).cells W0 HG.out).mono ?_;rintro e w1 ⟨vb,rfl,hI,hb1⟩;rw [HBL.out] at hI;obtain ⟨avb,cvb,rfl⟩:=hI.form;have HX1:Hid (PX w ac ar ag cc cr cg t (.slice avb (zQ (Z t).cells t.rows.length).length cvb) (zQ (Z t).cells t.rows.length) w1):=O ⟨zi HK0.out hb1,(hb1.block _ (by omega)).trans HX0.out,(hb1.block _ (by omega)).trans HG0.out,(hI.base (by omega:w.heap.size<=W0.heap.size) lR).owns⟩;have HO1:Hid (w1.ownsRow (w.heap.size+2) 27 1 (.slice (some ⟨w.heap.size+2,0,none⟩) 0 0) 0 []):=O ⟨rfl,.inr ⟨w.heap.size+2,0,#[],rfl,lR,(hb1.block _ (by omega)).trans HO0.out,lR,nZ,rfl,rfl⟩⟩;have hbl:=z3e (Z t).cells t.rows.length;have HLl:=O (z5o (Z t).cells t.rows.length);have HLg:=O (λ(k:Nat)=>zcD (gs:=(Z t).cells) (R:=t.rows.length) (k:=k));have HLs:=O (λ(k:Nat)=>z3T (gs:=(Z t).cells) (R:=t.rows.length) (k:=k));have HLe:=O (z8g (Z t).cells t.rows.length);have HET:Hid (z0h t=z1O t (z0l (Z t).cells t.rows.length) (zQ (Z t).cells t.rows.length).length):=O rfl;have HEL:=O (λk=>z9B t (z0l (Z t).cells t.rows.length) k);generalize z0l (Z t).cells t.rows.length=L at HLl HLg HLs HLe HET HEL;generalize zQ (Z t).cells t.rows.length=bs at hI HX1 hbl HLl HLg HLe HET;clear hI hb1 HG HK0 HX0 HG0 HO0 hs0 HBL b0 b1 b2 b3 b4 y0 y1 y2;go_wp2_with fail
 go_loopw [5,7] (λo i W=>∃ (k:Nat) (us:List Value),k<=bs.length/\i=int i64 (k:Int)/\Hid (W.ownsRow (w.heap.size+2) 27 1 o us.length us)/\Hid (z2u W w.heap.size us (z1O t L k))/\Hid (PX w ac ar ag cc cr cg t (.slice avb bs.length cvb) bs W)) (λ_ i _=>bs.length - (intOf i).toNat)
 case atStart=>exact ⟨0,[],nZ,rfl,HO1,⟨rfl,λi hi=>absurd hi (Nat.not_lt_zero _)⟩,HX1⟩
 case round =>
  clear HX1 HO1;obtain ⟨k,us,hk,rfl,HO,HR,HX⟩:=hrel;have hul:us.length<=k:=(by have:=HR.out.1;have:=HEL.out k;omega);obtain ⟨ao,co,rfl,_⟩:=zP HO.out;by_cases hlt:k < bs.length
  case neg =>
   obtain rfl:k=bs.length:=by omega
   go_wp2;go_ret;exact ⟨_,us,rfl,z8E HO.out (by omega),by rw [HET.out];exact HR.out,HX.out.below⟩
  obtain ⟨s1,s2⟩:=HLs.out k (by rw [HLl.out];omega);have HLk:=O (HLg.out k (by rw [HLl.out];omega));have HLk1:=O (HLg.out (k+1) (by rw [HLl.out];omega));have HPn:=O (λ(h:¬ z0j t ((L.getD k 0:Nat):Int)=1)=>zdC h);have hin:=@zeP t L k;obtain ⟨a,ha⟩:∃ a,L.getD k 0=a:=⟨_,rfl⟩;obtain ⟨b,hb⟩:∃ b,L.getD (k+1) 0=b:=⟨_,rfl⟩;have HLa:=O ha;have HLb:=O hb;rw [ha] at s1 HPn HLk;rw [hb] at s1 s2 HLk1;rw [ha,hb] at hin;have hlk:(bs ++ [(t.rows.length:Int)]).getD k 0=bs.getD k 0:=(by rw [List.getD_eq_getElem?_getD,List.getElem?_append_left hlt,<-List.getD_eq_getElem?_getD]);rw [hlk] at HLk;have HIn:=O hin;have KP:=O (λ(p:BW wr)=>z4z (zfH (.slice ac t.cols.length cc) ar cr t HTK.out a (by omega) p.u));have hne:=z0H wr;have hlw:=(bL HX.out.box);obtain ⟨b0,b1,b2,b3,b4⟩:=zL HX.out.box;obtain ⟨y0,y1,y2⟩:=z26 HX.out.grd;have m0:=zm (a:=⟨w.heap.size,0,none⟩) hlw b0;have m1:=zm (a:=⟨w.heap.size,1,none⟩) hlw b1;have m2:=zm (a:=⟨w.heap.size,2,none⟩) hlw b2;have m3:=zm (a:=⟨w.heap.size,3,none⟩) hlw b3;have m4:=zm (a:=⟨w.heap.size,4,none⟩) hlw b4;obtain ⟨gx,ox,cx,ex,f1,f2,f3,x1⟩:=HX.out.ints.get (i:=k) hlt;simp only [Value.slice.injEq,true_and] at ex;obtain ⟨rfl,rfl⟩:=ex;rw [HLk.out] at x1;have n1:=zm (a:=⟨gx,ox+k,none⟩) f3 x1;unfold maxLen at f2;clear ha hb hlk hin s1 f3;by_cases hk1:k+1 < bs.length
  ·obtain ⟨gq,oq,cq,eq,q1,q2,q3,x2⟩:=HX.out.ints.get (i:=k+1) hk1;simp only [Value.slice.injEq,Option.some.injEq,Addr.mk.injEq,and_true,true_and] at eq;obtain ⟨⟨rfl,rfl⟩,rfl⟩:=eq;have hlk1:(bs ++ [(t.rows.length:Int)]).getD (k+1) 0=bs.getD (k+1) 0:=(by rw [List.getD_eq_getElem?_getD,List.getElem?_append_left hk1,<-List.getD_eq_getElem?_getD]);rw [<-hlk1,HLk1.out] at x2;clear q1 q2 q3 hlk1;by_cases hp:z0j t (a:Int)=1
   case neg =>
    have HPt:=O (HPn.out hp);have hp2:(z0j t (a:Int) == 1)=false:=beq_eq_false_iff_ne.2 hp;generalize z0j t (a:Int)=pv at KP hp2;clear hp HPn;go_upto_region 9 with fail
    refine zv hmx (by kernel_rfl) ?_;repeat (go_big_quiet_step (first | (go_at_call 97;refine KP.out _)))
    refine wpQuiet_nil ?_;intro W4 hw';obtain ⟨⟨Wx,hW4⟩,hw''⟩:=hw';subst hw'';have HX4:=O (HX.out.kept hW4);have HO4:=O (z3q HO.out hW4)
    have HR4:Hid (z2u W4 w.heap.size us (z1O t L (k+1))):=O (by
     rw [HPt.out];exact HR.out.kept hW4)
    clear x1 x2 m0 m1 m2 m3 m4 n1 hne KP HX HO HR hW4 y0 y1 y2 b0 b1 b2 b3 b4;go_wp2;go_roundw
    case rel=>exact ⟨k+1,_,by omega,by go_num,HO4,HR4,HX4⟩
    case measure=>simp [intOf];omega
   have HPt:=O (HIn.out hp);rw [hp] at KP;clear hp HPn;go_upto_region 9 with fail
   refine zv hmx (by kernel_rfl) ?_;repeat (go_big_quiet_step (first | (go_at_call 97;refine KP.out _)))
   refine wpQuiet_nil ?_;intro W4 hw';obtain ⟨⟨Wx,hW4⟩,hw''⟩:=hw';subst hw'';have HX4:=O (HX.out.kept hW4);have HO4:=O (z3q HO.out hW4);have HR4:=O (HR.out.kept hW4);have hz4:=HX4.out.below.size;obtain ⟨gx,ox,cx,ex,f1,f2,f3,x4⟩:=HX4.out.ints.get (i:=k) hlt;simp only [Value.slice.injEq,Option.some.injEq,Addr.mk.injEq,and_true,true_and] at ex;obtain ⟨⟨rfl,rfl⟩,rfl⟩:=ex;rw [HLk.out] at x4;clear f1 f2 f3 x1 x2 m0 m1 m2 m3 m4 n1 hne KP HX HO HR hW4 y0 y1 y2 b0 b1 b2 b3 b4;have KA:=ze (ze (Below.refl W4.heap.size W4) (.cells #[int i64 (a:Int),int i64 (b:Int)] 3)) (.cells #[.slice (some ⟨W4.heap.size,0,none⟩) 2 2] 27);have hOA:=(HO4.out.alloc (.cells #[int i64 (a:Int),int i64 (b:Int)] 3)).alloc (.cells #[.slice (some ⟨W4.heap.size,0,none⟩) 2 2] 27);have HPn:=O (zdF W4 a b w.heap.size hz4);go_wp2_with (at_builtin;refine wpList_append_own _ rfl _ _ 86 rfl (w.heap.size+2) 27 i0 _ 1 24 underlying86 hi0 hz0 hz1 hz2 rfl (by decide) _ _ _ rfl hOA ⟨W4.heap.size+1,0,none⟩ 1 1 [.slice (some ⟨W4.heap.size,0,none⟩) 2 2] rfl rfl ?c1 ?c2 ?c3 ?c4 ?c5 ?_)
   case c1=>exact z0K (by have:=zj (W4.alloc (.cells #[int i64 (a:Int),int i64 (b:Int)] 3)) (.cells #[.slice (some ⟨W4.heap.size,0,none⟩) 2 2] 27);rwa [World.size_alloc] at this)
   case c2=>simp [Value.oneCell']
   case c3=>unfold maxLen;omega
   case c4=>omega
   case c5=>have:=HX4.out.grd;have:=(bL this);simp;omega
   intro v' w5 hown' hgrow' _;have HX5:=O ((HX4.out.kept KA).grown hOA (by omega) hgrow')
   have HR5:Hid (z2u w5 w.heap.size (us ++ [.slice (some ⟨W4.heap.size,0,none⟩) 2 2]) (z1O t L (k+1))):=O (by
    rw [HPt.out];exact ((HR4.out.kept KA).grown hOA hgrow').snoc (z67 (z3q HPn.out (ze bR _)) hOA (by decide) hgrow'))
   have HO5:Hid (w5.ownsRow (w.heap.size+2) 27 1 v' (us ++ [Value.slice (some ⟨W4.heap.size,0,none⟩) 2 2]).length (us ++ [Value.slice (some ⟨W4.heap.size,0,none⟩) 2 2])):=O (by rw [List.length_append];exact hown');obtain ⟨g',cap',rfl⟩:=Joins.ownsRow_form hown' (by omega);clear hown' hgrow' hOA KA HX4 HO4 HR4 x4;go_wp2;go_roundw
   case rel=>exact ⟨k+1,_,by omega,by go_num,HO5,HR5,HX5⟩
   case measure=>simp [intOf];omega
  ·have hbR:(b:Int)=(t.rows.length:Int):=by
    have e:bs.length=k+1:=(by omega);have:=HLe.out;rw [e,HLb.out] at this;omega
   have hbR2:b=t.rows.length:=(by omega);subst hbR2;clear hbR;by_cases hp:z0j t (a:Int)=1
   case neg =>
    have HPt:=O (HPn.out hp);have hp2:(z0j t (a:Int) == 1)=false:=beq_eq_false_iff_ne.2 hp;generalize z0j t (a:Int)=pv at KP hp2;clear hp HPn;go_upto_region 9 with fail
    refine zv hmx (by kernel_rfl) ?_;repeat (go_big_quiet_step (first | (go_at_call 97;refine KP.out _)))
    refine wpQuiet_nil ?_;intro W4 hw';obtain ⟨⟨Wx,hW4⟩,hw''⟩:=hw';subst hw'';have HX4:=O (HX.out.kept hW4);have HO4:=O (z3q HO.out hW4)
    have HR4:Hid (z2u W4 w.heap.size us (z1O t L (k+1))):=O (by
     rw [HPt.out];exact HR.out.kept hW4)
    clear x1 m0 m1 m2 m3 m4 n1 hne KP HX HO HR hW4 y0 y1 y2 b0 b1 b2 b3 b4;go_wp2;go_roundw
    case rel=>exact ⟨k+1,_,by omega,by go_num,HO4,HR4,HX4⟩
    case measure=>simp [intOf];omega
   have HPt:=O (HIn.out hp);rw [hp] at KP;clear hp HPn;go_upto_region 9 with fail
   refine zv hmx (by kernel_rfl) ?_;repeat (go_big_quiet_step (first | (go_at_call 97;refine KP.out _)))
   refine wpQuiet_nil ?_;intro W4 hw';obtain ⟨⟨Wx,hW4⟩,hw''⟩:=hw';subst hw'';have HX4:=O (HX.out.kept hW4);have HO4:=O (z3q HO.out hW4);have HR4:=O (HR.out.kept hW4);have hz4:=HX4.out.below.size;obtain ⟨gx,ox,cx,ex,f1,f2,f3,x4⟩:=HX4.out.ints.get (i:=k) hlt;simp only [Value.slice.injEq,Option.some.injEq,Addr.mk.injEq,and_true,true_and] at ex;obtain ⟨⟨rfl,rfl⟩,rfl⟩:=ex;rw [HLk.out] at x4;clear f1 f2 f3 x1 m0 m1 m2 m3 m4 n1 hne KP HX HO HR hW4 y0 y1 y2 b0 b1 b2 b3 b4;have KA:=ze (ze (Below.refl W4.heap.size W4) (.cells #[int i64 (a:Int),int i64 (t.rows.length:Int)] 3)) (.cells #[.slice (some ⟨W4.heap.size,0,none⟩) 2 2] 27);have hOA:=(HO4.out.alloc (.cells #[int i64 (a:Int),int i64 (t.rows.length:Int)] 3)).alloc (.cells #[.slice (some ⟨W4.heap.size,0,none⟩) 2 2] 27);have HPn:=O (zdF W4 a t.rows.length w.heap.size hz4);go_wp2_with (at_builtin;refine wpList_append_own _ rfl _ _ 86 rfl (w.heap.size+2) 27 i0 _ 1 24 underlying86 hi0 hz0 hz1 hz2 rfl (by decide) _ _ _ rfl hOA ⟨W4.heap.size+1,0,none⟩ 1 1 [.slice (some ⟨W4.heap.size,0,none⟩) 2 2] rfl rfl ?c1 ?c2 ?c3 ?c4 ?c5 ?_)
   case c1=>exact z0K (by have:=zj (W4.alloc (.cells #[int i64 (a:Int),int i64 (t.rows.length:Int)] 3)) (.cells #[.slice (some ⟨W4.heap.size,0,none⟩) 2 2] 27);rwa [World.size_alloc] at this)
   case c2=>simp [Value.oneCell']
   case c3=>unfold maxLen;omega
   case c4=>omega
   case c5=>have:=HX4.out.grd;have:=(bL this);simp;omega
   intro v' w5 hown' hgrow' _;have HX5:=O ((HX4.out.kept KA).grown hOA (by omega) hgrow')
   have HR5:Hid (z2u w5 w.heap.size (us ++ [.slice (some ⟨W4.heap.size,0,none⟩) 2 2]) (z1O t L (k+1))):=O (by
    rw [HPt.out];exact ((HR4.out.kept KA).grown hOA hgrow').snoc (z67 (z3q HPn.out (ze bR _)) hOA (by decide) hgrow'))
   have HO5:Hid (w5.ownsRow (w.heap.size+2) 27 1 v' (us ++ [Value.slice (some ⟨W4.heap.size,0,none⟩) 2 2]).length (us ++ [Value.slice (some ⟨W4.heap.size,0,none⟩) 2 2])):=O (by rw [List.length_append];exact hown');obtain ⟨g',cap',rfl⟩:=Joins.ownsRow_form hown' (by omega);clear hown' hgrow' hOA KA HX4 HO4 HR4 x4;go_wp2;go_roundw
   case rel=>exact ⟨k+1,_,by omega,by go_num,HO5,HR5,HX5⟩
   case measure=>simp [intOf];omega
theorem z8F (rm:List Int):∀ (n:Nat) (ps:List (List zk)),ps.length=n->∃ A B,ps=A ++ B/\(ps.foldl (z00 rm) ([],[])).2=B.foldl z0b []/\(ps.foldl (z00 rm) ([],[])).1.length<=A.length
 | 0,ps,h=>by
  have:ps=[]:=List.eq_nil_of_length_eq_zero h;subst this;exact ⟨[],[],rfl,rfl,lR⟩
 | n+1,ps,h=>by
  rcases List.eq_nil_or_concat ps with rfl | ⟨a,p,rfl⟩
  ·cases h
  ·rw [List.concat_eq_append] at h |-;obtain ⟨A,B,e1,e2,e3⟩:=z8F rm n a (by simpa using h);rw [List.foldl_append,List.foldl_cons,List.foldl_nil];generalize a.foldl (z00 rm) ([],[])=st at e2 e3 |-;obtain ⟨pgs,page⟩:=st;simp only at e2 e3
   cases ht:z1a page p (zN rm pgs.length) with
   | true =>
    rw [z7Y ht];exact ⟨A,B ++ [p],by rw [e1,List.append_assoc],by simp [e2],e3⟩
   | false =>
    refine ⟨A ++ B,[p],by rw [e1],?_,?_⟩
    ·unfold z00;rw [if_neg (by simp only;rw [ht];simp)];rfl
    ·have hB:B ≠ []:=by
      rintro rfl;rw [List.foldl_nil] at e2;rw [e2] at ht
      cases ht
     have:=List.length_pos_iff.2 hB;unfold z00;rw [if_neg (by simp only;rw [ht];simp)];simp only [List.length_append,List.length_cons,List.length_nil];omega
theorem zjU (rm:List Int) {ps:List (List zk)} (hne:∀ p ∈ ps,p ≠ []) (h:ps ≠ []):(ps.foldl (z00 rm) ([],[])).2 ≠ []:=by
 rcases List.eq_nil_or_concat ps with rfl | ⟨a,p,rfl⟩
 ·exact absurd rfl h
 ·rw [List.concat_eq_append] at hne |-;rw [List.foldl_append,List.foldl_cons,List.foldl_nil];have hp:=hne p (by simp);unfold z00
  split
  ·exact z9z hp
  ·exact z9z hp
theorem zfJ {page:List zk} {s:zk} {r:Nat} (h:z3r page r) (hs:s.r < r):z3r (z2o page s) r:=by
 rcases List.eq_nil_or_concat page with rfl | ⟨a,l,rfl⟩
 ·intro x hx;simp only [z2o,List.getLast?_nil,List.mem_singleton] at hx;rw [hx];exact hs
 ·rw [List.concat_eq_append] at h |-;rw [z6E];intro x hx
  split at hx
  ·rcases List.mem_append.1 hx with h1 | h1
   ·exact h x (List.mem_append.2 (.inl h1))
   ·rw [List.mem_singleton.1 h1];exact h l (by simp)
  ·rcases List.mem_append.1 hx with h1 | h1
   ·exact h x h1
   ·rw [List.mem_singleton.1 h1];exact hs
theorem z7N {r:Nat}:∀ {piece page:List zk},z3r page r->(∀ s ∈ piece,s.r < r)->z3r (z0b page piece) r
 | [],_,h,_=>h
 | s :: l,page,h,hp=>z7N (piece:=l) (page:=z2o page s) (zfJ h (hp s (by simp))) (λx hx=>hp x (List.mem_cons_of_mem _ hx))
theorem zfK {rm:List Int} {st:List (List zk) × List zk} {piece:List zk} {r:Nat} (h:z3r st.2 r) (hp:∀ s ∈ piece,s.r < r):z3r (z00 rm st piece).2 r:=by
 unfold z00
 split
 ·exact z7N h hp
 ·exact z7N (page:=[]) (λx hx=>by cases hx) hp
theorem zaz {rm:List Int} {r:Nat}:∀ {ps:List (List zk)} {st:List (List zk) × List zk},z3r st.2 r->(∀ p ∈ ps,∀ s ∈ p,s.r < r)->z3r (ps.foldl (z00 rm) st).2 r
 | [],_,h,_=>h
 | p :: ps,st,h,hp=>zaz (ps:=ps) (st:=z00 rm st p) (zfK h (hp p (by simp))) (λq hq=>hp q (List.mem_cons_of_mem _ hq))
theorem zaA (hs:List Int):∀ (n a:Nat),∀ s ∈ zT hs a n,s.r < ((a+n:Nat):Int)
 | 0,_,s,h=>by cases h
 | n+1,a,s,h=>by
  rw [zT] at h
  rcases List.mem_cons.1 h with rfl | h
  ·simp only;omega
  ·have:=zaA hs n (a+1) s h;omega
theorem zjV {t:T} {hs:List Int} {a b:Nat} (hab:a < b):∀ p ∈ z1A t hs a b,∀ s ∈ p,s.r < (b:Int):=by
 intro p hp s hs';unfold z1A at hp
 split at hp
 ·split at hp
  ·rw [z0o,List.mem_map] at hp;obtain ⟨i,_,rfl⟩:=hp;rw [List.mem_singleton.1 hs'];simp only;omega
  ·rw [List.mem_singleton] at hp;subst hp;have:=zaA hs (b - a) a s hs';omega
 ·cases hp
theorem zc0 {t:T} {gs:List GC} {R:Nat}:∀ k,k < (z0l gs R).length->(z1O t (z0l gs R) k).Pairwise (λp q=>p.2<=q.1)/\∀ p ∈ z1O t (z0l gs R) k,p.2<=(z0l gs R).getD k 0
 | 0,_=>⟨List.Pairwise.nil,λp hp=>by cases hp⟩
 | k+1,hk=>by
  obtain ⟨h1,h2⟩:=zc0 (t:=t) (gs:=gs) (R:=R) k (by omega);obtain ⟨s1,s2⟩:=z3T hk;rw [z1O]
  split
  ·refine ⟨List.pairwise_append.2 ⟨h1,by simp,λp hp q hq=>?_⟩,λp hp=>?_⟩
   ·rw [List.mem_singleton.1 hq];exact h2 p hp
   ·rcases List.mem_append.1 hp with h | h
    ·have:=h2 p h;omega
    ·rw [List.mem_singleton.1 h];exact lR
  ·rw [List.append_nil];exact ⟨h1,λp hp=>by have:=h2 p hp;omega⟩
theorem z9h (t:T):(z0h t).Pairwise (λp q=>p.2<=q.1)/\∀ p ∈ z0h t,p.1 < p.2/\p.2<=t.rows.length/\z0j t (p.1:Int)=1:=by
 have hk:(zQ (Z t).cells t.rows.length).length < (z0l (Z t).cells t.rows.length).length:=(by rw [z5o];omega);exact ⟨(zc0 _ hk).1,zdE _ hk⟩
theorem zc1 (t:T) (hs:List Int):(z0h t).flatMap (λp=>z1A t hs p.1 p.2)=z0B t hs:=zdD t hs _ _
def stE (t:T) (hs rm:List Int) (i:Nat):List (List zk) × List zk:=(((z0h t).take i).flatMap (λp=>z1A t hs p.1 p.2)).foldl (z00 rm) ([],[])
theorem ziU {t:T} {hs rm:List Int} {i:Nat} (h:i < (z0h t).length):stE t hs rm (i+1)=(z1A t hs ((z0h t).getD i (0,0)).1 ((z0h t).getD i (0,0)).2).foldl (z00 rm) (stE t hs rm i):=by
 have e:(z0h t).getD i (0,0)=(z0h t)[i]:=(by simp [List.getD,h]);rw [stE,List.take_succ_eq_append_getElem h,List.flatMap_append,List.foldl_append,e];simp [stE]
theorem ziV (t:T) (hs rm:List Int):stE t hs rm 0=([],[]):=rfl
theorem zjW (t:T) (hs rm:List Int):stE t hs rm (z0h t).length=(z0B t hs).foldl (z00 rm) ([],[]):=by rw [stE,List.take_length,zc1]
theorem zhz {t:T} {hs rm:List Int} {i:Nat} (h:i < (z0h t).length):z3r (stE t hs rm i).2 ((z0h t).getD i (0,0)).1:=by
 obtain ⟨h1,h2⟩:=z9h t;have e:(z0h t).getD i (0,0)=(z0h t)[i]:=(by simp [List.getD,h]);rw [e];refine zaz (λx hx=>by cases hx) (λp hp s hs'=>?_);obtain ⟨q,hq,hpq⟩:=List.mem_flatMap.1 hp;obtain ⟨j,hj,rfl⟩:=List.mem_iff_getElem.1 hq;rw [List.length_take] at hj;rw [List.getElem_take] at hpq;have h3:=zjV (h2 _ (List.getElem_mem (by omega:j < (z0h t).length))).1 p hpq s hs';have h4:=List.pairwise_iff_getElem.1 h1 j i (by omega) h (by omega);omega
structure zl5 (t:T) (hs rm:List Int) (i a b:Nat):Prop where
 ab:a < b/\b<=t.rows.length
 ahead:z3r (stE t hs rm i).2 a
 low:z3t (stE t hs rm i).2
 len:(stE t hs rm i).2.length<=50000
 pgs:(stE t hs rm i).1.length<=9000
 cut:(b - a=1/\(t.rows.getD a dR).whole=false)/\0 < hs.getD a 0->stE t hs rm (i+1)=(z0o a 0 (hs.getD a 0).toNat).foldl (z00 rm) (stE t hs rm i)/\zu (stE t hs rm i).2+(hs.getD a 0).toNat<=1000000
 whole:¬ ((b - a=1/\(t.rows.getD a dR).whole=false)/\0 < hs.getD a 0)->stE t hs rm (i+1)=z4p rm (stE t hs rm i).1 (stE t hs rm i).2 (zT hs a (b - a))/\z3t (zT hs a (b - a))
theorem zhA {t:T} (hD:z0g t) (hok:zF t=true) {hs rm:List Int} (hb:∀ x ∈ hs,0<=x/\x<=1000) {i:Nat} (h:i < (z0h t).length):zl5 t hs rm i ((z0h t).getD i (0,0)).1 ((z0h t).getD i (0,0)).2:=by
 have e:(z0h t).getD i (0,0)=(z0h t)[i]:=(by simp [List.getD,h]);have hm:(z0h t).getD i (0,0) ∈ z0h t:=(by rw [e];exact List.getElem_mem h);obtain ⟨f1,f2,f3⟩:=(z9h t).2 _ hm;have hah:=zhz (hs:=hs) (rm:=rm) h;have hsu:=ziU (hs:=hs) (rm:=rm) h;obtain ⟨A,B,e1,e2,e3⟩:=z8F rm _ (((z0h t).take i).flatMap (λp=>z1A t hs p.1 p.2)) rfl
 have hsp:z0B t hs=((z0h t).take i).flatMap (λp=>z1A t hs p.1 p.2) ++ z1A t hs ((z0h t).getD i (0,0)).1 ((z0h t).getD i (0,0)).2 ++ ((z0h t).drop (i+1)).flatMap (λp=>z1A t hs p.1 p.2):=by
  rw [<-zc1 t hs,e];have h9:z0h t=(z0h t).take i ++ ((z0h t)[i] :: (z0h t).drop (i+1)):=(by rw [<-List.drop_eq_getElem_cons h,List.take_append_drop])
  conv=>lhs;rw [h9]
  rw [List.flatMap_append,List.flatMap_cons,List.append_assoc]
 have hlow:=z4h hD hok hb (show z0B t hs=A ++ B ++ (z1A t hs ((z0h t).getD i (0,0)).1 ((z0h t).getD i (0,0)).2 ++ ((z0h t).drop (i+1)).flatMap (λp=>z1A t hs p.1 p.2)) by rw [hsp,e1];simp [List.append_assoc]);have hlow2:=z4h hD hok hb (show z0B t hs=A ++ (B ++ z1A t hs ((z0h t).getD i (0,0)).1 ((z0h t).getD i (0,0)).2) ++ ((z0h t).drop (i+1)).flatMap (λp=>z1A t hs p.1 p.2) by rw [hsp,e1];simp [List.append_assoc]);have hl9:=z65 hok hb;have hAl:A.length<=(z0B t hs).length:=(by rw [hsp,e1];simp only [List.length_append];omega);have hS2:(stE t hs rm i).2=B.foldl z0b []:=e2;have hS1:(stE t hs rm i).1.length<=A.length:=e3;generalize ((z0h t).getD i (0,0)).1=a at f1 f3 hah hsu hlow hlow2 |-;generalize ((z0h t).getD i (0,0)).2=b at f1 f2 hsu hlow hlow2 |-;refine ⟨⟨f1,f2⟩,hah,by rw [hS2];exact hlow.1,by rw [hS2];exact hlow.2.1,by omega,λhc=>?_,λhc=>?_⟩
 ·rw [zaM f3 hc] at hsu hlow2;refine ⟨hsu,?_⟩;have h3:=hlow2.2.2;rw [List.flatten_append,z1D,z9n,<-hlow.2.2] at h3;rw [hS2];omega
 ·rw [z88 f3 hc] at hsu;have hlw:=z7l hb (n:=b - a) (a:=a) (by have:=z0R hok;omega);refine ⟨?_,hlw⟩;rw [hsu,List.foldl_cons,List.foldl_nil];unfold z00 z4p;rw [(z7g hs (b - a) a _ hah).1,(z7g hs (b - a) a [] (λx hx=>by cases hx)).1];rfl
end Go.Proofs.YtggmjiddadjilahGreat
