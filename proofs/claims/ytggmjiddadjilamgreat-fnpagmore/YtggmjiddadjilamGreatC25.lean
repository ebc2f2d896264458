/-
  PROVED HERE: what the model's l5Said answers at a table that lies in memory; nothing that was in memory is turned. Also: 12 more texts of the same proof.
-/
import Derived.Test.YtggmjiddadjilamGreatC24
set_option maxRecDepth 1000000
set_option maxHeartbeats 40000000
namespace Go.Proofs.YtggmjiddadjilamGreat
section
open Go.RowKit
theorem z4Z (ac ar:Option Addr) (cc cr:Nat) (t:T) (q:Int) (hq:0≤q) (w:World) {z:Nat} (hc:z07 w z (.slice ac t.cols.length cc) t.cols) :
  Calls Tryz.prog 110 #[.agg #[.slice ac t.cols.length cc,.int .i64 t.head,.int .i64 t.foot,.slice ar t.rows.length cr,.int .i64 t.gap],.int .i64 q] w fun e w'=>e=.returned (.agg #[.int .i64 (sd t.cols q).1,.int .i64 (sd t.cols q).2])∧Below w.heap.size w w':=by
 obtain ⟨_,_,_,hlen⟩:=At.form hc;unfold maxLen at hlen;obtain ⟨k,rfl⟩:=Int.eq_ofNat_of_zero_le hq;by_cases hkl:k < t.cols.length
 ·rw [z88 hkl];have hlt:(k:Int) < (t.cols.length:Int):=(by omega);obtain ⟨b,off,cap',e',hc1,hc2,hbl,hx0,hx1⟩:=At.get hc hkl;simp only [Value.slice.injEq,true_and] at e';obtain ⟨rfl,rfl⟩:=e';unfold maxLen at hc2;generalize t.cols.getD k (0,0)=p at hx0 hx1 ⊢;clear hc;go_enter Tryz.func110,Tryz.ntmps110;go_wp2;exact bodyPost_ret (v:=.agg #[.int .i64 p.1,.int .i64 p.2]) (by simp [results,Tryz.results110,go_sem]) rfl ⟨rfl,by repeat (first | exact Below.refl _ _ | apply ze)⟩
 ·rw [z9S (z2V (by omega))];have hlt:¬ (k:Int) < (t.cols.length:Int):=(by omega);clear hc;go_enter Tryz.func110,Tryz.ntmps110;go_wp2;exact bodyPost_ret (v:=.agg #[.int .i64 0,.int .i64 0]) (by simp [results,Tryz.results110,go_sem]) rfl ⟨rfl,by repeat (first | exact Below.refl _ _ | apply ze)⟩
def hsB (hs:List Int):Bool:=hs.all (fun h=>inB h 0 100)
def z2S (t:T) (width:Int) (hs:List Int):Bool:=(zC t && inB width 0 300) && (inB hs.length 1 60 && hsB hs)
theorem zgR {hs:List Int} {k:Nat} (hk:k < hs.length) (h:inB (hs.getD k 0) 0 100=false):hsB hs=false:=by
 rw [hsB,List.all_eq_false];refine ⟨hs[k],List.getElem_mem hk,?_⟩;have e:hs.getD k 0=hs[k]:=(by simp [List.getD,hk]);rw [e] at h;simp [h]
theorem zep {hs:List Int} (h:∀ i,i < hs.length→inB (hs.getD i 0) 0 100=true):hsB hs=true:=by
 rw [hsB,List.all_eq_true];intro x hx;obtain ⟨i,hi,rfl⟩:=List.mem_iff_getElem.1 hx;have:=h i hi
 simpa [List.getD,hi] using this
theorem zeq {hs:List Int} {k:Nat} (h:∀ i,i < k→inB (hs.getD i 0) 0 100=true) (hk:inB (hs.getD k 0) 0 100=true):∀ i,i < k+1→inB (hs.getD i 0) 0 100=true:=fun i hi=>by
 rcases Nat.lt_or_eq_of_le (Nat.lt_succ_iff.1 hi) with h1 | rfl
 ·exact h i h1
 ·exact hk
theorem zbC (ac ar:Option Addr) (cc cr:Nat) (t:T) (width:Int) (vh:Value) (hs:List Int) (w:World) {z:Nat} (hc:z07 w z (.slice ac t.cols.length cc) t.cols) (hr:z01 w z (.slice ar t.rows.length cr) t.rows) (hh:zu w vh hs) :
  Calls Tryz.prog 17 #[.agg #[.slice ac t.cols.length cc,.int .i64 t.head,.int .i64 t.foot,.slice ar t.rows.length cr,.int .i64 t.gap],.int .i64 width,vh] w fun e w'=>e=.returned (.bool (z2S t width hs))∧Below w.heap.size w w':=by
 obtain ⟨ah,ch,rfl,hlen⟩:=hh.form;have K0:=ze (Below.refl w.heap.size w) (.cells #[.slice ac t.cols.length cc,.int .i64 t.head,.int .i64 t.foot,.slice ar t.rows.length cr,.int .i64 t.gap] 26);have KM:=Hd (z4m ac ar cc cr t width _ (hc.kept K0) (hr.kept K0));have HK0:=Hd K0;have HI:=Hd (zO (hs.length:Int) 1 60);have HH:=Hd hh;have HV:Hid (z2S t width hs=((zC t && inB width 0 300) && (inB hs.length 1 60 && hsB hs))):=rfl;clear hc hr K0 hh;generalize (zC t && inB width 0 300)=m at KM HV
 cases m with
 | false =>
  rw [HV.out];go_enter Tryz.func17,Tryz.ntmps17;go_wp2_with fail
  refine KM.out.mono ?_;rintro e w1 ⟨rfl,hb1⟩;have HK1:=Hd (zh HK0.out hb1);clear hb1 KM HK0 HV;go_wp2;go_ret;exact ⟨rfl,HK1.out⟩
 | true =>
  generalize inB (hs.length:Int) 1 60=n at HI HV
  cases n with
  | false =>
   rw [HV.out];go_enter Tryz.func17,Tryz.ntmps17;go_wp2_with fail
   refine KM.out.mono ?_;rintro e w1 ⟨rfl,hb1⟩;have HK1:=Hd (zh HK0.out hb1);clear hb1 KM HK0 HV;go_wp2_with fail
   refine (HI.out _).mono ?_;rintro e w2 ⟨rfl,rfl⟩;go_wp2;go_ret;exact ⟨rfl,HK1.out⟩
  | true =>
   have HW:Hid (z2S t width hs=hsB hs):=(by rw [Hid,HV.out];rfl);clear HV;go_enter Tryz.func17,Tryz.ntmps17;go_wp2_with fail
   refine KM.out.mono ?_;rintro e w1 ⟨rfl,hb1⟩;have HK1:=Hd (zh HK0.out hb1);clear hb1 KM HK0;go_wp2_with fail
   refine (HI.out _).mono ?_;rintro e w2 ⟨rfl,rfl⟩;clear HI;have H2:=Hd (HH.out.kept HK1.out);go_wp2_with fail
   go_loop [21] (fun i=>∃ k:Nat,k≤hs.length∧i=.int .i64 k∧Hid (∀ i,i < k→inB (hs.getD i 0) 0 100=true)) (fun i=>hs.length - (intOf i).toNat)
   case atStart=>exact ⟨0,Nat.zero_le _,rfl,fun i hi=>absurd hi (Nat.not_lt_zero _)⟩
   case round =>
    obtain ⟨k,hk,rfl,HA⟩:=hrel;by_cases hlt:k < hs.length
    ·obtain ⟨b,off,cap',e',hc1,hc2,hbl,hx⟩:=H2.out.get hlt;simp only [Value.slice.injEq,true_and] at e';obtain ⟨rfl,rfl⟩:=e';unfold maxLen at hc2;have HN:=Hd (fun h=>zgR hlt h);have HY:=Hd (fun h=>zeq HA.out h);generalize hs.getD k 0=x at hx HN HY;have HX:=Hd (zO x 0 100);go_wp2_with fail
     refine (HX.out _).mono ?_
     cases hin:inB x 0 100 with
     | false =>
      have HF:=Hd (HN.out hin);rintro e w3 ⟨rfl,rfl⟩;clear hin;go_wp2;go_ret;exact ⟨by rw [HW.out,HF.out];rfl,HK1.out⟩
     | true =>
      have HF:=Hd (HY.out hin);rintro e w3 ⟨rfl,rfl⟩;clear hin;go_wp2
      go_round
      case rel=>exact ⟨k+1,by omega,by go_num,HF⟩
      case measure=>simp [intOf];omega
    ·obtain rfl:k=hs.length:=by omega
     have HF:=Hd (zep HA.out);go_wp2;go_ret;exact ⟨by rw [HW.out,HF.out];rfl,HK1.out⟩
theorem z8l (w:World) (B:Nat) (hB:B≤w.heap.size):zJ (w.alloc (.cells #[] 80)) B (.slice (some ⟨w.heap.size,0,none⟩) 0 0) [] :=
 ⟨rfl,.inr ⟨w.heap.size,0,#[],rfl,hB,zj _ _,Nat.le_refl _,Nat.zero_le _,rfl,rfl⟩⟩
theorem z6G (hs:List Int) (a n:Nat) (hn:a+n≤hs.length) (hl:hs.length≤1000) (x y:Int) (hx:x=a) (hy:y=(a:Int)+n) (v:Value) (w:World) (h:zu w v hs) :
  Calls Tryz.prog 45 #[v,.int .i64 x,.int .i64 y] w fun e w'=>∃ u,e=.returned u∧zJ w' w.heap.size u (zK hs a n)∧Below w.heap.size w w':=by
 obtain ⟨i0,hi0,hz0,hz1,hz2⟩:=info_parts z7U;obtain ⟨av,cv,rfl,_⟩:=h.form;subst hx hy;have H:=Hd h;have K0:=Hd (ze (Below.refl w.heap.size w) (.cells #[] 80));have X0:=Hd (z8l w w.heap.size (Nat.le_refl _));clear h;go_enter Tryz.func45,Tryz.ntmps45;go_wp2_with fail
 go_loopw [7,8] (fun o i W=>∃ k:Nat,k≤n∧i=.int .i64 ((a:Int)+(k:Int))∧Hid (zJ W w.heap.size o (zK hs a k))∧Hid (Below w.heap.size w W)) (fun _ i _=>a+n - (intOf i).toNat)
 case atStart=>exact ⟨0,Nat.zero_le _,by simp,X0,K0⟩
 case round =>
  clear X0 K0;obtain ⟨k,hk,rfl,HO,HB⟩:=hrel;obtain ⟨ao,co,rfl⟩:=HO.out.form;rw [z1O] at HO ⊢;by_cases hlt:k < n
  case neg =>
   obtain rfl:k=n:=by omega
   go_wp2;go_ret;exact ⟨_,rfl,HO.out,HB.out⟩
  obtain ⟨b,off,cap',e',hc1,hc2,hbl,hx⟩:=(H.out.kept HB.out).get (i:=a+k) (by omega);simp only [Value.slice.injEq,true_and] at e';obtain ⟨rfl,rfl⟩:=e';unfold maxLen at hc2;have HE:=Hd (z6C hs k a);have hlw:=z1O hs k a;have hO:=HO.out;unfold zJ at hO;rw [hlw] at hO;have hsz:=HB.out.size;generalize hs.getD (a+k) 0=y at hx HE;generalize zK hs a k=ps at HO HE hlw hO;go_wp2_with (at_builtin;refine wpList_append_own _ rfl _ _ 73 rfl w.heap.size 80 i0 _ 3 24 Tryz.underlying73 hi0 hz0 hz1 hz2 rfl (by decide) _ _ _ rfl (hO.alloc _) ⟨wr.heap.size,0,none⟩ 1 1 (z1B ⟨(a:Int)+(k:Int),0,y⟩) rfl rfl ?c1 ?c2 ?c3 ?c4 ?c5 ?_)
  case c1=>exact z0D (zj wr _)
  case c2=>simp [z1B,Value.oneCell']
  case c3=>unfold maxLen;omega
  case c4=>omega
  case c5=>simp;omega
  intro v' w2 hown' hgrow' _;have HB2:=Hd ((ze HB.out (.cells #[.int .i64 ((a:Int)+(k:Int)),.int .i64 0,.int .i64 y] 80)).grown hgrow' (by simp;omega) (fun b hb=>(hO.lt b hb).1))
  have HO2:Hid (zJ w2 w.heap.size v' (zK hs a (k+1))):=by
   show zJ _ _ _ _;rw [HE.out,Int.natCast_add];exact zJ.next (by rw [hlw];exact hown')
  obtain ⟨g',cap',rfl⟩:=Joins.ownsRow_form hown' (by omega);clear hown' hgrow' hO HO HB hx hlw;go_wp2;go_roundw
  case rel=>exact ⟨k+1,by omega,by go_num,HO2,HB2⟩
  case measure=>simp [intOf];omega
theorem zi8 {rm:List Int} {K:Nat} (hl:0 < rm.length) (h:K < rm.length):zD rm K=rm.getD K 0:=by
 unfold zD;have:min K (rm.length - 1)=K:=(by omega);rw [this]
theorem zgT {rm:List Int} {K:Nat} (h:¬ K < rm.length):zD rm K=rm.getD (rm.length - 1) 0:=by
 unfold zD;have:min K (rm.length - 1)=rm.length - 1:=(by omega);rw [this]
theorem zaf (rm:List Int) (hl:0 < rm.length) (hl2:rm.length≤1000) (K:Nat) (hK:K≤100000) (v:Value) (w:World) (h:zu w v rm) :
  Calls Tryz.prog 93 #[v,.int .i64 (K:Int)] w fun e w'=>e=.returned (.int .i64 (zD rm K))∧Below w.heap.size w w':=by
 obtain ⟨av,cv,rfl,_⟩:=h.form;have H:=Hd h;clear h;by_cases hlt:K < rm.length
 ·have HR:=Hd (zi8 hl hlt);obtain ⟨b,off,cap',e',hc1,hc2,hbl,hx⟩:=H.out.get hlt;simp only [Value.slice.injEq,true_and] at e';obtain ⟨rfl,rfl⟩:=e';unfold maxLen at hc2;generalize rm.getD K 0=y at hx HR;go_enter Tryz.func93,Tryz.ntmps93;go_wp2;go_ret;exact ⟨by rw [HR.out];rfl,Below.refl _ _⟩
 ·have HR:=Hd (zgT hlt);obtain ⟨m,hm⟩:∃ m,rm.length=m+1:=Nat.exists_eq_succ_of_ne_zero (by omega);obtain ⟨b,off,cap',e',hc1,hc2,hbl,hx⟩:=H.out.get (i:=rm.length - 1) (by omega);simp only [Value.slice.injEq,true_and] at e';obtain ⟨rfl,rfl⟩:=e';unfold maxLen at hc2;generalize rm.getD (rm.length - 1) 0=y at hx HR;have e1:rm.length - 1=m:=(by omega);rw [e1] at hx;rw [hm] at hc1 hlt ⊢;clear H hl hm e1;go_enter Tryz.func93,Tryz.ntmps93;go_wp2;go_ret;exact ⟨by rw [HR.out];rfl,Below.refl _ _⟩
theorem z7t (v:Value) (ps:List PgS) (w:World) {z:Nat} (h:z2I w z v ps) :
  Calls Tryz.prog 94 #[v] w fun e w'=>e=.returned (.int .i64 (zbX ps))∧Below w.heap.size w w':=by
 obtain ⟨a,cap,rfl,hlen⟩:=At.form h;have H:=Hd h;clear h;go_enter Tryz.func94,Tryz.ntmps94;go_wp2_with fail
 go_loopw [3,4] (fun s i W=>∃ k:Nat,k≤ps.length∧i=.int .i64 k∧s=.int .i64 (wrap64 (z3y ps k))∧Hid (Below w.heap.size w W)) (fun _ i _=>ps.length - (intOf i).toNat)
 case atStart=>exact ⟨0,Nat.zero_le _,rfl,by simp [z3y,z6B],Below.refl _ _⟩
 case round =>
  obtain ⟨k,hk,rfl,rfl,HB⟩:=hrel;by_cases hlt:k < ps.length
  ·obtain ⟨b,off,cap',e',hc1,hc2,hbl,hx⟩:=At.get (H.out.kept HB.out) hlt;simp only [Value.slice.injEq,true_and] at e';obtain ⟨rfl,rfl⟩:=e';have HS:=Hd (zit ps k);generalize ps.getD k dP=x at hx HS;generalize wrap64 (z3y ps k)=s at HS ⊢;obtain ⟨x0,x1,x2⟩:=hx;unfold maxLen at hc2;have hkl:(k:Int) < (ps.length:Int):=(by omega);have hk0:(0:Int)≤(k:Int):=(by omega);go_wp2_with fail
   go_quiet (fail)
   go_wp2;go_roundw
   case rel=>exact ⟨k+1,by omega,by go_num,by rw [← HS.out],z3V HB.out nq⟩
   case measure=>simp [intOf];omega
  ·obtain rfl:k=ps.length:=by omega
   go_wp2;go_ret;exact ⟨rfl,HB.out⟩
theorem zbE {w w':World} {base:Nat} {e:TypeId} {sz:Nat} {v:Value} {m:Nat} {xs:List Value} (h:w.ownsRow base e sz v m xs) (hb:Below w.heap.size w w'):w'.ownsRow base e sz v m xs :=
 ⟨h.1,h.2.elim Or.inl (fun ⟨g,cap,cur,hv,hg,hc,r⟩=>Or.inr ⟨g,cap,cur,hv,hg,(hb.block g (bL hc)).trans hc,r⟩)⟩
structure P9 (w:World) (B P:Nat) (pv:Value) (us:List Value) (pgs:List (List PgS)) (gv:Value) (page:List PgS):Prop where
 own:w.ownsRow B 73 1 pv us.length us
 rows:zZ w B us pgs
 page:zJ w P gv page
 le:B≤P
 hi:P≤w.heap.size
 top:∀ i,i < us.length→∀ g,(us.getD i (.slice none 0 0)).ownBlock=some g→g < P
theorem P9.kept {w w':World} {B P:Nat} {pv:Value} {us:List Value} {pgs:List (List PgS)} {gv:Value} {page:List PgS} (h:P9 w B P pv us pgs gv page) (k:Below w.heap.size w w'):P9 w' B P pv us pgs gv page :=
 ⟨zbE h.own k,h.rows.kept k,h.page.kept k,h.le,Nat.le_trans h.hi k.size,h.top⟩
theorem P9.len {w:World} {B P:Nat} {pv:Value} {us:List Value} {pgs:List (List PgS)} {gv:Value} {page:List PgS} (h:P9 w B P pv us pgs gv page):us.length=pgs.length:=h.rows.1
theorem zdQ {w w':World} {B base:Nat} {v U:Value} {n m:Nat} {us xs:List Value} (h:w.ownsRow B 73 1 v n us) (hU:w.ownsRow base 80 3 U m xs) (k:w.grownBy w' U.ownBlock):w'.ownsRow B 73 1 v n us :=
 ⟨h.1,h.2.elim Or.inl (fun ⟨g,cap,cur,hv,hg,hc,r⟩=>Or.inr ⟨g,cap,cur,hv,hg,zY hc k (z08 (zo hU hc (by decide))),r⟩)⟩
theorem P9.push {w w2:World} {B P:Nat} {pv v':Value} {us:List Value} {pgs:List (List PgS)} {gv:Value} {page:List PgS} {o:Obj} (h:P9 w B P pv us pgs gv page) (hg:(w.alloc o).grownBy w2 pv.ownBlock) (ho:w2.ownsRow B 73 1 v' (us.length+1) (us ++ [gv])) (hB:B≤w.heap.size) :
  P9 (w2.alloc (.cells #[] 80)) B w2.heap.size v' (us ++ [gv]) (pgs ++ [page]) (.slice (some ⟨w2.heap.size,0,none⟩) 0 0) []:=by
 have KA:=ze (Below.refl w.heap.size w) o;have KB:=ze (Below.refl w2.heap.size w2) (.cells #[] 80);have hOA:=h.own.alloc o;have hR:=((h.rows.kept KA).grown hOA hg).app (zZ.one (((h.page.base h.le).kept KA).grown hOA hg));have hs:=hg.size;rw [World.size_alloc] at hs;refine ⟨?_,hR.kept KB,z8l w2 w2.heap.size (Nat.le_refl _),by omega,by simp,fun i hi g e=>?_⟩
 ·rw [List.length_append];exact zbE ho KB
 ·have h1:=hR.2 i (by rw [← hR.1];exact hi);exact (h1.lt g e).2
theorem P9.add {w w2:World} {B P:Nat} {pv v':Value} {us:List Value} {pgs:List (List PgS)} {gv:Value} {page page':List PgS} (h:P9 w B P pv us pgs gv page) (hg:w.grownBy w2 gv.ownBlock) (ho:zJ w2 P v' page'):P9 w2 B P pv us pgs v' page':=by
 have hpA:w.ownsRow P 80 3 gv page.length (page.flatMap z1B):=h.page;refine ⟨zdQ h.own hpA hg,⟨h.rows.1,fun i hi=>?_⟩,ho,h.le,Nat.le_trans h.hi hg.size,h.top⟩;have h1:=h.rows.2 i hi
 cases hb:(us.getD i (.slice none 0 0)).ownBlock with
 | none=>exact World.ownsRow.kept h1 hg (.inl hb)
 | some g =>
  refine World.ownsRow.kept h1 hg (.inr fun e=>?_);have h2:=h.top i (by rw [h.rows.1];exact hi) g hb;rw [hb] at e;have:=(hpA.lt g e.symm).1;omega
theorem P9.grew {w w2:World} {B P:Nat} {pv:Value} {us:List Value} {pgs:List (List PgS)} {gv:Value} {page:List PgS} {w0:World} (h:P9 w B P pv us pgs gv page) (hw:Below B w0 w) (hg:w.grownBy w2 gv.ownBlock) (hB:B≤w.heap.size):Below B w0 w2 :=
 hw.grown hg hB (fun b hb=>by have:=(World.ownsRow.lt h.page b hb).1;have:=h.le;omega)
theorem P9.pushed {w w2:World} {B P:Nat} {pv:Value} {us:List Value} {pgs:List (List PgS)} {gv:Value} {page:List PgS} {w0:World} (h:P9 w B P pv us pgs gv page) (hw:Below B w0 w) {o o2:Obj} (hg:(w.alloc o).grownBy w2 pv.ownBlock) (hB:B≤w.heap.size):Below B w0 (w2.alloc o2) :=
 (((hw.trans ((ze (Below.refl w.heap.size w) o).mono hB)).grown hg (by simp;omega) (fun b hb=>(World.ownsRow.lt h.own b hb).1))).trans ((ze (Below.refl w2.heap.size w2) o2).mono (by have:=hg.size;simp at this;omega))
theorem zJ.joined {w:World} {B:Nat} {v:Value} {a b:List PgS} (h:w.ownsRow B 80 3 v (a.length+b.length) (a.flatMap z1B ++ b.flatMap z1B)):zJ w B v (a ++ b):=by
 unfold zJ;rw [List.length_append,List.flatMap_append];exact h
structure TF (w w':World):Prop where
 size:w.heap.size≤w'.heap.size
 blk:∀ (k:Nat) (cur:Array Value) (e:TypeId),w.heap[k]?=some (Obj.cells cur e)→e ≠ 80→e ≠ 73→w'.heap[k]?=some (Obj.cells cur e)
theorem TF.refl (w:World):TF w w:=⟨Nat.le_refl _,fun _ _ _ h _ _=>h⟩
theorem TF.trans {a b c:World} (h:TF a b) (k:TF b c):TF a c:=⟨Nat.le_trans h.size k.size,fun q cur e h1 h2 h3=>k.blk q cur e (h.blk q cur e h1 h2 h3) h2 h3⟩
theorem TF.of_below {w w':World} (h:Below w.heap.size w w'):TF w w':=⟨h.size,fun k _ _ h1 _ _=>(h.block k (bL h1)).trans h1⟩
theorem TF.alloc {w w':World} (h:TF w w') (o:Obj):TF w (w'.alloc o):=h.trans (.of_below (ze (Below.refl _ _) o))
theorem TF.grownS {w W W':World} {B m:Nat} {U:Value} {xs:List Value} (h:TF w W) (hU:W.ownsRow B 80 3 U m xs) (k:W.grownBy W' U.ownBlock):TF w W' :=
 ⟨Nat.le_trans h.size k.size,fun q cur e h1 h2 h3=>zY (h.blk q cur e h1 h2 h3) k (z08 (zo hU (h.blk q cur e h1 h2 h3) (Ne.symm h2)))⟩
theorem TF.grownP {w W W':World} {B m:Nat} {U:Value} {xs:List Value} (h:TF w W) (hU:W.ownsRow B 73 1 U m xs) (k:W.grownBy W' U.ownBlock):TF w W' :=
 ⟨Nat.le_trans h.size k.size,fun q cur e h1 h2 h3=>zY (h.blk q cur e h1 h2 h3) k (z08 (zo hU (h.blk q cur e h1 h2 h3) (Ne.symm h3)))⟩
theorem TF.own {w w':World} {base sz m:Nat} {e:TypeId} {v:Value} {xs:List Value} (h:TF w w') (ho:w.ownsRow base e sz v m xs) (h2:e ≠ 80) (h3:e ≠ 73):w'.ownsRow base e sz v m xs :=
 ⟨ho.1,ho.2.elim Or.inl (fun ⟨g,cap,cur,hv,hg,hc,r⟩=>Or.inr ⟨g,cap,cur,hv,hg,h.blk g cur e hc h2 h3,r⟩)⟩
def z49 (rm:List Int) (pgs:List (List PgS)) (page piece:List PgS):List (List PgS) × List PgS:=if z0B page piece (zD rm pgs.length)=true then (pgs,page ++ piece) else (pgs ++ [page],piece)
theorem zJ.news {w:World} {B g n cap:Nat} {ps:List PgS} (h:zJ w B (.slice (some ⟨g,0,none⟩) n cap) ps):∀ j u,(ps.flatMap z1B)[j]?=some u→w.cell? ((⟨g,0,none⟩:Addr).add j)=some u:=by
 intro j u hj;unfold zJ at h
 rcases h.2 with ⟨e,_⟩ | ⟨g',cap',cur,e,hb,hg,h1,h2,h3,h4⟩
 ·cases e
 ·simp only [Value.slice.injEq,Option.some.injEq,Addr.mk.injEq,and_true] at e;obtain ⟨rfl,rfl,rfl⟩:=e
  have hjn:j < ps.length * 3:=by
   have:=(List.getElem?_eq_some_iff.1 hj).1;rw [h.1] at this;omega
  rw [← h4,List.getElem?_take_of_lt (by omega)] at hj;have e2:(⟨g,0,none⟩:Addr).add j=⟨g,j,none⟩:=(by simp [Addr.add];intro h;exact h.symm);rw [e2,zf hg,← Array.getElem?_toList,hj]
theorem z7u:∀ ps:List PgS,(ps.flatMap z1B).length=ps.length * 3
 | []=>rfl
 | s :: l=>by
  rw [List.flatMap_cons,List.length_append,z7u l,List.length_cons];simp only [z1B,List.length_cons,List.length_nil];omega
theorem z9j (ps:List PgS):∀ u ∈ ps.flatMap z1B,u.oneCell'=true:=by
 intro u hu;obtain ⟨s,_,hs⟩:=List.mem_flatMap.1 hu;simp only [z1B,List.mem_cons,List.not_mem_nil,or_false] at hs
 rcases hs with rfl | rfl | rfl <;> rfl
theorem z6H (rm:List Int) (hl:0 < rm.length) (hl2:rm.length≤1000) (hrm:∀ k,-1000000≤zD rm k∧zD rm k≤1000) (vr:Value) (B P:Nat) (pv gv vb:Value) (us:List Value) (pgs:List (List PgS)) (page piece:List PgS) (h1:z3o page) (h2:z3o piece) (hpl:pgs.length≤50000) (hgl:page.length≤50000) (hne:piece ≠ []) (hpc:piece.length≤50000)
  (w:World) (hB:B≤w.heap.size) (hr:zu w vr rm) (hP:P9 w B P pv us pgs gv page) (hb:zJ w B vb piece) :
  Calls Tryz.prog 44 #[pv,gv,vb,vr] w fun e w'=>∃ P' pv' us' gv',e=.returned (.tuple #[pv',gv'])∧P9 w' B P' pv' us' (z49 rm pgs page piece).1 gv' (z49 rm pgs page piece).2∧Below B w w'∧TF w w':=by
 obtain ⟨i0,hi0,hz0,hz1,hz2⟩:=info_parts z7U;obtain ⟨j0,hj0,hy0,hy1,hy2⟩:=info_parts z5Z;obtain ⟨ap,cp,rfl,_⟩:=z0i hP.own;obtain ⟨ag,cg,rfl⟩:=hP.page.form;obtain ⟨gb,cb,rfl⟩:=Joins.ownsRow_form hb (by cases piece with | nil=>exact absurd rfl hne | cons a l=>simp);have hul:=hP.len;have hub:us.length≤50000:=(by omega);rw [hul] at hP ⊢;have KR:=Hd (fun W (h:zu W vr rm)=>zaf rm hl hl2 pgs.length (by omega) vr W h);have KA:=Hd (fun W z (h:z2I W z (.slice ag page.length cg) page)=>(z4r h1 ▸ z7t _ page W h:Calls Tryz.prog 94 #[.slice ag page.length cg] W fun e w'=>e=.returned (.int .i64 (hiS page))∧Below W.heap.size W w'));have KB:=Hd (fun W z (h:z2I W z (.slice (some ⟨gb,0,none⟩) piece.length cb) piece)=>(z4r h2 ▸ z7t _ piece W h:Calls Tryz.prog 94 #[.slice (some ⟨gb,0,none⟩) piece.length cb] W fun e w'=>e=.returned (.int .i64 (hiS piece))∧Below W.heap.size W w'));have HP:=Hd hP;have HR:=Hd hr;have HBk:=Hd hb;have hrb:=hrm pgs.length;unfold z3o at h1 h2;clear hP hr hb hrm hul;by_cases he:page=[]
 ·have HS:Hid (z49 rm pgs page piece=(pgs,page ++ piece)):=Hd (by unfold z49;rw [if_pos (by subst he;rfl)]);subst he;simp only [List.length_nil] at HP KA ⊢;have hO:=HP.out.page;unfold zJ at hO;go_enter Tryz.func44,Tryz.ntmps44;go_wp2_with (at_builtin;refine wpList_append_own _ rfl _ _ 73 rfl P 80 i0 _ 3 24 Tryz.underlying73 hi0 hz0 hz1 hz2 rfl (by decide) _ _ _ rfl hO ⟨gb,0,none⟩ piece.length cb (piece.flatMap z1B) rfl (z7u piece) ?c1 ?c2 ?c3 ?c4 ?c5 ?_)
  case c1=>exact HBk.out.news
  case c2=>exact z9j piece
  case c3=>unfold maxLen;simp only [List.length_nil];omega
  case c4=>simp only [List.length_nil];omega
  case c5=>exact HP.out.hi
  intro v' w2 hown' hgrow' _;have HP2:=Hd (HP.out.add hgrow' (show zJ w2 P v' ([] ++ piece) from hown'));have HK2:=Hd (And.intro (HP.out.grew (Below.refl _ _) hgrow' hB) ((TF.refl w).grownS HP.out.page hgrow'));clear hown' hgrow' hO;go_wp2;exact bodyPost_ret (v:=.tuple #[.slice ap pgs.length cp,v']) (by simp [results,Tryz.results44,go_sem]) rfl ⟨P,_,us,v',rfl,by rw [HS.out];exact HP2.out,HK2.out⟩
 ·have hpos:(0:Int) < (page.length:Int):=by
   have:=List.length_pos_iff.2 he;omega
  have hT:z0B page piece (zD rm pgs.length)=decide (hiS page+hiS piece≤zD rm pgs.length):=by
   unfold z0B
   cases page with
   | nil=>exact absurd rfl he
   | cons a l=>rfl
  have HT:=Hd hT;have HW:Hid (z49 rm pgs page piece=if z0B page piece (zD rm pgs.length)=true then (pgs,page ++ piece) else (pgs ++ [page],piece)):=Hd rfl;have hb1:=HP.out.page.at;have hb2:=HBk.out.at;have hlg:(page.length:Int)≤50000:=(by omega);have hwr:wrap64 (hiS page+hiS piece)=hiS page+hiS piece:=z35 (by omega);clear hT he;go_enter Tryz.func44,Tryz.ntmps44;go_wp2_with fail
  refine (KA.out _ _ hb1).mono ?_;rintro e w1 ⟨rfl,k1⟩;go_wp2_with fail
  refine (KB.out _ _ (hb2.kept k1)).mono ?_;rintro e w2 ⟨rfl,k2⟩;have K2:=zh k1 k2;have HR2:=HR.out.kept K2;have HPk:=Hd (HP.out.kept K2);have HBk2:=Hd (HBk.out.kept K2);have HK2:=Hd (K2.mono hB);have HF2:=Hd (TF.of_below K2);go_wp2_with fail
  refine (KR.out _ HR2).mono ?_;rintro e w3 ⟨rfl,k3⟩;replace HPk:=Hd (HPk.out.kept k3);replace HBk2:=Hd (HBk2.out.kept k3);replace HK2:=Hd (HK2.out.trans (k3.mono (Nat.le_trans hB K2.size)));replace HF2:=Hd (HF2.out.trans (TF.of_below k3));have hB3:B≤w3.heap.size:=Nat.le_trans hB (Nat.le_trans K2.size k3.size);clear k1 k2 k3 K2 HR2 hb1 hb2 KA KB KR HP HBk HR hB;generalize zD rm pgs.length=room at HT HW hrb ⊢;generalize hiS page=A at HT h1 hwr ⊢;generalize hiS piece=A2 at HT h2 hwr ⊢;by_cases hle:A+A2≤room
  ·have HS:Hid (z49 rm pgs page piece=(pgs,page ++ piece)):=Hd (by rw [HW.out,if_pos (by rw [HT.out];exact decide_eq_true hle)]);have hO:=HPk.out.page;unfold zJ at hO;go_wp2_with (at_builtin;refine wpList_append_own _ rfl _ _ 73 rfl P 80 i0 _ 3 24 Tryz.underlying73 hi0 hz0 hz1 hz2 rfl (by decide) _ _ _ rfl hO ⟨gb,0,none⟩ piece.length cb (piece.flatMap z1B) rfl (z7u piece) ?c1 ?c2 ?c3 ?c4 ?c5 ?_)
   case c1=>exact HBk2.out.news
   case c2=>exact z9j piece
   case c3=>unfold maxLen;omega
   case c4=>omega
   case c5=>exact HPk.out.hi
   intro v' w4 hown' hgrow' _;have HP4:=Hd (HPk.out.add hgrow' (zJ.joined hown'));have HK4:=Hd (And.intro (HPk.out.grew HK2.out hgrow' hB3) (HF2.out.grownS HPk.out.page hgrow'));clear hown' hgrow' hO;go_wp2;exact bodyPost_ret (v:=.tuple #[.slice ap pgs.length cp,v']) (by simp [results,Tryz.results44,go_sem]) rfl ⟨P,_,us,v',rfl,by rw [HS.out];exact HP4.out,HK4.out⟩
  ·have HS:Hid (z49 rm pgs page piece=(pgs ++ [page],piece)):=Hd (by rw [HW.out,if_neg (by rw [HT.out];simp only [decide_eq_true_eq];exact hle)]);have hO:=HPk.out.own;go_wp2_with (at_builtin;refine wpList_append_own _ rfl _ _ 45 rfl B 73 j0 _ 1 24 Tryz.underlying45 hj0 hy0 hy1 hy2 rfl (by decide) _ _ _ rfl (hO.alloc _) ⟨w3.heap.size,0,none⟩ 1 1 [.slice ag page.length cg] rfl rfl ?c1 ?c2 ?c3 ?c4 ?c5 ?_)
   case c1=>exact z0D (zj w3 (.cells #[.slice ag page.length cg] 73))
   case c2=>simp [Value.oneCell']
   case c3=>unfold maxLen;omega
   case c4=>omega
   case c5=>simp;omega
   intro v' w4 hown' hgrow' _;have HP4:=Hd (HPk.out.push hgrow' hown' hB3);have HK4:=Hd (HPk.out.pushed (o2:=.cells #[] 80) HK2.out hgrow' hB3);have HB4:=Hd (((HBk2.out.kept (ze (Below.refl w3.heap.size w3) _)).grown (hO.alloc (.cells #[.slice ag page.length cg] 73)) hgrow').kept (ze (Below.refl w4.heap.size w4) (.cells #[] 80)));have HF4:=Hd (((HF2.out.alloc _).grownP (hO.alloc (.cells #[.slice ag page.length cg] 73)) hgrow').alloc (.cells #[] 80));have hO4:=HP4.out.page;unfold zJ at hO4;have hB4:B≤(w4.alloc (.cells #[] 80)).heap.size:=(by have:=hgrow'.size;simp at this ⊢;omega);obtain ⟨a4,c4,e4⟩:=Joins.ownsRow_form hown' (by omega);subst e4;clear hown' hgrow' hO HPk HBk2 HK2;go_wp2_with (at_builtin;refine wpList_append_own _ rfl _ _ 73 rfl w4.heap.size 80 i0 _ 3 24 Tryz.underlying73 hi0 hz0 hz1 hz2 rfl (by decide) _ _ _ rfl hO4 ⟨gb,0,none⟩ piece.length cb (piece.flatMap z1B) rfl (z7u piece) ?c1 ?c2 ?c3 ?c4 ?c5 ?_)
   case c1=>exact HB4.out.news
   case c2=>exact z9j piece
   case c3=>unfold maxLen;simp only [List.length_nil];omega
   case c4=>simp only [List.length_nil];omega
   case c5=>exact HP4.out.hi
   intro v5 w5 hown' hgrow' _;have HP5:=Hd (HP4.out.add hgrow' (show zJ w5 w4.heap.size v5 ([] ++ piece) from hown'));have HK5:=Hd (And.intro (HP4.out.grew HK4.out hgrow' hB4) (HF4.out.grownS HP4.out.page hgrow'));clear hown' hgrow' hO4;go_wp2;exact bodyPost_ret (v:=.tuple #[.slice (some ⟨a4,0,none⟩) (us.length+1) c4,v5]) (by simp [results,Tryz.results44,go_sem]) rfl ⟨_,_,_,v5,rfl,by rw [HS.out];exact HP5.out,HK5.out⟩
theorem zdR (x f m:Int) (hx:I64 x) (hf:I64 f) (hm:I64 m) (w:World) :
  Calls Tryz.prog 120 #[.int .i64 x,.int .i64 f,.int .i64 m] w fun e w'=>e=.returned (.bool (z0H x f m))∧w'=w:=by
 unfold I64 at hx hf hm;by_cases h1:x < f
 ·have e:z0H x f m=false:=(by simp [z0H];omega);rw [e];go_enter Tryz.func120,Tryz.ntmps120;go_wp2;go_ret;exact ⟨rfl,rfl⟩
 ·by_cases h2:m≤0
  ·have e:z0H x f m=false:=(by simp [z0H];omega);rw [e];go_enter Tryz.func120,Tryz.ntmps120;go_wp2;go_ret;exact ⟨rfl,rfl⟩
  ·by_cases h3:f < 0
   ·by_cases h4:0≤x
    ·have e:z0H x f m=decide (x < m+f):=by
      have:decide (x - f < m)=decide (x < m+f):=(by apply decide_eq_decide.2;omega);simp only [z0H,this];simp;omega
     rw [e];go_enter Tryz.func120,Tryz.ntmps120;go_wp2;go_ret;exact ⟨rfl,rfl⟩
    ·have e:z0H x f m=decide (x - f < m):=(by simp [z0H];omega);rw [e];go_enter Tryz.func120,Tryz.ntmps120;go_wp2;go_ret;exact ⟨rfl,rfl⟩
   ·have e:z0H x f m=decide (x - f < m):=(by simp [z0H];omega);rw [e];go_enter Tryz.func120,Tryz.ntmps120;go_wp2;go_ret;exact ⟨rfl,rfl⟩
theorem zdS (v:Value) (l:List Int) (hl:l.length≤1048576) (gap:Int) (x:GC) (hx:GOk x) (w:World) (h:zu w v l) :
  Calls Tryz.prog 90 #[v,.int .i64 gap,.agg #[.int .i64 x.row,.int .i64 x.col,.int .i64 x.rows,.int .i64 x.cols,.int .i64 x.ins]] w fun e w'=>e=.returned (.int .i64 (z2k l gap x))∧Below w.heap.size w w':=by
 obtain ⟨a,cap,rfl,hlen⟩:=h.form;obtain ⟨_,b1,_,b3,_⟩:=hx;have K0:=ze (Below.refl w.heap.size w) (.cells #[.int .i64 x.row,.int .i64 x.col,.int .i64 x.rows,.int .i64 x.cols,.int .i64 x.ins] 112);have X0:=zj w (.cells #[.int .i64 x.row,.int .i64 x.col,.int .i64 x.rows,.int .i64 x.cols,.int .i64 x.ins] 112);have c1:=zf (p:=1) X0;have c3:=zf (p:=3) X0;have H:=Hd (h.kept K0);have HB:=Hd K0;have HR:=Hd (fun (k:Nat) (hk:k≤1048576)=>zdR (k:Int) x.col x.cols (by unfold I64;omega) b1 b3);clear h b1 b3 K0 X0;go_enter Tryz.func90,Tryz.ntmps90;go_wp2_with fail
 generalize w.alloc (.cells #[.int .i64 x.row,.int .i64 x.col,.int .i64 x.rows,.int .i64 x.cols,.int .i64 x.ins] 112)=W0 at c1 c3 H HB ⊢;go_loop [7,8,9] (fun n s i=>∃ k:Nat,i=.int .i64 k∧k≤l.length∧n=.int .i64 (z1H (z2m l (z1S x) k) gap)∧s=.bool (decide ((z2m l (z1S x) k).length ≠ 0))) (fun _ _ i=>l.length - (intOf i).toNat)
 case atStart=>exact ⟨0,rfl,Nat.zero_le _,rfl,rfl⟩
 case round =>
  obtain ⟨k,rfl,hk,rfl,rfl⟩:=hrel;have d1:W0.cell? ⟨w.heap.size,1,none⟩=some (.int .i64 x.col):=c1;have d3:W0.cell? ⟨w.heap.size,3,none⟩=some (.int .i64 x.cols):=c3;by_cases hlt:k < l.length
  ·obtain ⟨b,off,cap',e',hc1,hc2,hbl,hy⟩:=H.out.get hlt;simp only [Value.slice.injEq,true_and] at e';obtain ⟨rfl,rfl⟩:=e';unfold maxLen at hc2;have KR:=Hd (HR.out k (by omega) W0)
   cases hin:z1S x k with
   | false =>
    have HL:=Hd (zaE (l:=l) hin);have hin':z0H (k:Int) x.col x.cols=false:=hin;rw [hin'] at KR;clear hin hin';generalize l.getD k 0=y at hy;generalize z2m l (z1S x) k=xs at HL ⊢;obtain ⟨z,hz⟩:∃ z,decide (xs.length ≠ 0)=z:=⟨_,rfl⟩;have HZ:=Hd hz;rw [hz];clear hz;go_wp2_with fail
    refine KR.out.mono ?_;rintro e w1 ⟨rfl,rfl⟩;go_wp2
    go_round
    case rel=>exact ⟨k+1,by go_num,by omega,by rw [HL.out],by rw [HL.out,HZ.out]⟩
    case measure=>simp [intOf];omega
   | true =>
    have HL:=Hd (z9b (l:=l) hin);have hin':z0H (k:Int) x.col x.cols=true:=hin;rw [hin'] at KR;clear hin hin';generalize l.getD k 0=y at hy HL;generalize z2m l (z1S x) k=xs at HL ⊢;by_cases hx0:xs.length=0
    ·have HN:=Hd (zes xs hx0 gap y);have hd:decide (xs.length ≠ 0)=false:=(by simp [hx0]);rw [hd];generalize z1H xs gap=z at HN ⊢;clear hx0 hd;go_wp2_with fail
     refine KR.out.mono ?_;rintro e w1 ⟨rfl,rfl⟩;go_wp2
     go_round
     case rel=>exact ⟨k+1,by go_num,by omega,by rw [HL.out,HN.out],by rw [HL.out];simp⟩
     case measure=>simp [intOf];omega
    ·have HN:=Hd (zfn xs hx0 gap y);have hd:decide (xs.length ≠ 0)=true:=(by simp [hx0]);rw [hd];generalize z1H xs gap=z at HN ⊢;clear hx0 hd;go_wp2_with fail
     refine KR.out.mono ?_;rintro e w1 ⟨rfl,rfl⟩;go_wp2
     go_round
     case rel=>exact ⟨k+1,by go_num,by omega,by rw [HL.out,HN.out],by rw [HL.out];simp⟩
     case measure=>simp [intOf];omega
  ·obtain rfl:k=l.length:=by omega
   have HV:Hid (z1H (z2m l (z1S x) l.length) gap=z2k l gap x):=rfl;rw [HV.out];generalize decide ((z2m l (z1S x) l.length).length ≠ 0)=z;go_wp2;go_ret;exact ⟨rfl,HB.out⟩
theorem z4L (w:World) (B:Nat) (hB:B≤w.heap.size):zq (w.alloc (.cells #[] 3)) B (w.alloc (.cells #[] 3)).heap.size (.slice (some ⟨w.heap.size,0,none⟩) 0 0) [] :=
 .inr ⟨w.heap.size,0,#[],rfl,hB,by simp,zj _ _,Nat.le_refl _,Nat.zero_le _,rfl,fun i hi=>absurd hi (Nat.not_lt_zero _)⟩
theorem zdU (t:Int) (ht:0≤t∧t≤100000) (a:Option Addr) (cap:Nat) (w:World) :
  Calls Tryz.prog 68 #[.int .i64 t,.slice a 0 cap] w fun e w'=>∃ x,e=.returned x∧zq w' w.heap.size w'.heap.size x []∧Below w.heap.size w w':=by
 have hmk:∀ u:World,(Instr.makeSlice 149 (.int .i64 0) (.int .i64 0)).run Tryz.prog u=.ok (.slice (some ⟨u.heap.size,0,none⟩) 0 0) (u.alloc (.cells (z48 0) 4)):=fun u=>zgN 0 (by omega) u;have CS:=Hd (fun (v:Value) (W:World) (h:zu W v [])=>z0z v [] (by simp) rfl W h);have emp:∀ (W:World) (aa:Option Addr),zu W (.slice aa 0 0) []:=fun W aa=>⟨aa,0,rfl,Nat.le_refl _,Nat.zero_le _,fun i hi=>absurd hi (Nat.not_lt_zero _)⟩;have EM:=Hd emp;clear emp
 cases a with
 | none =>
  go_enter Tryz.func68,Tryz.ntmps68;go_wp2_with (go_at_call 41;refine (CS.out _ _ (EM.out _ _)).mono ?_;rintro e wx ⟨rfl,ex⟩;cases ex)
  go_loopw [6] (fun s6 W=>s6=.int .i64 0∧Hid (Below w.heap.size w W)) (fun _ _=>0)
  case atStart=>exact ⟨rfl,ze (Below.refl _ _) _⟩
  case round =>
   obtain ⟨rfl,HB⟩:=hrel;have hwr:=HB.out.size;go_wp2_with (go_at_call 41;refine (CS.out _ _ (EM.out _ _)).mono ?_;rintro e wx ⟨rfl,ex⟩;cases ex)
   have R0:=Hd (((z4L wr w.heap.size hwr).below (ze (ze (Below.refl _ _) (.cells #[] 3)) (.cells (z48 0) 4)) (Nat.le_refl _)).base (Nat.le_refl _) (Nat.le_trans (by simp) (Nat.le_refl ((((wr.alloc (.cells #[] 3)).alloc (.cells #[] 3)).alloc (.cells (z48 0) 4)).heap.size))));have B0:=Hd (ze (ze (ze HB.out (.cells #[] 3)) (.cells #[] 3)) (.cells (z48 0) 4));go_loopw [8,9,11] (fun s8 s9 s11 W=>(∃ a8,s8=.slice a8 0 0)∧(∃ a9,s9=.slice a9 0 0)∧s11=.int .i64 0∧Hid (zq W w.heap.size W.heap.size s8 [])∧Hid (Below w.heap.size w W)) (fun _ _ _ _=>0)
   case atStart=>exact ⟨⟨_,rfl⟩,⟨_,rfl⟩,rfl,R0,B0⟩
   case round =>
    clear R0 B0;obtain ⟨⟨a8,rfl⟩,⟨a9,rfl⟩,rfl,HR,HB2⟩:=hrel;go_wp2_with (go_at_call 41;refine (CS.out _ _ (EM.out _ _)).mono ?_;rintro e wx ⟨rfl,ex⟩;cases ex)
    go_loopw [12] (fun s12 W=>s12=.int .i64 t∧Hid (zq W w.heap.size W.heap.size (.slice a8 0 0) [])∧Hid (Below w.heap.size w W)) (fun _ _=>0)
    case atStart=>exact ⟨by simp,HR,HB2⟩
    case round =>
     clear HR HB2;obtain ⟨rfl,HR,HB2⟩:=hrel;by_cases h0:0 < t
     ·go_wp2;go_ret;exact ⟨_,rfl,HR.out,HB2.out⟩
     ·go_wp2;go_ret;exact ⟨_,rfl,HR.out,HB2.out⟩
 | some p =>
  go_enter Tryz.func68,Tryz.ntmps68;go_wp2_with (go_at_call 41;refine (CS.out _ _ (EM.out _ _)).mono ?_;rintro e wx ⟨rfl,ex⟩;cases ex)
  go_loopw [6] (fun s6 W=>s6=.int .i64 0∧Hid (Below w.heap.size w W)) (fun _ _=>0)
  case atStart=>exact ⟨rfl,ze (Below.refl _ _) _⟩
  case round =>
   obtain ⟨rfl,HB⟩:=hrel;have hwr:=HB.out.size;go_wp2_with (go_at_call 41;refine (CS.out _ _ (EM.out _ _)).mono ?_;rintro e wx ⟨rfl,ex⟩;cases ex)
   have R0:=Hd (((z4L wr w.heap.size hwr).below (ze (ze (Below.refl _ _) (.cells #[] 3)) (.cells (z48 0) 4)) (Nat.le_refl _)).base (Nat.le_refl _) (Nat.le_trans (by simp) (Nat.le_refl ((((wr.alloc (.cells #[] 3)).alloc (.cells #[] 3)).alloc (.cells (z48 0) 4)).heap.size))));have B0:=Hd (ze (ze (ze HB.out (.cells #[] 3)) (.cells #[] 3)) (.cells (z48 0) 4));go_loopw [8,9,11] (fun s8 s9 s11 W=>(∃ a8,s8=.slice a8 0 0)∧(∃ a9,s9=.slice a9 0 0)∧s11=.int .i64 0∧Hid (zq W w.heap.size W.heap.size s8 [])∧Hid (Below w.heap.size w W)) (fun _ _ _ _=>0)
   case atStart=>exact ⟨⟨_,rfl⟩,⟨_,rfl⟩,rfl,R0,B0⟩
   case round =>
    clear R0 B0;obtain ⟨⟨a8,rfl⟩,⟨a9,rfl⟩,rfl,HR,HB2⟩:=hrel;go_wp2_with (go_at_call 41;refine (CS.out _ _ (EM.out _ _)).mono ?_;rintro e wx ⟨rfl,ex⟩;cases ex)
    go_loopw [12] (fun s12 W=>s12=.int .i64 t∧Hid (zq W w.heap.size W.heap.size (.slice a8 0 0) [])∧Hid (Below w.heap.size w W)) (fun _ _=>0)
    case atStart=>exact ⟨by simp,HR,HB2⟩
    case round =>
     clear HR HB2;obtain ⟨rfl,HR,HB2⟩:=hrel;by_cases h0:0 < t
     ·go_wp2;go_ret;exact ⟨_,rfl,HR.out,HB2.out⟩
     ·go_wp2;go_ret;exact ⟨_,rfl,HR.out,HB2.out⟩
theorem z6I (t:Int) (v:Value) (l:List Int) (hok:zB t l=true) (w:World) (h:zu w v l) :
  Calls Tryz.prog 68 #[.int .i64 t,v] w fun e w'=>∃ x,e=.returned x∧zq w' w.heap.size w'.heap.size x (zt t l)∧Below w.heap.size w w':=by
 by_cases h0:0 < l.length
 ·exact z8W t v l hok h0 w h
 ·obtain rfl:l=[]:=List.eq_nil_of_length_eq_zero (by omega);obtain ⟨a,cap,rfl,_⟩:=h.form;rw [z4g (by simp)];exact zdU t (z03 hok).1 a cap w
theorem zaj (t:Int) (v:Value) (l:List Int) (hok:zB t l=true) (w:World) (h:zu w v l) :
  Calls Tryz.prog 64 #[.int .i64 t,v] w fun e w'=>∃ x,e=.returned (.tuple #[x,.int .i64 (z2d t l)])∧zq w' w.heap.size w'.heap.size x (z0x t l)∧Below w.heap.size w w':=by
 obtain ⟨i0,hi0,hz0,hz1,hz2⟩:=info_parts zdb;obtain ⟨a,cap,rfl,_⟩:=h.form;have H:=Hd h;obtain ⟨ht,hl,hw⟩:=z03 hok;have hsb:=z2z hw;have HS:=Hd (fun W=>z0z (.slice a l.length cap) l (by omega) hw W);by_cases hs:l.sum≤t
 ·obtain ⟨e1,e2⟩:=z3S hok hs;have E1:=Hd e1;have E2:=Hd e2;clear e1 e2 hw;by_cases h0:0 < l.length
  ·obtain ⟨b,off,cap',e',_,_,hbw,_⟩:=h.get h0;simp only [Value.slice.injEq,true_and] at e';obtain ⟨rfl,rfl⟩:=e';clear h;go_enter Tryz.func64,Tryz.ntmps64;go_wp2_with fail
   refine (HS.out _ H.out).mono ?_;rintro e w1 ⟨rfl,ex⟩
   cases ex
   generalize l.sum=s at hs E2 hsb;go_wp2_with (at_builtin;refine wpList_append_own_at _ rfl _ _ 36 rfl w.heap.size 3 i0 (.int .i64 0) 1 8 Tryz.underlying36 hi0 hz0 hz1 hz2 rfl (by decide) _ 0 [] rfl (World.ownsRow_made (base:=w.heap.size) (e:=3) (size:=1) w #[] 0 (Nat.le_refl _) (Nat.zero_le _) rfl) ⟨b,off,none⟩ l.length cap (l.map (Value.int .i64)) rfl ?e1 (z8h H.out (ze (Below.refl _ _) _)) (zaK l) ?e4 ?e5 ?e6 ?_)
   case e1=>simp
   case e4=>unfold maxLen;omega
   case e5=>omega
   case e6=>simp
   intro v5 w5 ho5 hg5 _ _;have R5:=Hd (zq.of_owns (l:=l) (by simpa using ho5))
   have K5:Hid (Below w.heap.size w w5):=(ze (Below.refl w.heap.size w) (.cells #[] 3)).grown hg5 (by simp) (fun q hq=>by
    have:q=w.heap.size:=(by simpa [Value.ownBlock] using hq.symm)
    omega)
   obtain ⟨a5,c5,rfl⟩:=R5.out.form;clear ho5 hg5;go_wp2
   go_ret2
   exact ⟨_,z8d E2.out.symm,by rw [E1.out];exact R5.out,K5.out⟩
  ·obtain rfl:l=[]:=List.eq_nil_of_length_eq_zero (by omega);clear h
   cases a with
   | none =>
    go_enter Tryz.func64,Tryz.ntmps64;go_wp2_with fail
    refine (HS.out _ H.out).mono ?_;rintro e w1 ⟨rfl,ex⟩
    cases ex
    generalize ([]:List Int).sum=s at hs E2 hsb;go_wp2
    go_ret2
    exact ⟨_,z8d E2.out.symm,by rw [E1.out];exact z4L w _ (Nat.le_refl _),ze (Below.refl _ _) _⟩
   | some p =>
    go_enter Tryz.func64,Tryz.ntmps64;go_wp2_with fail
    refine (HS.out _ H.out).mono ?_;rintro e w1 ⟨rfl,ex⟩
    cases ex
    generalize ([]:List Int).sum=s at hs E2 hsb;go_wp2
    go_ret2
    exact ⟨_,z8d E2.out.symm,by rw [E1.out];exact z4L w _ (Nat.le_refl _),ze (Below.refl _ _) _⟩
 ·obtain ⟨e1,e2⟩:=z31 hok hs;have E1:=Hd e1;have E2:=Hd e2;have HSh:=Hd (fun W=>z6I t (.slice a l.length cap) l hok W);clear e1 e2 hw h;go_enter Tryz.func64,Tryz.ntmps64;go_wp2_with fail
  refine (HS.out _ H.out).mono ?_;rintro e w1 ⟨rfl,ex⟩
  cases ex
  generalize l.sum=s at hs hsb;go_wp2_with fail
  refine (HSh.out _ H.out).mono ?_;rintro e w2 ⟨x,rfl,hr,hb⟩;have R:=Hd (And.intro hr hb);clear hr hb;go_wp2
  go_ret2
  exact ⟨x,z8d E2.out.symm,by rw [E1.out];exact R.out.1,R.out.2⟩
theorem zbH (ac ar:Option Addr) (cc cr:Nat) (t:T) (width:Int) (vh:Value) (hs:List Int) (w:World) {z:Nat} (hc:z07 w z (.slice ac t.cols.length cc) t.cols) (hr:z01 w z (.slice ar t.rows.length cr) t.rows) (hh:zu w vh hs) :
  Calls Tryz.prog 16 #[.agg #[.slice ac t.cols.length cc,.int .i64 t.head,.int .i64 t.foot,.slice ar t.rows.length cr,.int .i64 t.gap],.int .i64 width,vh] w fun e w'=>e=.returned (.bool (z2S t width hs))∧Below w.heap.size w w':=by
 obtain ⟨ah,ch,rfl,hlen⟩:=hh.form;have K0:=ze (Below.refl w.heap.size w) (.cells #[.slice ac t.cols.length cc,.int .i64 t.head,.int .i64 t.foot,.slice ar t.rows.length cr,.int .i64 t.gap] 26);have KM:=Hd (zaW ac ar cc cr t _ (hc.kept K0) (hr.kept K0));have HJ:=Hd (z0n width 0 300);have HK0:=Hd K0;have HI:=Hd (z0n (hs.length:Int) 1 60);have HH:=Hd hh;have HV:Hid (z2S t width hs=((zC t && inB width 0 300) && (inB hs.length 1 60 && hsB hs))):=rfl;clear hc hr K0 hh;generalize zC t=m at KM HV
 cases m with
 | false =>
  rw [HV.out];go_enter Tryz.func16,Tryz.ntmps16;go_wp2_with fail
  refine KM.out.mono ?_;rintro e w1 ⟨rfl,hb1⟩;have HK1:=Hd (zh HK0.out hb1);clear hb1 KM HK0;go_wp2;go_ret;exact ⟨rfl,HK1.out⟩
 | true =>
  generalize inB width 0 300=j at HJ HV
  cases j with
  | false =>
   rw [HV.out];go_enter Tryz.func16,Tryz.ntmps16;go_wp2_with fail
   refine KM.out.mono ?_;rintro e w1 ⟨rfl,hb1⟩;have HK1:=Hd (zh HK0.out hb1);clear hb1 KM HK0;go_wp2_with fail
   refine (HJ.out _).mono ?_;rintro e w2 ⟨rfl,rfl⟩;go_wp2;go_ret;exact ⟨rfl,HK1.out⟩
  | true =>
   generalize inB (hs.length:Int) 1 60=n at HI HV
   cases n with
   | false =>
    rw [HV.out];go_enter Tryz.func16,Tryz.ntmps16;go_wp2_with fail
    refine KM.out.mono ?_;rintro e w1 ⟨rfl,hb1⟩;have HK1:=Hd (zh HK0.out hb1);clear hb1 KM HK0;go_wp2_with fail
    refine (HJ.out _).mono ?_;rintro e w2 ⟨rfl,rfl⟩;go_wp2_with fail
    refine (HI.out _).mono ?_;rintro e w2 ⟨rfl,rfl⟩;go_wp2;go_ret;exact ⟨rfl,HK1.out⟩
   | true =>
    have HW:Hid (z2S t width hs=hsB hs):=(by rw [Hid,HV.out];rfl);clear HV;go_enter Tryz.func16,Tryz.ntmps16;go_wp2_with fail
    refine KM.out.mono ?_;rintro e w1 ⟨rfl,hb1⟩;have HK1:=Hd (zh HK0.out hb1);clear hb1 KM HK0;go_wp2_with fail
    refine (HJ.out _).mono ?_;rintro e w2 ⟨rfl,rfl⟩;go_wp2_with fail
    refine (HI.out _).mono ?_;rintro e w2 ⟨rfl,rfl⟩;clear HI HJ;have H2:=Hd (HH.out.kept HK1.out);go_wp2_with fail
    go_loop [7] (fun i=>∃ k:Nat,k≤hs.length∧i=.int .i64 k∧Hid (∀ i,i < k→inB (hs.getD i 0) 0 100=true)) (fun i=>hs.length - (intOf i).toNat)
    case atStart=>exact ⟨0,Nat.zero_le _,rfl,fun i hi=>absurd hi (Nat.not_lt_zero _)⟩
    case round =>
     obtain ⟨k,hk,rfl,HA⟩:=hrel;by_cases hlt:k < hs.length
     ·obtain ⟨b,off,cap',e',hc1,hc2,hbl,hx⟩:=H2.out.get hlt;simp only [Value.slice.injEq,true_and] at e';obtain ⟨rfl,rfl⟩:=e';unfold maxLen at hc2;have HN:=Hd (fun h=>zgR hlt h);have HY:=Hd (fun h=>zeq HA.out h);generalize hs.getD k 0=x at hx HN HY;have HX:=Hd (z0n x 0 100);go_wp2_with fail
      refine (HX.out _).mono ?_
      cases hin:inB x 0 100 with
      | false =>
       have HF:=Hd (HN.out hin);rintro e w3 ⟨rfl,rfl⟩;clear hin;go_wp2;go_ret;exact ⟨by rw [HW.out,HF.out];rfl,HK1.out⟩
      | true =>
       have HF:=Hd (HY.out hin);rintro e w3 ⟨rfl,rfl⟩;clear hin;go_wp2
       go_round
       case rel=>exact ⟨k+1,by omega,by go_num,HF⟩
       case measure=>simp [intOf];omega
     ·obtain rfl:k=hs.length:=by omega
      have HF:=Hd (zep HA.out);go_wp2;go_ret;exact ⟨by rw [HW.out,HF.out];rfl,HK1.out⟩
end
section
open Go.RowKit Go.BigFrame
theorem zdX (v1 v2:Value) (pss:List (List PgS)) (w:World) {z1 z2:Nat} (h1:z1T w z1 v1 pss) (h2:z1T w z2 v2 pss) :
  Calls Tryz.prog 14 #[v1,v2] w fun e w'=>e=.returned (.bool true)∧Below w.heap.size w w':=by
 obtain ⟨a1,cap1,rfl,hlen⟩:=At.form h1;obtain ⟨a2,cap2,rfl,_⟩:=At.form h2;unfold maxLen at hlen;have hne:((pss.length:Int) != (pss.length:Int))=false:=(by simp);have hmx:Tryz.prog.follows .mixedOrders=true:=(by kernel_rfl);have H1:=Hd h1;have H2:=Hd h2;clear h1 h2;go_enter Tryz.func14,Tryz.ntmps14;go_wp2_with fail
 go_loopw [5] (fun i W=>∃ k:Nat,k≤pss.length∧i=.int .i64 k∧Hid (Below w.heap.size w W)) (fun i _=>pss.length - (intOf i).toNat)
 case atStart=>exact ⟨0,Nat.zero_le _,rfl,Below.refl _ _⟩
 case round =>
  obtain ⟨k,hk,rfl,HB⟩:=hrel;by_cases hlt:k < pss.length
  ·obtain ⟨b1,off1,cap1',u1,e1,hc11,hc12,hbl1,x0,hs1⟩:=(H1.out.kept HB.out).get hlt;simp only [Value.slice.injEq,true_and] at e1;obtain ⟨rfl,rfl⟩:=e1;obtain ⟨b2,z4q,cap2',u2,e2,hc21,hc22,hbl2,y0,hs2⟩:=(H2.out.kept HB.out).get hlt;simp only [Value.slice.injEq,true_and] at e2;obtain ⟨rfl,rfl⟩:=e2;unfold maxLen at hc12 hc22;generalize pss.getD k []=ps at hs1 hs2;obtain ⟨au,cu,rfl,hlu⟩:=At.form hs1;obtain ⟨av,cv,rfl,_⟩:=At.form hs2;unfold maxLen at hlu;have hnp:((ps.length:Int) != (ps.length:Int))=false:=(by simp);have hne2:=z0t wr;have m0:=zi (a:=⟨b1,off1+k,none⟩) hbl1 x0;have m1:=zi (a:=⟨b2,z4q+k,none⟩) hbl2 y0;have HS1:=Hd hs1;have HS2:=Hd hs2;have X0:=Hd x0;have Y0:=Hd y0;clear hs1 hs2 x0 y0;go_upto_region 6 with fail
   refine zn hmx (by kernel_rfl) ?_;repeat (go_big_quiet_step (fail))
   refine wpQuiet_nil ?_;intro W5 hw';obtain ⟨⟨Wx,hW5⟩,hw''⟩:=hw';subst hw'';have HB5:=Hd (zh HB.out hW5);replace HS1:=Hd (HS1.out.kept hW5);replace HS2:=Hd (HS2.out.kept hW5);replace X0:=Hd ((hW5.cell (p:=⟨b1,off1+k,none⟩) hbl1).trans X0.out);replace Y0:=Hd ((hW5.cell (p:=⟨b2,z4q+k,none⟩) hbl2).trans Y0.out);have hbx1:b1 < W5.heap.size:=Nat.lt_of_lt_of_le hbl1 hW5.size;have hbx2:b2 < W5.heap.size:=Nat.lt_of_lt_of_le hbl2 hW5.size;clear m0 m1 hne2 hW5 HB;go_wp2_with fail
   go_loopw [6] (fun i W=>∃ q:Nat,q≤ps.length∧i=.int .i64 q∧Hid (Below W5.heap.size W5 W)) (fun i _=>ps.length - (intOf i).toNat)
   case atStart=>exact ⟨0,Nat.zero_le _,rfl,Below.refl _ _⟩
   case round =>
    obtain ⟨q,hq,rfl,HBq⟩:=hrel;have c1:=(HBq.out.cell (p:=⟨b1,off1+k,none⟩) hbx1).trans X0.out;have c2:=(HBq.out.cell (p:=⟨b2,z4q+k,none⟩) hbx2).trans Y0.out;by_cases hql:q < ps.length
    ·obtain ⟨d1,o1,cd1,f1,hd11,hd12,hdl1,p0,p1,p2⟩:=At.get (HS1.out.kept HBq.out) hql;simp only [Value.slice.injEq,true_and] at f1;obtain ⟨rfl,rfl⟩:=f1;obtain ⟨d2,o2,cd2,f2,hd21,hd22,hdl2,r0,r1,r2⟩:=At.get (HS2.out.kept HBq.out) hql;simp only [Value.slice.injEq,true_and] at f2;obtain ⟨rfl,rfl⟩:=f2;unfold maxLen at hd12 hd22;generalize ps.getD q dP=s at p0 p1 p2 r0 r1 r2;have g0:(s.r == s.r)=true:=(by simp);have g1:(s.f == s.f)=true:=(by simp);have g2:(s.t == s.t)=true:=(by simp);have hne2:=z0t wr;have m0:=zi (a:=⟨b1,off1+k,none⟩) (Nat.lt_of_lt_of_le hbx1 HBq.out.size) c1;have m1:=zi (a:=⟨b2,z4q+k,none⟩) (Nat.lt_of_lt_of_le hbx2 HBq.out.size) c2;have m2:=zi hdl1 p0;have m3:=zi hdl1 p1;have m4:=zi hdl1 p2;have m5:=zi hdl2 r0;have m6:=zi hdl2 r1;have m7:=zi hdl2 r2;clear p0 p1 p2 r0 r1 r2;go_upto_region 11 with fail
     clear c1 c2;refine zn hmx (by kernel_rfl) ?_;repeat (go_big_quiet_step (fail))
     refine wpQuiet_nil ?_;intro W7 hw';obtain ⟨⟨Wy,hW7⟩,hw''⟩:=hw';subst hw'';have HB7:=Hd (zh HBq.out hW7);clear m0 m1 m2 m3 m4 m5 m6 m7 hne2 hW7;go_wp2;go_roundw
     case rel=>exact ⟨q+1,by omega,by go_num,HB7⟩
     case measure=>simp [intOf];omega
    ·have HB8:=Hd (zh HB5.out HBq.out);go_wp2;go_roundw
     case rel=>exact ⟨k+1,by omega,by go_num,HB8⟩
     case measure=>simp [intOf];omega
  ·go_wp2;go_ret;exact ⟨rfl,HB.out⟩
end
section
open Go.RowKit
theorem zke:z0k ⟨#[97,98,32,99]⟩=true:=by decide +kernel
theorem z9m (w:World):Calls Tryz.prog 10 #[] w fun e w'=>e=.returned (.bool true)∧w'=w:=by
 go_enter Tryz.func10,Tryz.ntmps10;go_wp2_with fail
 refine (z2h _ _ (by unfold maxLen;decide)).mono ?_;rw [zke];rintro e w1 ⟨rfl,rfl⟩;go_wp2;go_ret;exact ⟨rfl,rfl⟩
end
end Go.Proofs.YtggmjiddadjilamGreat
