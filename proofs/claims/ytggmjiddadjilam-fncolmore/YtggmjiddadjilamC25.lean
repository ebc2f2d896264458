/-
  PROVED HERE: what the model's EdtText answers: of a table that is ok the table with another text of one cell, or the table as it is, in memory of its own; else nothing; nothing that was in memory is turned. Also: 4 more texts of the same proof.
-/
import Derived.Test.YtggmjiddadjilamC24
set_option maxRecDepth 1000000
set_option maxHeartbeats 40000000
namespace Go.Proofs.Ytggmjiddadjilam
section
open Go.RowKit
theorem z74 (ac ar:Option Addr) (cc cr:Nat) (t:T) (row at':Int) (hrow:-9223372036854775808≤row∧row≤9223372036854775807) (s:ByteArray) (hs:s.size≤maxLen) (w:World) {z:Nat} (hc:zS w z (.slice ac t.cols.length cc) t.cols) (hr:zC w z (.slice ar t.rows.length cr) t.rows) :
  Calls Try.prog 23 #[.agg #[.slice ac t.cols.length cc,.int .i64 t.head,.int .i64 t.foot,.slice ar t.rows.length cr,.int .i64 t.gap],.int .i64 row,.int .i64 at',.string s] w fun e w'=>∃ a1 c1 a2 c2 d1 d2,e=.returned (.tuple #[.agg #[.slice a1 d1 c1,.int .i64 (z07 t row at' s).1.head,.int .i64 (z07 t row at' s).1.foot,.slice a2 d2 c2,.int .i64 (z07 t row at' s).1.gap],.bool (z07 t row at' s).2])∧z0k w' w.heap.size (.slice a1 d1 c1) (.slice a2 d2 c2) (z07 t row at' s).1∧Below w.heap.size w w':=by
 obtain ⟨W0,hW0⟩:∃ W0,(w.alloc (.cells #[.slice ac t.cols.length cc,.int .i64 t.head,.int .i64 t.foot,.slice ar t.rows.length cr,.int .i64 t.gap] 26)).alloc (.cells #[.slice none 0 0,.int .i64 0,.int .i64 0,.slice none 0 0,.int .i64 0] 26)=W0:=⟨_,rfl⟩;have K0:Below w.heap.size w W0:=(by rw [← hW0];exact zb (zb (Below.refl _ _) _) _);have T0:W0.heap[w.heap.size]?=some (.cells #[.slice ac t.cols.length cc,.int .i64 t.head,.int .i64 t.foot,.slice ar t.rows.length cr,.int .i64 t.gap] 26):=(by rw [← hW0];exact zM (zi _ _));have T4:W0.heap[w.heap.size+1]?=some (.cells #[.slice none 0 0,.int .i64 0,.int .i64 0,.slice none 0 0,.int .i64 0] 26):=(by rw [← hW0];exact z2t (by simp));have hsz:w.heap.size+1 < W0.heap.size:=(bL T4);have KO:=Hd (z3D ac ar cc cr t W0 (hc.kept K0) (hr.kept K0));have HCA:=Hd hc;have HRA:=Hd hr;have HK0:=Hd K0;have HT0:=Hd T0;have HT4:=Hd T4;obtain ⟨b0,b1,b2,b3,b4⟩:=zn T0;clear hc hr K0 T0 T4;go_enter Try.func23,Try.ntmps23;go_upto_region 1 with fail
 clear hW0;have hl4:w.heap.size≤w.heap.size+1:=(by omega);generalize w.heap.size+1=bz at HT4 hsz hl4 ⊢
 cases htk:zq t with
 | false =>
  rw [htk] at KO;have HE:Hid (z07 t row at' s=(zT,false)):=(by show _=_;rw [z07,if_neg (by rw [htk];simp)]);clear htk;go_wp2_with fail
  refine KO.out.mono ?_;rintro e w1 ⟨rfl,hb1⟩;replace HT4:=Hd ((hb1.block _ (bL HT4.out)).trans HT4.out);replace HK0:=Hd (zh HK0.out hb1);obtain ⟨d0,d1,d2,d3,d4⟩:=zn HT4.out;have fz:∀ p,w1.frozen? ⟨bz,p,none⟩=false:=fun p=>zj HT4.out;clear hb1 KO b0 b1 b2 b3 b4;go_wp2;exact bodyPost_ret (v:=.tuple #[.agg #[.slice none 0 0,.int .i64 0,.int .i64 0,.slice none 0 0,.int .i64 0],.bool false]) (by simp [results,Try.results23,go_sem,d0,d1,d2,d3,d4]) rfl ⟨none,0,none,0,0,0,by rw [HE.out];rfl,by rw [HE.out];exact ⟨[],rfl,⟨rfl,.inl ⟨rfl,rfl⟩⟩,⟨⟨rfl,.inl ⟨rfl,rfl⟩⟩,fun p hp=>absurd hp (by simp),.nil⟩⟩,zl (zl (zl (zl (zl HK0.out hl4 _) hl4 _) hl4 _) hl4 _) hl4 _⟩
 | true =>
  rw [htk] at KO;have HEd:Hid (z07 t row at' s=if (z1R t row at' && zD s)=true then (z0W t row.toNat ((t.rows.getD row.toNat dR).cells.set at'.toNat (txC ((t.rows.getD row.toNat dR).cells.getD at'.toNat dC) s)),true) else (t,false)):=(by show _=_;rw [z07,if_pos htk]);have H5:=Hd (z7o htk);have hb8:=(z2C htk).2.2.1;have HCp:=Hd (fun W (h:Below w.heap.size w W)=>z7W ac ar cc cr t htk W (HCA.out.kept h) (HRA.out.kept h));clear htk;go_wp2_with fail
  refine KO.out.mono ?_;rintro e w1 ⟨rfl,hb1⟩;replace HT0:=Hd ((hb1.block _ (bL HT0.out)).trans HT0.out);replace HT4:=Hd ((hb1.block _ (bL HT4.out)).trans HT4.out);replace HK0:=Hd (zh HK0.out hb1);clear hb1 KO b0 b1 b2 b3 b4;obtain ⟨b0,b1,b2,b3,b4⟩:=zn HT0.out;have KC:=Hd (HCp.out w1 HK0.out);have hsz1:bz < w1.heap.size:=(bL HT4.out);go_wp2_with fail
  refine KC.out.mono ?_;rintro e w2 ⟨a1,c1,a2,c2,rfl,⟨ur,hur,hOc,hOr⟩,hb2⟩;replace HT0:=Hd ((hb2.block _ (bL HT0.out)).trans HT0.out);replace HT4:=Hd ((hb2.block _ (bL HT4.out)).trans HT4.out);replace HK0:=Hd (zh HK0.out hb2);have Hur:=Hd hur;have HOD:=Hd ((z0V.of hOc hOr).kept (zb (Below.refl _ _) (.cells #[.slice a1 t.cols.length c1,.int .i64 t.head,.int .i64 t.foot,.slice a2 t.rows.length c2,.int .i64 t.gap] 26)));replace HT0:=Hd (zM (o:=(.cells #[.slice a1 t.cols.length c1,.int .i64 t.head,.int .i64 t.foot,.slice a2 t.rows.length c2,.int .i64 t.gap] 26)) HT0.out);replace HT4:=Hd (zM (o:=(.cells #[.slice a1 t.cols.length c1,.int .i64 t.head,.int .i64 t.foot,.slice a2 t.rows.length c2,.int .i64 t.gap] 26)) HT4.out);replace HK0:=Hd (zb HK0.out (.cells #[.slice a1 t.cols.length c1,.int .i64 t.head,.int .i64 t.foot,.slice a2 t.rows.length c2,.int .i64 t.gap] 26));have HX:Hid ((w2.alloc (.cells #[.slice a1 t.cols.length c1,.int .i64 t.head,.int .i64 t.foot,.slice a2 t.rows.length c2,.int .i64 t.gap] 26)).heap[w2.heap.size]?=some (.cells #[.slice a1 t.cols.length c1,.int .i64 t.head,.int .i64 t.foot,.slice a2 t.rows.length c2,.int .i64 t.gap] 26)):=zi _ _;have hxW:w2.heap.size < (w2.alloc (.cells #[.slice a1 t.cols.length c1,.int .i64 t.head,.int .i64 t.foot,.slice a2 t.rows.length c2,.int .i64 t.gap] 26)).heap.size:=(by simp);have hbx:bz < w2.heap.size:=Nat.lt_of_lt_of_le hsz1 hb2.size;clear hOc hOr hb2 hur KC HCp b0 b1 b2 b3 b4;go_upto_region 4 with fail
  generalize w2.alloc (.cells #[.slice a1 t.cols.length c1,.int .i64 t.head,.int .i64 t.foot,.slice a2 t.rows.length c2,.int .i64 t.gap] 26)=W1 at HT0 HT4 HK0 HX HOD hxW ⊢;generalize w2.heap.size=xb at HX HOD hxW hbx ⊢;generalize w1.heap.size=bB at HOD hsz1;obtain ⟨b0,b1,b2,b3,b4⟩:=zn HT0.out;have hsz:=hsz1;obtain ⟨_,_,_,hrlen⟩:=At.form HRA.out
  cases hin:inB row 0 ((t.rows.length:Int) - 1) with
  | false =>
   have KI:=Hd (fun W=>z04 row 0 ((t.rows.length:Int) - 1) W);rw [hin] at KI
   have HE:Hid (z07 t row at' s=(t,false)):=by
    show _=_;have:z1R t row at'=false:=(by unfold z1R z0H;rw [hin];exact z1k (by simp;omega));rw [HEd.out,if_neg (by rw [this];simp)]
   clear hin HEd;obtain ⟨x0,x1,x2,x3,x4⟩:=zn HX.out;go_wp2_with fail
   refine (KI.out _).mono ?_;rintro e w3 ⟨rfl,e3⟩;subst e3;obtain ⟨d0,d1,d2,d3,d4⟩:=zn HT4.out;have fz:∀ p,w3.frozen? ⟨bz,p,none⟩=false:=fun p=>zj HT4.out;go_wp2;exact bodyPost_ret (v:=.tuple #[.agg #[.slice a1 t.cols.length c1,.int .i64 t.head,.int .i64 t.foot,.slice a2 t.rows.length c2,.int .i64 t.gap],.bool false]) (by simp [results,Try.results23,go_sem,d0,d1,d2,d3,d4]) rfl ⟨a1,c1,a2,c2,_,_,by rw [HE.out],by rw [HE.out];exact z0k.base (z0k.since (z2r HOD.out rfl Hur.out) (ze.set (ze.set (ze.set (ze.set (ze.set (ze.refl _ _) (p:=⟨bz,0,none⟩) hsz _) (p:=⟨bz,1,none⟩) hsz _) (p:=⟨bz,2,none⟩) hsz _) (p:=⟨bz,3,none⟩) hsz _) (p:=⟨bz,4,none⟩) hsz _)) (by omega),zl (zl (zl (zl (zl HK0.out hl4 _) hl4 _) hl4 _) hl4 _) hl4 _⟩
  | true =>
   obtain ⟨r,rfl⟩:∃ r:Nat,row=r:=⟨row.toNat,by simp only [inB,decide_eq_true_eq] at hin;omega⟩;have hrl:r < t.rows.length:=(by simp only [inB,decide_eq_true_eq] at hin;omega);have KI:=Hd (fun W=>z04 (r:Int) 0 ((t.rows.length:Int) - 1) W);rw [hin] at KI;obtain ⟨bq,oq,cr',e',hq1,hq2,hlq,u,hx0',hx1',hx'⟩:=At.get (HRA.out.kept HK0.out) hrl;simp only [Value.slice.injEq,true_and] at e';obtain ⟨rfl,rfl⟩:=e';obtain ⟨au,cu,rfl,hul'⟩:=At.form hx'
   have HHb:Hid (z1R t (r:Int) at'=inB at' 0 (((t.rows.getD r dR).cells.length:Int) - 1)):=by
    show _=_;unfold z1R z0H;rw [if_pos hin,Int.toNat_natCast]
   have hm5:(t.rows.getD r dR).cells.length≤1048576:=H5.out _ (by rw [zx dR hrl];exact List.getElem_mem hrl);have KA:=Hd (fun W=>z04 at' 0 (((t.rows.getD r dR).cells.length:Int) - 1) W);rw [← HHb.out] at KA;generalize hmE:(t.rows.getD r dR).cells.length=m at KA hx0' hm5;clear hmE HHb hin hx1' hx' hul';unfold maxLen at hq2 hrlen;go_wp2_with fail
   refine (KI.out _).mono ?_;rintro e w3 ⟨rfl,e3⟩;subst e3;clear KI;go_wp2_with fail
   refine (KA.out _).mono ?_;rintro e w4 ⟨rfl,e4⟩;subst e4;clear KA b0 b1 b2 b3 b4 hx0'
   cases hh:z1R t (r:Int) at' with
   | false =>
    have HE:Hid (z07 t (r:Int) at' s=(t,false)):=(by show _=_;rw [HEd.out,if_neg (by rw [hh];simp)]);clear hh HEd;obtain ⟨x0,x1,x2,x3,x4⟩:=zn HX.out;obtain ⟨d0,d1,d2,d3,d4⟩:=zn HT4.out;have fz:∀ p,w4.frozen? ⟨bz,p,none⟩=false:=fun p=>zj HT4.out;go_wp2;exact bodyPost_ret (v:=.tuple #[.agg #[.slice a1 t.cols.length c1,.int .i64 t.head,.int .i64 t.foot,.slice a2 t.rows.length c2,.int .i64 t.gap],.bool false]) (by simp [results,Try.results23,go_sem,d0,d1,d2,d3,d4]) rfl ⟨a1,c1,a2,c2,_,_,by rw [HE.out],by rw [HE.out];exact z0k.base (z0k.since (z2r HOD.out rfl Hur.out) (ze.set (ze.set (ze.set (ze.set (ze.set (ze.refl _ _) (p:=⟨bz,0,none⟩) hsz _) (p:=⟨bz,1,none⟩) hsz _) (p:=⟨bz,2,none⟩) hsz _) (p:=⟨bz,3,none⟩) hsz _) (p:=⟨bz,4,none⟩) hsz _)) (by omega),zl (zl (zl (zl (zl HK0.out hl4 _) hl4 _) hl4 _) hl4 _) hl4 _⟩
   | true =>
    have Hh:=Hd hh;clear hh;have KX:=Hd (z1l s w4 hs)
    cases htx:zD s with
    | false =>
     rw [htx] at KX;have HE:Hid (z07 t (r:Int) at' s=(t,false)):=(by show _=_;rw [HEd.out,if_neg (by rw [htx];simp)]);clear htx HEd;go_wp2_with fail
     refine KX.out.mono ?_;rintro e w5 ⟨rfl,e5⟩;subst e5;clear KX;obtain ⟨x0,x1,x2,x3,x4⟩:=zn HX.out;obtain ⟨d0,d1,d2,d3,d4⟩:=zn HT4.out;have fz:∀ p,w5.frozen? ⟨bz,p,none⟩=false:=fun p=>zj HT4.out;go_wp2;exact bodyPost_ret (v:=.tuple #[.agg #[.slice a1 t.cols.length c1,.int .i64 t.head,.int .i64 t.foot,.slice a2 t.rows.length c2,.int .i64 t.gap],.bool false]) (by simp [results,Try.results23,go_sem,d0,d1,d2,d3,d4]) rfl ⟨a1,c1,a2,c2,_,_,by rw [HE.out],by rw [HE.out];exact z0k.base (z0k.since (z2r HOD.out rfl Hur.out) (ze.set (ze.set (ze.set (ze.set (ze.set (ze.refl _ _) (p:=⟨bz,0,none⟩) hsz _) (p:=⟨bz,1,none⟩) hsz _) (p:=⟨bz,2,none⟩) hsz _) (p:=⟨bz,3,none⟩) hsz _) (p:=⟨bz,4,none⟩) hsz _)) (by omega),zl (zl (zl (zl (zl HK0.out hl4 _) hl4 _) hl4 _) hl4 _) hl4 _⟩
    | true =>
     rw [htx] at KX;have HE:Hid (z07 t (r:Int) at' s=(z0W t (r:Int).toNat ((t.rows.getD (r:Int).toNat dR).cells.set at'.toNat (txC ((t.rows.getD (r:Int).toNat dR).cells.getD at'.toNat dC) s)),true)):=(by show _=_;rw [HEd.out,if_pos (by rw [Hh.out,htx];rfl)]);clear htx HEd;go_wp2_with fail
     refine KX.out.mono ?_;rintro e w5 ⟨rfl,e5⟩;subst e5;clear KX;obtain ⟨r',a,er,rfl,hrl',hal⟩:=z4i.1 Hh.out;obtain rfl:r=r':=by omega
     rw [Int.toNat_natCast,Int.toNat_natCast] at HE;have hur:=Hur.out;have hul:ur.length=t.rows.length:=(by rw [← hur,List.length_map]);have hge:ur[r]?=some (ur[r]'(by omega)):=List.getElem?_eq_getElem (by omega);have hpr:(ur[r]'(by omega)).2=t.rows.getD r dR:=(by rw [← z44 hge,hur]);generalize hpE:ur[r]'(by omega)=p at hge hpr;clear hpE;rw [← hpr] at hal HE;obtain ⟨g,cg,arr,ev,hg1,hg2,hgl,hgB,harr,hasz,ha0,ha1⟩:=z7j HOD.out.2.1 hge;rw [hul] at ev hg1;simp only [Value.slice.injEq,true_and] at ev;obtain ⟨rfl,rfl⟩:=ev;obtain ⟨h,cu,cur,hpv,hh1,hh2,hh3,hh4⟩:=z7k HOD.out.2.1 hge hal;rw [hpv] at ha0;have HOw:=Hd (z0V.put HOD.out (Below.refl _ _) hge (j:=0) hpv hal (by decide) (x:=txC (p.2.cells.getD a dC) s) (v:=.string s) (by rw [zx dC hal];rfl));have hhx:h ≠ xb:=fun e=>by subst e;rw [HX.out] at hh1;simp at hh1
     have hhl:h < w5.heap.size:=(bL hh1);have hhz:h ≠ bz:=fun e=>by subst e;rw [HT4.out] at hh1;simp at hh1
     have hBw:w.heap.size≤h:=by
      have:=(zX (HOD.out.2.1.cells p (List.mem_of_getElem? hge)) (b:=h) (by rw [hpv];rfl)).1;omega
     have HK4:=Hd (HK0.out.setCell (p:=⟨h,a * 11,none⟩) hBw (.string s));have hZ4:(w5.setCell ⟨h,a * 11,none⟩ (.string s)).heap[bz]?=some (.cells #[.slice none 0 0,.int .i64 0,.int .i64 0,.slice none 0 0,.int .i64 0] 26):=(Below.heap_setCell _ _ _ _ (by dsimp only;exact fun e=>hhz e.symm)).trans HT4.out;have hX4:(w5.setCell ⟨h,a * 11,none⟩ (.string s)).heap[xb]?=some (.cells #[.slice a1 t.cols.length c1,.int .i64 t.head,.int .i64 t.foot,.slice (some ⟨g,0,none⟩) t.rows.length c2,.int .i64 t.gap] 26):=(Below.heap_setCell _ _ _ _ (by dsimp only;exact fun e=>hhx e.symm)).trans HX.out;have L0:=(zc harr).trans ha0;obtain ⟨y0,hy0⟩:=z2w (p:=a * 11) hh1 (by omega);have fzh:w5.frozen? ⟨h,a * 11,none⟩=false:=zj hh1;obtain ⟨x0,x1,x2,x3,x4⟩:=zn HX.out;have HX4:=Hd hX4;have HZ4:=Hd hZ4
     have HUr:Hid ((ur.set r (p.1,⟨p.2.cells.set a (txC (p.2.cells.getD a dC) s),p.2.whole⟩)).map (·.2)=(z0W t r (p.2.cells.set a (txC (p.2.cells.getD a dC) s))).rows):=by
      show _=_;rw [z45,hur,z0W,hpr]
     unfold maxLen at hg2 hh3;have hln:=hal;generalize p.2.cells.length=ml at hln hh2 L0;clear hX4 hZ4 hh1 harr ha0 ha1 hal hpr hpv hge hur hul;go_upto_region 7 with fail
     generalize w5.setCell ⟨h,a * 11,none⟩ (.string s)=W6 at HK4 HX4 HZ4 HOw ⊢;clear x0 x1 x2 x3 x4 L0 hy0 fzh;obtain ⟨x0,x1,x2,x3,x4⟩:=zn HX4.out;obtain ⟨d0,d1,d2,d3,d4⟩:=zn HZ4.out;have fz:∀ p,W6.frozen? ⟨bz,p,none⟩=false:=fun p=>zj HZ4.out;go_wp2;exact bodyPost_ret (v:=.tuple #[.agg #[.slice a1 t.cols.length c1,.int .i64 t.head,.int .i64 t.foot,.slice (some ⟨g,0,none⟩) t.rows.length c2,.int .i64 t.gap],.bool true]) (by simp [results,Try.results23,go_sem,d0,d1,d2,d3,d4]) rfl ⟨a1,c1,some ⟨g,0,none⟩,c2,_,_,by rw [HE.out];rfl,by rw [HE.out];exact z0k.base (z0k.since (z2r HOw.out rfl HUr.out) (ze.set (ze.set (ze.set (ze.set (ze.set (ze.refl _ _) (p:=⟨bz,0,none⟩) hsz _) (p:=⟨bz,1,none⟩) hsz _) (p:=⟨bz,2,none⟩) hsz _) (p:=⟨bz,3,none⟩) hsz _) (p:=⟨bz,4,none⟩) hsz _)) (by omega),zl (zl (zl (zl (zl HK4.out hl4 _) hl4 _) hl4 _) hl4 _) hl4 _⟩
end
section
open Go.RowKit Go.BigFrame
theorem z7X (u1 u2:Value) (cs:List C) (q:Bool) (w:World) {z1 z2:Nat} (h1:z0t w z1 u1 cs) (h2:z0t w z2 u2 cs) :
  Calls Try.prog 54 #[.agg #[u1,.bool q],.agg #[u2,.bool q]] w fun e w'=>e=.returned (.bool true)∧Below w.heap.size w w':=by
 obtain ⟨a1,cap1,rfl,hlen⟩:=At.form h1;obtain ⟨a2,cap2,rfl,_⟩:=At.form h2;unfold maxLen at hlen;have hne:((cs.length:Int) != (cs.length:Int))=false:=(by simp);have hqq:(q != q)=false:=(by simp);have K0:=zb (zb (Below.refl w.heap.size w) (.cells #[.slice a1 cs.length cap1,.bool q] 33)) (.cells #[.slice a2 cs.length cap2,.bool q] 33);have H1:=Hd (h1.kept K0);have H2:=Hd (h2.kept K0);have HK:=Hd K0;clear h1 h2 K0;go_enter Try.func54,Try.ntmps54;go_wp2_with fail
 generalize hW:(w.alloc (.cells #[.slice a1 cs.length cap1,.bool q] 33)).alloc (.cells #[.slice a2 cs.length cap2,.bool q] 33)=W0 at H1 H2 HK;have y1:W0.cell? ⟨w.heap.size,0,none⟩=some (.slice a1 cs.length cap1):=(by rw [← hW];exact zc ((Below.heap_alloc _ _ _ (by simp)).trans (zi _ _)))
 have y2:W0.cell? ⟨w.heap.size+1,0,none⟩=some (.slice a2 cs.length cap2):=by
  have h:=zi (w.alloc (.cells #[.slice a1 cs.length cap1,.bool q] 33)) (.cells #[.slice a2 cs.length cap2,.bool q] 33);rw [hW] at h;exact zc (by simpa using h)
 go_loopw [5] (fun i W=>∃ k n:Nat,k≤cs.length∧i=.int .i64 k∧W=W0.drewN n) (fun i _=>cs.length - (intOf i).toNat)
 case atStart=>exact ⟨0,0,Nat.zero_le _,rfl,hW ▸ rfl⟩
 case round =>
  obtain ⟨k,nd,hk,rfl,rfl⟩:=hrel;by_cases hlt:k < cs.length
  ·obtain ⟨b1,off1,cap1',e1,hc11,hc12,hbl1,x0,_⟩:=At.get H1.out hlt;simp only [Value.slice.injEq,true_and] at e1;obtain ⟨rfl,rfl⟩:=e1;obtain ⟨b2,z2u,cap2',e2,hc21,hc22,hbl2,z0,_⟩:=At.get H2.out hlt;simp only [Value.slice.injEq,true_and] at e2;obtain ⟨rfl,rfl⟩:=e2;unfold maxLen at hc12 hc22;generalize cs.getD k dC=x at x0 z0;obtain ⟨x0,x1,x2,x3,x4,x5,x6,x7,x8,x9,x10⟩:=x0;obtain ⟨z0,z1,z2,z3,z4,z5,z6,z7,z8,z9,z10⟩:=z0;go_wp2_with fail
   go_quiet (fail)
   go_wp2;go_roundw
   case rel=>exact ⟨k+1,nd+nq,by omega,by go_num,rfl⟩
   case measure=>simp [intOf];omega
  ·go_wp2;go_ret;exact ⟨rfl,z4Y HK.out _⟩
theorem z6H (v1 v2:Value) (t:T) (w:World) {z1 z2:Nat} (h1:z2y w z1 v1 t) (h2:z2y w z2 v2 t) :
  Calls Try.prog 24 #[v1,v2] w fun e w'=>e=.returned (.bool true)∧Below w.heap.size w w':=by
 obtain ⟨vc1,vr1,rfl,h1c,h1r⟩:=h1;obtain ⟨vc2,vr2,rfl,h2c,h2r⟩:=h2;obtain ⟨ac1,cc1,rfl,hl1⟩:=At.form h1c;obtain ⟨ar1,cr1,rfl,hl2⟩:=At.form h1r;obtain ⟨ac2,cc2,rfl,_⟩:=At.form h2c;obtain ⟨ar2,cr2,rfl,_⟩:=At.form h2r;unfold maxLen at hl1 hl2;have hmx:Try.prog.follows .mixedOrders=true:=(by kernel_rfl);have hh:(t.head != t.head)=false:=(by simp);have hf:(t.foot != t.foot)=false:=(by simp);have hg:(t.gap != t.gap)=false:=(by simp);have hn1:((t.cols.length:Int) != (t.cols.length:Int))=false:=(by simp);have hn2:((t.rows.length:Int) != (t.rows.length:Int))=false:=(by simp);have K0:=zb (zb (Below.refl w.heap.size w) (.cells #[.slice ac1 t.cols.length cc1,.int .i64 t.head,.int .i64 t.foot,.slice ar1 t.rows.length cr1,.int .i64 t.gap] 26)) (.cells #[.slice ac2 t.cols.length cc2,.int .i64 t.head,.int .i64 t.foot,.slice ar2 t.rows.length cr2,.int .i64 t.gap] 26);have HC1:=Hd (h1c.kept K0);have HC2:=Hd (h2c.kept K0);have HR1:=Hd (h1r.kept K0);have HR2:=Hd (h2r.kept K0);have HK:=Hd K0;clear h1c h2c h1r h2r K0;go_enter Try.func24,Try.ntmps24;go_wp2_with fail
 generalize hW:(w.alloc (.cells #[.slice ac1 t.cols.length cc1,.int .i64 t.head,.int .i64 t.foot,.slice ar1 t.rows.length cr1,.int .i64 t.gap] 26)).alloc (.cells #[.slice ac2 t.cols.length cc2,.int .i64 t.head,.int .i64 t.foot,.slice ar2 t.rows.length cr2,.int .i64 t.gap] 26)=W0 at HC1 HC2 HR1 HR2 HK
 have Y1:Hid (W0.heap[w.heap.size]?=some (.cells #[.slice ac1 t.cols.length cc1,.int .i64 t.head,.int .i64 t.foot,.slice ar1 t.rows.length cr1,.int .i64 t.gap] 26)):=by
  show _=_;rw [← hW];exact (Below.heap_alloc _ _ _ (by simp)).trans (zi _ _)
 have Y2:Hid (W0.heap[w.heap.size+1]?=some (.cells #[.slice ac2 t.cols.length cc2,.int .i64 t.head,.int .i64 t.foot,.slice ar2 t.rows.length cr2,.int .i64 t.gap] 26)):=by
  have h:=zi (w.alloc (.cells #[.slice ac1 t.cols.length cc1,.int .i64 t.head,.int .i64 t.foot,.slice ar1 t.rows.length cr1,.int .i64 t.gap] 26)) (.cells #[.slice ac2 t.cols.length cc2,.int .i64 t.head,.int .i64 t.foot,.slice ar2 t.rows.length cr2,.int .i64 t.gap] 26);rw [hW] at h;show _=_
  simpa using h
 go_loopw [5] (fun i W=>∃ k:Nat,k≤t.cols.length∧i=.int .i64 k∧Hid (Below W0.heap.size W0 W)) (fun i _=>t.cols.length - (intOf i).toNat)
 case atStart=>exact ⟨0,Nat.zero_le _,rfl,hW ▸ Below.refl _ _⟩
 case round =>
  obtain ⟨k,hk,rfl,HB⟩:=hrel;obtain ⟨p0,p1,p2,p3,p4⟩:=zn ((HB.out.block _ (bL Y1.out)).trans Y1.out);obtain ⟨r0,r1,r2,r3,r4⟩:=zn ((HB.out.block _ (bL Y2.out)).trans Y2.out);by_cases hlt:k < t.cols.length
  ·obtain ⟨b1,off1,cap1',e1,hc11,hc12,hbl1,x0,x1⟩:=At.get (HC1.out.kept HB.out) hlt;simp only [Value.slice.injEq,true_and] at e1;obtain ⟨rfl,rfl⟩:=e1;obtain ⟨b2,z2u,cap2',e2,hc21,hc22,hbl2,z0,z1⟩:=At.get (HC2.out.kept HB.out) hlt;simp only [Value.slice.injEq,true_and] at e2;obtain ⟨rfl,rfl⟩:=e2;unfold maxLen at hc12 hc22;generalize t.cols.getD k (0,0)=x at x0 x1 z0 z1;go_wp2_with fail
   go_quiet (fail)
   go_wp2;go_roundw
   case rel=>exact ⟨k+1,by omega,by go_num,z4Y HB.out _⟩
   case measure=>simp [intOf];omega
  ·go_wp2_with fail
   go_loopw [6] (fun i W=>∃ k:Nat,k≤t.rows.length∧i=.int .i64 k∧Hid (Below W0.heap.size W0 W)) (fun i _=>t.rows.length - (intOf i).toNat)
   case atStart=>exact ⟨0,Nat.zero_le _,rfl,HB⟩
   case round =>
    clear p0 p1 p2 p3 p4 r0 r1 r2 r3 r4 hlt hk HB
    rename World=>wr
    obtain ⟨k,hk,rfl,HB⟩:=hrel;have HY1:=(HB.out.block _ (bL Y1.out)).trans Y1.out;have HY2:=(HB.out.block _ (bL Y2.out)).trans Y2.out;by_cases hlt:k < t.rows.length
    ·obtain ⟨b1,off1,cap1',e1,hc11,hc12,hbl1,u1,x0,x1,x2⟩:=At.get (HR1.out.kept HB.out) hlt;simp only [Value.slice.injEq,true_and] at e1;obtain ⟨rfl,rfl⟩:=e1;obtain ⟨b2,z2u,cap2',e2,hc21,hc22,hbl2,u2,z0,z1,z2⟩:=At.get (HR2.out.kept HB.out) hlt;simp only [Value.slice.injEq,true_and] at e2;obtain ⟨rfl,rfl⟩:=e2;unfold maxLen at hc12 hc22;generalize t.rows.getD k dR=x at x1 x2 z1 z2;obtain ⟨c1,d1,rfl,_⟩:=At.form x2;obtain ⟨c2,d2,rfl,_⟩:=At.form z2;have X2:=Hd x2;have Z2:=Hd z2;clear x2 z2;have l1:=(bL HY1);have l2:=(bL HY2);obtain ⟨p0,p1,p2,p3,p4⟩:=zn HY1;obtain ⟨r0,r1,r2,r3,r4⟩:=zn HY2;have KR:=Hd (fun (p:BW wr)=>z2A (z7X (.slice c1 x.cells.length d1) (.slice c2 x.cells.length d2) x.cells x.whole p.u (X2.out.kept p.h) (Z2.out.kept p.h)));go_upto_region 11 with fail
     have m3:=zm (a:=⟨w.heap.size,3,none⟩) l1 p3;have n3:=zm (a:=⟨w.heap.size+1,3,none⟩) l2 r3;have m5:=zm hbl1 x0;have m6:=zm hbl1 x1;have n5:=zm hbl2 z0;have n6:=zm hbl2 z1;have hne:=z1T wr;clear p0 p1 p2 p3 p4 r0 r1 r2 r3 r4 x0 x1 z0 z1;refine z0l hmx (by kernel_rfl) ?_;repeat (go_big_quiet_step (first | (go_at_call 54;refine KR.out _)))
     refine wpQuiet_nil ?_;intro W9 hw';obtain ⟨⟨Wx,hW9⟩,hw''⟩:=hw';subst hw'';have HB9:=Hd (zh HB.out hW9);clear m3 n3 m5 m6 n5 n6 hne KR hW9;go_wp2;go_roundw
     case rel=>exact ⟨k+1,by omega,by go_num,HB9⟩
     case measure=>simp [intOf];omega
    ·obtain ⟨p0,p1,p2,p3,p4⟩:=zn HY1;go_wp2;go_ret;exact ⟨rfl,zh HK.out HB.out⟩
end
section
open Go.RowKit
theorem zaI:zD ⟨#[97,98,32,99]⟩=true:=by decide +kernel
theorem z4l (w:World):Calls Try.prog 15 #[] w fun e w'=>e=.returned (.bool true)∧w'=w:=by
 go_enter Try.func15,Try.ntmps15;go_wp2_with fail
 refine (z0T _ _ (by unfold maxLen;decide)).mono ?_;rw [zaI];rintro e w1 ⟨rfl,rfl⟩;go_wp2;go_ret;exact ⟨rfl,rfl⟩
theorem zar (n:Nat) (hn:n≤9) (k:Int) (h0:0≤k) (h1:k < 3):∃ v:Int,(#[.int .i64 (-1),.int .i64 9,.int .i64 (n:Int)]:Array Value)[k.toNat]?=some (.int .i64 v)∧-1≤v∧v≤9:=by
 rcases (by omega:k=0∨k=1∨k=2) with rfl | rfl | rfl
 ·exact ⟨-1,rfl,by omega,by omega⟩
 ·exact ⟨9,rfl,by omega,by omega⟩
 ·exact ⟨n,rfl,by omega,by omega⟩
def z26 (L:Nat→Bool):Nat:=(if L 5=true then 1 else 0)
theorem z5E (L:Nat→Bool):z26 L≤1:=by unfold z26;(repeat (first | omega | split))
theorem z9z {L:Nat→Bool} (h:L 5=false):z26 (upd L 5)=z26 L+1:=by simp [z26,upd,h]
theorem z0R {L:Nat→Bool} {i:Nat} (h:i ≠ 5):z26 (upd L i)=z26 L:=by
 have k5:(5:Nat) ≠ i:=fun e=>(h) e.symm;simp [z26,upd,k5]
structure zaV (r B n0:Nat) (w0:World) (F:World→Prop) (tb:Nat) (tc:Array Value) (ra:Option Addr) (rn rc:Nat)  (L:Nat→Bool) (w:World) (v33 v34 v35 v36 v37 v38 v39 v40 v41:Value):Prop where
 f0:L 0=true→v33=.pointer (some ⟨tb,3,none⟩)
 f1:L 1=true→v34=.slice ra rn rc
 f2:L 2=true→v35=.int .i64 (rn:Int)
 f3:L 3=true→L 9=false→PB n0 w 3 3 (fun arr=>arr=#[.int .i64 (-1),.int .i64 9,.int .i64 (rn:Int)]) v36
 f4:L 4=true→v37=.pointer (some ⟨r,0,none⟩)
 f5:L 5=true→PI 0 2 v38
 f6:L 6=true→L 9=false→PP n0 w 3 (fun arr k=>∃ v:Int,arr[k]?=some (.int .i64 v)∧-1≤v∧v≤9) v39
 f7:L 7=true→PI (-1) 9 v40
 f8:L 8=true→v41=.pointer (some ⟨tb,1,none⟩)
 rd:Rd w r (B+z26 L)
 bk:Bk r w0 w
 fr:F w
 tb0:L 9=false→w.heap[tb]?=some (.cells tc 26)
 tb1:L 9=true→∃ v:Int,(-1≤v∧v≤9)∧w.heap[tb]?=some (.cells (tc.setIfInBounds 1 (.int .i64 v)) 26)
def hdR (r B n0:Nat) (w0:World) (F:World→Prop) (tb:Nat) (tc:Array Value) (ra:Option Addr) (rn rc:Nat)  (mk:Value→Value→Value→Value→Value→Value→Value→Value→Value→Act) (L:Nat→Bool) (a:Act) (w:World):Prop:=∃ v33 v34 v35 v36 v37 v38 v39 v40 v41:Value,a=mk v33 v34 v35 v36 v37 v38 v39 v40 v41∧zaV r B n0 w0 F tb tc ra rn rc L w v33 v34 v35 v36 v37 v38 v39 v40 v41
def z27 (L:Nat→Bool):Nat:=(if L 5=true then 1 else 0)
theorem z5F (L:Nat→Bool):z27 L≤1:=by unfold z27;(repeat (first | omega | split))
theorem z9A {L:Nat→Bool} (h:L 5=false):z27 (upd L 5)=z27 L+1:=by simp [z27,upd,h]
theorem z0S {L:Nat→Bool} {i:Nat} (h:i ≠ 5):z27 (upd L i)=z27 L:=by
 have k5:(5:Nat) ≠ i:=fun e=>(h) e.symm;simp [z27,upd,k5]
structure zaW (r B n0:Nat) (w0:World) (F:World→Prop) (tb:Nat) (tc:Array Value) (ra:Option Addr) (rn rc:Nat)  (L:Nat→Bool) (w:World) (v44 v45 v46 v47 v48 v49 v50 v51 v52:Value):Prop where
 f0:L 0=true→v44=.pointer (some ⟨tb,3,none⟩)
 f1:L 1=true→v45=.slice ra rn rc
 f2:L 2=true→v46=.int .i64 (rn:Int)
 f3:L 3=true→L 9=false→PB n0 w 3 3 (fun arr=>arr=#[.int .i64 (-1),.int .i64 9,.int .i64 (rn:Int)]) v47
 f4:L 4=true→v48=.pointer (some ⟨r,0,none⟩)
 f5:L 5=true→PI 0 2 v49
 f6:L 6=true→L 9=false→PP n0 w 3 (fun arr k=>∃ v:Int,arr[k]?=some (.int .i64 v)∧-1≤v∧v≤9) v50
 f7:L 7=true→PI (-1) 9 v51
 f8:L 8=true→v52=.pointer (some ⟨tb,2,none⟩)
 rd:Rd w r (B+z27 L)
 bk:Bk r w0 w
 fr:F w
 tb0:L 9=false→w.heap[tb]?=some (.cells tc 26)
 tb1:L 9=true→∃ v:Int,(-1≤v∧v≤9)∧w.heap[tb]?=some (.cells (tc.setIfInBounds 2 (.int .i64 v)) 26)
def ftR (r B n0:Nat) (w0:World) (F:World→Prop) (tb:Nat) (tc:Array Value) (ra:Option Addr) (rn rc:Nat)  (mk:Value→Value→Value→Value→Value→Value→Value→Value→Value→Act) (L:Nat→Bool) (a:Act) (w:World):Prop:=∃ v44 v45 v46 v47 v48 v49 v50 v51 v52:Value,a=mk v44 v45 v46 v47 v48 v49 v50 v51 v52∧zaW r B n0 w0 F tb tc ra rn rc L w v44 v45 v46 v47 v48 v49 v50 v51 v52
def z1q (L:Nat→Bool):Nat:=(if L 3=true then 1 else 0)+(if L 6=true then 1 else 0)
theorem z3Q (L:Nat→Bool):z1q L≤2:=by unfold z1q;(repeat (first | omega | split))
theorem z9B {L:Nat→Bool} (h:L 3=false):z1q (upd L 3)=z1q L+1:=by simp [z1q,upd,h];omega
theorem z9C {L:Nat→Bool} (h:L 6=false):z1q (upd L 6)=z1q L+1:=by simp [z1q,upd,h]
theorem z0r {L:Nat→Bool} {i:Nat} (h:i ≠ 3∧i ≠ 6):z1q (upd L i)=z1q L:=by
 have k3:(3:Nat) ≠ i:=fun e=>(h.1) e.symm;have k6:(6:Nat) ≠ i:=fun e=>(h.2) e.symm;simp [z1q,upd,k3,k6]
structure zaX (r B n0:Nat) (w0:World) (F:World→Prop) (base:Nat) (U:Value) (nn:Nat) (xs:List Value) (tb:Nat) (tc:Array Value)  (L:Nat→Bool) (w:World) (v63 v64 v65 v66 v67 v68 v69 v70 v71 v72 v73 v74 v75:Value):Prop where
 f0:L 0=true→v63=.pointer (some ⟨tb,0,none⟩)
 f1:L 1=true→v64=U
 f2:L 2=true→v65=.pointer (some ⟨r,0,none⟩)
 f3:L 3=true→PI 0 3 v66
 f4:L 4=true→L 11=false→PB n0 w 3 4 (fun arr=>arr=#[.int .i64 (-1),.int .i64 0,.int .i64 61,.int .i64 101]) v67
 f5:L 5=true→v68=.pointer (some ⟨r,0,none⟩)
 f6:L 6=true→PI 0 3 v69
 f7:L 7=true→L 11=false→PP n0 w 3 (fun arr k=>∃ v:Int,arr[k]?=some (.int .i64 v)) v70
 f8:L 8=true→∃ v:Int,v71=.int .i64 v
 f9:L 9=true→∃ x y:Int,v72=.agg #[.int .i64 x,.int .i64 y]
 f10:L 10=true→L 11=false→PB n0 w 46 1 (fun arr=>∃ x y:Int,arr=#[.int .i64 x,.int .i64 y]) v73
 f12:L 12=true→v75=.pointer (some ⟨tb,0,none⟩)
 rd:Rd w r (B+z1q L)
 bk:Bk r w0 w
 fr:F w
 own:L 11=false→w.ownsRow base 46 2 U nn xs
 ownA:L 11=true→∃ nw,(∃ p,nw=z0P p)∧w.ownsRow base 46 2 v74 (nn+1) (xs ++ nw)
 tb0:L 13=false→w.heap[tb]?=some (.cells tc 26)
 tb1:L 13=true→w.heap[tb]?=some (.cells (tc.setIfInBounds (0) v74) 26)
def acR (r B n0:Nat) (w0:World) (F:World→Prop) (base:Nat) (U:Value) (nn:Nat) (xs:List Value) (tb:Nat) (tc:Array Value)  (mk:Value→Value→Value→Value→Value→Value→Value→Value→Value→Value→Value→Value→Value→Act) (L:Nat→Bool) (a:Act) (w:World):Prop:=∃ v63 v64 v65 v66 v67 v68 v69 v70 v71 v72 v73 v74 v75:Value,a=mk v63 v64 v65 v66 v67 v68 v69 v70 v71 v72 v73 v74 v75∧zaX r B n0 w0 F base U nn xs tb tc L w v63 v64 v65 v66 v67 v68 v69 v70 v71 v72 v73 v74 v75
def z28 (L:Nat→Bool):Nat:=(if L 10=true then 50 else 0)
theorem z5G (L:Nat→Bool):z28 L≤50:=by unfold z28;(repeat (first | omega | split))
theorem z8R {L:Nat→Bool} (h:L 10=false):z28 (upd L 10)=z28 L+50:=by simp [z28,upd,h]
theorem z03 {L:Nat→Bool} {i:Nat} (h:i ≠ 10):z28 (upd L i)=z28 L:=by
 have k10:(10:Nat) ≠ i:=fun e=>(h) e.symm;simp [z28,upd,k10]
structure zaY (r B n0:Nat) (w0:World) (F:World→Prop) (base:Nat) (U:Value) (nn:Nat) (xs:List Value) (tb:Nat) (tc:Array Value) (t5 kk rn rc:Nat)  (L:Nat→Bool) (w:World) (v78 v79 v80 v81 v82 v83 v84 v85 v86 v87 v88 v89 v90 v91 v92:Value):Prop where
 f0:L 0=true→v78=.pointer (some ⟨t5,3,none⟩)
 f1:L 1=true→v79=.slice (some ⟨tb,0,none⟩) rn rc
 f2:L 2=true→v80=.int .i64 (kk:Int)
 f3:L 3=true→v81=.pointer (some ⟨t5,3,none⟩)
 f4:L 4=true→v82=.slice (some ⟨tb,0,none⟩) rn rc
 f5:L 5=true→v83=.int .i64 (kk:Int)
 f6:L 6=true→v84=.pointer (some ⟨tb,kk * 2,none⟩)
 f7:L 7=true→v85=.pointer (some ⟨tb,kk * 2,none⟩)
 f8:L 8=true→v86=U
 f9:L 9=true→v87=.pointer (some ⟨r,0,none⟩)
 f10:L 10=true→∃ x:C,v88=.agg #[.string x.s,.int .i64 x.c,.int .i64 x.r,.int .i64 x.a1,.int .i64 x.b1,.int .i64 x.a2,.int .i64 x.b2,.int .i64 x.a3,.int .i64 x.b3,.int .i64 x.a4,.int .i64 x.b4]∧Cx x
 f11:L 11=true→L 12=false→PB n0 w 35 1 (fun arr=>∃ x:C,arr=(zG x).toArray∧Cx x) v89
 f13:L 13=true→v91=.pointer (some ⟨tb,kk * 2,none⟩)
 f14:L 14=true→v92=.pointer (some ⟨tb,kk * 2,none⟩)
 rd:Rd w r (B+z28 L)
 bk:Bk r w0 w
 fr:F w
 own:L 12=false→w.ownsRow base 35 11 U nn xs
 ownA:L 12=true→∃ nw,(∃ x,nw=zG x∧Cx x)∧w.ownsRow base 35 11 v90 (nn+1) (xs ++ nw)
 tb0:L 15=false→w.heap[tb]?=some (.cells tc 33)
 tb1:L 15=true→w.heap[tb]?=some (.cells (tc.setIfInBounds (kk * 2) v90) 33)
def crR (r B n0:Nat) (w0:World) (F:World→Prop) (base:Nat) (U:Value) (nn:Nat) (xs:List Value) (tb:Nat) (tc:Array Value) (t5 kk rn rc:Nat)  (mk:Value→Value→Value→Value→Value→Value→Value→Value→Value→Value→Value→Value→Value→Value→Value→Act) (L:Nat→Bool) (a:Act) (w:World):Prop:=∃ v78 v79 v80 v81 v82 v83 v84 v85 v86 v87 v88 v89 v90 v91 v92:Value,a=mk v78 v79 v80 v81 v82 v83 v84 v85 v86 v87 v88 v89 v90 v91 v92∧zaY r B n0 w0 F base U nn xs tb tc t5 kk rn rc L w v78 v79 v80 v81 v82 v83 v84 v85 v86 v87 v88 v89 v90 v91 v92
def z1t (r B:Nat) (w:World) (e:Ending) (w':World):Prop :=
 ∃ (ac ar:Option Addr) (cc cr:Nat) (t:T),e=.returned (.agg #[.slice ac t.cols.length cc,.int .i64 t.head,.int .i64 t.foot,.slice ar t.rows.length cr,.int .i64 t.gap])∧z0Q t∧zS w' w.heap.size (.slice ac t.cols.length cc) t.cols∧zC w' w.heap.size (.slice ar t.rows.length cr) t.rows∧Rd w' r (B+3000)∧Bk r w w'
theorem z1S {w:World} {base g:Nat} {cur:Array Value} {vc vr:Value} {ps:List (Int × Int)} {ur:List (Value × R)} (h1:zw w base vc ps) (h2:w.ownsRow base 33 2 vr ur.length (ur.flatMap zt)) (h3:∀ p ∈ ur,zL w base p.1 p.2.cells) (hg:w.heap[g]?=some (.cells cur 26)) (y0 y1 y2 y3 y4:Value) :
  zw (st5 w g y0 y1 y2 y3 y4) base vc ps∧(st5 w g y0 y1 y2 y3 y4).ownsRow base 33 2 vr ur.length (ur.flatMap zt)∧∀ p ∈ ur,zL (st5 w g y0 y1 y2 y3 y4) base p.1 p.2.cells:=by
 have ho:Off base (some g) none w (st5 w g y0 y1 y2 y3 y4):=Off.ofBk (z1a w g y0 y1 y2 y3 y4);have hnn:∀ x:Value,x.ownBlock=none∨x.ownBlock ≠ none:=fun x=>by cases x.ownBlock <;> simp
 exact ⟨zJ h1 ho (Nat.le_refl _) (zf h1 hg (by decide)) (hnn _),zJ h2 ho (Nat.le_refl _) (zf h2 hg (by decide)) (hnn _),fun p hp=>zJ (h3 p hp) ho (Nat.le_refl _) (zf (h3 p hp) hg (by decide)) (hnn _)⟩
theorem z1t.mk' {r B:Nat} {w w':World} {ac ar:Option Addr} {cc cr:Nat} {ps:List (Int × Int)} {ur:List (Value × R)} {hd ft gp:Int} (hD:z0Q ⟨ps,hd,ft,ur.map (·.2),gp⟩) (h1:zS w' w.heap.size (.slice ac ps.length cc) ps) (h2:zC w' w.heap.size (.slice ar ur.length cr) (ur.map (·.2)))
  (h3:Rd w' r (B+3000)) (h4:Bk r w w'):z1t r B w (.returned (.agg #[.slice ac ps.length cc,.int .i64 hd,.int .i64 ft,.slice ar ur.length cr,.int .i64 gp])) w' :=
 ⟨ac,ar,cc,cr,⟨ps,hd,ft,ur.map (·.2),gp⟩,by simp,hD,h1,by simpa using h2,h3,h4⟩
def FA (w:World) (vc vr:Value) (ps:List (Int × Int)) (ur:List (Value × R)) (W:World):Prop:=zw W w.heap.size vc ps∧zr W w.heap.size vr ur∧W.heap[w.heap.size]?=some (.cells #[.slice none 0 0,.int .i64 0,.int .i64 0,.slice none 0 0,.int .i64 0] 26)
def FB (w:World) (vr:Value) (ur:List (Value × R)) (W:World):Prop:=zr W w.heap.size vr ur∧W.heap[w.heap.size]?=some (.cells #[.slice none 0 0,.int .i64 0,.int .i64 0,.slice none 0 0,.int .i64 0] 26)
theorem nn' (x:Value):x.ownBlock=none∨x.ownBlock ≠ none:=by cases x.ownBlock <;> simp
theorem FA.stays {w:World} {tb:Nat} {vc vr:Value} {ps:List (Int × Int)} {ur:List (Value × R)} (hz:w.heap.size < tb) (h1:vc.ownBlock=none∨vc.ownBlock ≠ some tb) (h2:vr.ownBlock=none∨vr.ownBlock ≠ some tb) (h3:∀ p ∈ ur,p.1.ownBlock=none∨p.1.ownBlock ≠ some tb):z3m w.heap.size tb (.slice none 0 0) (FA w vc vr ps ur) :=
 fun _ _ ⟨a1,a2,a3⟩ ho=>⟨zJ a1 ho (Nat.le_refl _) h1 (nn' _),a2.off ho (Nat.le_refl _) h2 (nn' _) (fun p hp=>⟨h3 p hp,nn' _⟩),(ho.block _ (Nat.le_refl _) (bL a3) (by simp;omega) (by simp [Value.ownBlock])).trans a3⟩
theorem FB.stays {w:World} {tb:Nat} {vc vr:Value} {ur:List (Value × R)} (hz:w.heap.size < tb) (h2:vr.ownBlock=none∨vr.ownBlock ≠ some tb) (h3:∀ p ∈ ur,p.1.ownBlock=none∨p.1.ownBlock ≠ some tb) (h4:vr.ownBlock=none∨vr.ownBlock ≠ vc.ownBlock) (h5:∀ p ∈ ur,p.1.ownBlock=none∨p.1.ownBlock ≠ vc.ownBlock) (h6:some w.heap.size ≠ vc.ownBlock):z3m w.heap.size tb vc (FB w vr ur) :=
 fun _ _ ⟨a2,a3⟩ ho=>⟨a2.off ho (Nat.le_refl _) h2 h4 (fun p hp=>⟨h3 p hp,h5 p hp⟩),(ho.block _ (Nat.le_refl _) (bL a3) (by simp;omega) h6).trans a3⟩
def FC (w:World) (t5:Nat) (tc:Array Value) (vc:Value) (ps:List (Int × Int)) (ur:List (Value × R)) (kk:Nat) (W:World):Prop :=
 W.heap[t5]?=some (.cells tc 26)∧zw W w.heap.size vc ps∧W.heap[w.heap.size]?=some (.cells #[.slice none 0 0,.int .i64 0,.int .i64 0,.slice none 0 0,.int .i64 0] 26)∧∀ i (hi:i < ur.length),i ≠ kk→zL W w.heap.size ur[i].1 ur[i].2.cells
theorem FC.stays {w:World} {t5 rb:Nat} {tc:Array Value} {vc u:Value} {ps:List (Int × Int)} {ur:List (Value × R)} {kk:Nat} (ht:w.heap.size≤t5) (h1:some t5 ≠ some rb) (h2:some t5 ≠ u.ownBlock) (h3:vc.ownBlock=none∨vc.ownBlock ≠ some rb) (h4:vc.ownBlock=none∨vc.ownBlock ≠ u.ownBlock)
  (h5:some w.heap.size ≠ some rb) (h6:some w.heap.size ≠ u.ownBlock) (h7:∀ i (hi:i < ur.length),i ≠ kk→zaL ur[i].1 (some rb) u.ownBlock):z3m w.heap.size rb u (FC w t5 tc vc ps ur kk) :=
 fun _ _ ⟨a1,a2,a3,a4⟩ ho=>⟨(ho.block _ ht (bL a1) h1 h2).trans a1,zJ a2 ho (Nat.le_refl _) h3 h4,(ho.block _ (Nat.le_refl _) (bL a3) h5 h6).trans a3,fun i hi hk=>zJ (a4 i hi hk) ho (Nat.le_refl _) (h7 i hi hk).1 (h7 i hi hk).2⟩
theorem z5H (v:Value) (cs:List C):∀ (l:List (Value × R)) (k:Nat) (hk:k < l.length),(l.set k (v,⟨cs,l[k].2.whole⟩)).flatMap zt=(l.flatMap zt).set (k * 2) v
 | a :: t,0,_=>by simp [zt]
 | a :: t,k+1,hk=>by
  have ih:=z5H v cs t k (by simpa using hk);have e:(k+1) * 2=k * 2+2:=(by omega);simp only [List.set_cons_succ,List.flatMap_cons,List.getElem_cons_succ];rw [ih,e];simp [zt]
theorem zr.other {w:World} {base:Nat} {v:Value} {ur:List (Value × R)} (h:zr w base v ur) {i k:Nat} (hi:i < ur.length) (hk:k < ur.length) (hne:i ≠ k):ur[i].1.ownBlock=none∨ur[i].1.ownBlock ≠ ur[k].1.ownBlock:=by
 have hp:=List.pairwise_iff_getElem.1 h.apart
 rcases Nat.lt_or_gt_of_ne hne with h1 | h1
 ·exact hp i k hi hk h1
 ·rcases hp k i hk hi h1 with h2 | h2
  ·rw [h2]
   cases ur[i].1.ownBlock <;> simp
  ·exact .inr (fun e=>h2 e.symm)
theorem z8S {w:World} {base rb cap kk:Nat} {cur:Array Value} {ur:List (Value × R)} {v:Value} {x:C} (hk:kk < ur.length) (hb:base≤rb) (hn:ur.length≤cap) (hcm:cap≤maxLen) (hc:cur.size=cap * 2) (ht:cur.toList.take (ur.length * 2)=ur.flatMap zt)
  (hT:w.heap[rb]?=some (.cells (cur.setIfInBounds (kk * 2) v) 33)) (hO:zL w base v (ur[kk].2.cells ++ [x])) (hothers:∀ i (hi:i < ur.length),i ≠ kk→zL w base ur[i].1 ur[i].2.cells) :
  w.ownsRow base 33 2 (.slice (some ⟨rb,0,none⟩) (ur.set kk (v,⟨ur[kk].2.cells ++ [x],ur[kk].2.whole⟩)).length cap) (ur.set kk (v,⟨ur[kk].2.cells ++ [x],ur[kk].2.whole⟩)).length ((ur.set kk (v,⟨ur[kk].2.cells ++ [x],ur[kk].2.whole⟩)).flatMap zt)∧∀ p ∈ ur.set kk (v,⟨ur[kk].2.cells ++ [x],ur[kk].2.whole⟩),zL w base p.1 p.2.cells:=by
 refine ⟨⟨z0y zt 2 (fun _=>rfl) _,.inr ⟨rb,cap,_,rfl,hb,hT,by rw [List.length_set];exact hn,hcm,by rw [Array.size_setIfInBounds];exact hc,?_⟩⟩,fun p hp=>?_⟩
 ·rw [z5H,List.length_set,Array.toList_setIfInBounds,List.take_set,ht]
 ·obtain ⟨i,hi,rfl⟩:=List.mem_iff_getElem.1 hp;rw [List.length_set] at hi;by_cases h:kk=i
  ·subst h;rw [List.getElem_set_self];exact hO
  ·rw [List.getElem_set_ne h];exact hothers i hi (fun e=>h e.symm)
theorem z7Y {kk:Nat} {ur:List (Value × R)} {v:Value} {x:C} (hk:kk < ur.length) (hs:∀ p ∈ ur,p.2.cells.length≤4∧∀ x ∈ p.2.cells,Cx x) (hx:Cx x) :
  (∀ p ∈ ur.set kk (v,⟨ur[kk].2.cells ++ [x],ur[kk].2.whole⟩),∀ y ∈ p.2.cells,Cx y)∧∃ k,∀ i,(((ur.set kk (v,⟨ur[kk].2.cells ++ [x],ur[kk].2.whole⟩)).map (·.2)).getD i dR).cells.length≤if i=k then 5 else 4:=by
 constructor
 ·intro p hp y hy;obtain ⟨i,hi,rfl⟩:=List.mem_iff_getElem.1 hp;rw [List.length_set] at hi;by_cases h:kk=i
  ·subst h;rw [List.getElem_set_self] at hy
   rcases List.mem_append.1 hy with hy | hy
   ·exact (hs _ (List.getElem_mem hk)).2 y hy
   ·simp at hy;subst hy;exact hx
  ·rw [List.getElem_set_ne h] at hy;exact (hs _ (List.getElem_mem hi)).2 y hy
 ·refine ⟨kk,fun i=>?_⟩;by_cases hi:i < ur.length
  ·rw [zx dR (by simpa using hi),List.getElem_map];by_cases h:kk=i
   ·subst h;rw [List.getElem_set_self,if_pos rfl];have:=(hs _ (List.getElem_mem hk)).1;simp;omega
   ·rw [List.getElem_set_ne h,if_neg (fun e=>h e.symm)];exact (hs _ (List.getElem_mem hi)).1
  ·simp [List.getD,hi,dR]
end
end Go.Proofs.Ytggmjiddadjilam
