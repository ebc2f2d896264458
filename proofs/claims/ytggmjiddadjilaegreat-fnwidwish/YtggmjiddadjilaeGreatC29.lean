/-
  PROVED HERE: what the model's ShrShare answers at every argument: the list 'shareL', in memory of its own; nothing that was in memory is turned. Also: 8 more texts of the same proof.
-/
import Derived.Test.YtggmjiddadjilaeGreatC28
import Derived.Test.YtggmjiddadjilaeGreatC22
import Derived.Test.YtggmjiddadjilaeGreatC12
import Derived.Test.YtggmjiddadjilaeGreatC23
import Derived.Test.YtggmjiddadjilaeGreatC17
import Derived.Test.YtggmjiddadjilaeGreatC24
import Derived.Laws.AppendOwn
import Derived.WalkLawsBesides
import Derived.WalkSpells
import Derived.Deep.QuietTactic
import Derived.BigQuiet
import Derived.WideShapes
namespace Go.Proofs.YtggmjiddadjilaeGreat
open Go.RowKit
theorem Q4.cell5 {w W:World} {v8 v9:Value} {g5 n c5 gb:Nat} {u lo lr:List Int} {bl:List Bool} (h:Q4 w W (.slice (some ⟨g5,0,none⟩) n c5) v8 v9 gb u lo lr bl) {k:Nat} (hk:k < u.length):W.cell? ⟨g5,k,none⟩=some (.int .i64 (u.getD k 0))∧g5 < W.heap.size:=by
 obtain ⟨gq,capq,eq1,_,_,hg,_,_,hy,_⟩:=(RowI.of_owns h.o5).get hk
 simp only [Value.slice.injEq,Option.some.injEq,Addr.mk.injEq,and_true] at eq1
 obtain ⟨rfl,_⟩:=eq1
 exact ⟨hy,hg⟩
theorem all_of_get {l:List Int} (h:∀ i,i < l.length→0≤l.getD i 0∧l.getD i 0≤100000):l.all wtB=true:=by
 rw [List.all_eq_true]
 intro x hx
 obtain ⟨i,hi,rfl⟩:=List.getElem_of_mem hx
 have:=h i hi
 simp only [wtB,decide_eq_true_eq]
 simpa [List.getD,hi] using this
theorem ones_set {l:List Int} {k:Nat} (h:k < l.length):(List.replicate k (1:Int) ++ l.drop k).set k 1=List.replicate (k+1) 1 ++ l.drop (k+1):=by
 rw [List.set_append_right _ _ (by simp)]
 simp only [List.length_replicate,Nat.sub_self]
 rw [List.drop_eq_getElem_cons h,List.set_cons_zero,List.replicate_succ',List.append_assoc]
 rfl
theorem infoI4:(Tryz.prog.info? 3).map (fun i=>(i.zero,i.size,i.bytes))=some (some (Value.int .i64 0),1,8):=by kernel_rfl
set_option maxRecDepth 100000 in
set_option maxHeartbeats 8000000 in
theorem l4Share_any (t:Int) (v:Value) (l:List Int) (hok:shrOkB t l=true) (h0:0 < l.length) (w:World) (h:IntsAt w v l) :
  Calls Tryz.prog 87 #[.int .i64 t,v] w fun e w'=>∃ x,e=.returned x∧RowI w' w.heap.size w'.heap.size x (shareL t l)∧Below w.heap.size w w':=by
 obtain ⟨i0,hi0,hz0,hz1,hz2⟩:=info_parts infoI4
 obtain ⟨b,off,cap,rfl,hc1,hc2,hbw,_⟩:=h.get h0
 have H:=Hd h
 obtain ⟨ht,hl,hw⟩:=shrOk_parts hok
 have hnil:l ≠ []:=List.length_pos_iff.1 h0
 have HF:=Hd (shareL_some hok hnil)
 have hokU:=shrOk_wts hok
 have hpU:=wts_pos hw h0
 have hmk:=makeBo l.length (by omega)
 have HWL:=Hd hw
 have HLN:=Hd (wts_len l)
 have HWU:=Hd (wts_wt hw)
 have HZu:Hid (l.sum=0→wts l=List.replicate l.length 1):=fun hz=>by rw [wts,if_pos hz]
 have HZn:Hid (l.sum ≠ 0→wts l=l):=fun hz=>by rw [wts,if_neg hz]
 have HBS:=Hd (fun k hk=>base_small hokU hpU (i:=k) hk)
 have HBSU:=Hd (base_sum hokU hpU)
 have HLE:=Hd (left_eq hokU hpU)
 have HUB:Hid (∀ k,k≤(wts l).length→0≤dueTo t (wts l) k∧dueTo t (wts l) k≤t):=fun k hk=>⟨(dueTo_wide k).1,Int.le_trans (dueTo_mono hk) (dueTo_bounds hokU hpU).1⟩
 have hsb:=sum_bound (wts_wt hw)
 rw [wts_len] at hsb
 generalize wts l=u at HF hpU HLN HWU HZu HZn HBS HBSU HLE HUB hsb
 obtain ⟨s,hs⟩:∃ s,s=u.sum:=⟨_,rfl⟩
 rw [← hs] at hpU hsb
 have HSU:Hid (u.sum=s):=hs.symm
 clear hokU hw hnil h hs hok
 go_enter Tryz.func87,Tryz.ntmps87
 go_wp2_with (at_builtin;refine wpList_append_own_at _ rfl _ _ 32 rfl w.heap.size 3 i0 (.int .i64 0) 1 8 Tryz.underlying32 hi0 hz0 hz1 hz2 rfl (by decide) _ 0 [] rfl (World.ownsRow_made (base:=w.heap.size) (e:=3) (size:=1) w #[] 0 (Nat.le_refl _) (Nat.zero_le _) rfl) ⟨b,off,none⟩ l.length cap (l.map (Value.int .i64)) rfl ?e1 ?e2 ?e3 ?e4 ?e5 ?e6 ?_)
 case e1=>simp
 case e2 =>
  intro j x hx
  rw [List.getElem?_map] at hx
  obtain ⟨y,hy,rfl⟩:=Option.map_eq_some_iff.1 hx
  have hj:=(List.getElem?_eq_some_iff.1 hy).1
  rw [Go.WideShapes.add_plain]
  obtain ⟨bq,oq,cq,eq1,_,_,_,hcq⟩:=H.out.get hj
  simp only [Value.slice.injEq,Option.some.injEq,Addr.mk.injEq,and_true,true_and] at eq1
  obtain ⟨⟨rfl,rfl⟩,_⟩:=eq1
  rw [((k_alloc (Below.refl w.heap.size w) (.cells #[] 3)).cell (p:=⟨b,off+j,none⟩) hbw),hcq]
  simp [List.getD,hy]
 case e3=>intro x hx;obtain ⟨y,_,rfl⟩:=List.mem_map.1 hx;rfl
 case e4=>unfold maxLen;omega
 case e5=>omega
 case e6=>simp
 intro v5 w5 ho5 hg5 _ _
 have O5:Hid (w5.ownsRow w.heap.size 3 1 v5 l.length (l.map (Value.int .i64))):=Hd (by simpa using ho5)
 have K5:Hid (Below w.heap.size w w5):=(k_alloc (Below.refl w.heap.size w) (.cells #[] 3)).grown hg5 (by simp) (fun q hq=>by
  have:q=w.heap.size:=by simpa [Value.ownBlock] using hq.symm
  omega)
 obtain ⟨g5,c5,rfl⟩:=Joins.ownsRow_form O5.out (by omega)
 clear ho5 hg5
 go_wp2_with fail
 refine (specl1Sum_any _ l (by omega) HWL.out _ (RowI.of_owns O5.out).at).mono ?_
 rintro e wx ⟨rfl,ex⟩
 cases ex
 by_cases hz:l.sum=0
 ·have huo:=HZu.out hz
  rw [hz]
  have HUO:=Hd huo
  clear huo hz
  go_wp2_with fail
  go_loopw [6] (fun s6 W=>∃ k:Nat,k≤l.length∧s6=.int .i64 k∧Hid (RowI W w.heap.size W.heap.size (.slice (some ⟨g5,0,none⟩) l.length c5) (List.replicate k 1 ++ l.drop k))∧Hid (Below w.heap.size w W)) (fun s6 _=>l.length - (intOf s6).toNat)
  case atStart=>exact ⟨0,Nat.zero_le _,rfl,RowI.of_owns O5.out,K5⟩
  case round =>
   clear O5 K5
   obtain ⟨k,hk,rfl,HR,HB⟩:=hrel
   have hll:(List.replicate k (1:Int) ++ l.drop k).length=l.length:=by simp;omega
   by_cases hlt:k < l.length
   ·obtain ⟨gq,capq,eq1,hgB,_,hgq,_,_,hy,hfy⟩:=HR.out.get (i:=k) (by omega)
    simp only [Value.slice.injEq,Option.some.injEq,Addr.mk.injEq,and_true] at eq1
    obtain ⟨q1,q2⟩:=eq1
    clear q2
    subst q1
    have HN:Hid ((List.replicate k (1:Int) ++ l.drop k).set k 1=List.replicate (k+1) 1 ++ l.drop (k+1)):=ones_set hlt
    have HR2:=Hd (HR.out.set (i:=k) (by omega) 1)
    rw [HN.out] at HR2
    generalize (List.replicate k (1:Int) ++ l.drop k).getD k 0=y at hy
    clear hll HN
    go_wp2
    go_roundw
    case rel=>exact ⟨k+1,by omega,by go_num,HR2.out.base (Nat.le_refl _) (by rw [sizeSet];exact Nat.le_refl _),k_set HB.out hgB _⟩
    case measure=>simp [intOf];omega
   ·obtain rfl:k=l.length:=by omega
    have O5:Hid (wr.ownsRow w.heap.size 3 1 (.slice (some ⟨g5,0,none⟩) l.length c5) u.length (u.map (Value.int .i64))):=by
     have:=HR.out
     rw [List.drop_length,List.append_nil,← HUO.out] at this
     exact this.owns
    have K5:=HB
    clear HR HB HUO hll
    obtain ⟨W0,hW⟩:∃ W0,W0=wr:=⟨_,rfl⟩
    rw [← hW] at O5 K5 ⊢
    clear hW
    go_wp2_with fail
    have CS0:=specl1Sum_any _ u (by rw [HLN.out];omega) HWU.out _ (RowI.of_owns O5.out).at
    rw [HSU.out] at CS0
    refine CS0.mono ?_
    clear CS0
    rintro e wx ⟨rfl,ex⟩
    cases ex
    go_wp2_with fail
    clear hmk
    have Q0:=Hd (Q4.start O5.out K5.out l.length)
    have hW0:=K5.out.size
    clear O5 K5
    go_loopw [8,9,11] (fun s8 s9 s11 W=>∃ k:Nat,k≤l.length∧s11=.int .i64 k∧Hid (Q4 w W (.slice (some ⟨g5,0,none⟩) l.length c5) s8 s9 (W0.heap.size+2) u ((baseL t u).take k) ((remL t u).take k) (List.replicate l.length false))) (fun _ _ s11 _=>l.length - (intOf s11).toNat)
    case atStart=>exact ⟨0,Nat.zero_le _,rfl,Q0⟩
    case round =>
     clear Q0
     obtain ⟨k,hk,rfl,HQ⟩:=hrel
     have l8:((baseL t u).take k).length=k:=by rw [List.length_take,baseL_len,HLN.out];omega
     have l9:((remL t u).take k).length=k:=by rw [List.length_take,remL_len,HLN.out];omega
     obtain ⟨a8,c8,f8⟩:=(RowI.of_owns HQ.out.o8).form
     obtain ⟨a9,c9,f9⟩:=(RowI.of_owns HQ.out.o9).form
     rw [l8] at f8
     rw [l9] at f9
     subst f8
     subst f9
     have HL8:=Hd l8
     have HL9:=Hd l9
     clear l8 l9
     by_cases hlt:k < l.length
     ·have hku:k < u.length:=by rw [HLN.out];exact hlt
      have hx0:=wt_get HWU.out hku
      have hm:=mul_small ht hx0
      have N8:=Hd (take_next (l:=baseL t u) (k:=k) (by rw [baseL_len];exact hku))
      have N9:=Hd (take_next (l:=remL t u) (k:=k) (by rw [remL_len];exact hku))
      rw [baseL_get hku] at N8
      rw [remL_get hku] at N9
      have hx:=(HQ.out.cell5 hku).1
      have h5b:=(HQ.out.cell5 hku).2
      have hmem:=HQ.out.below.size
      obtain ⟨x,hxe⟩:∃ x,x=u.getD k 0:=⟨_,rfl⟩
      rw [← hxe] at hx hx0 hm N8 N9
      have HX:=Hd hxe
      clear hxe
      have hdv:=Int.ediv_nonneg hm.1 (show (0:Int)≤s by omega)
      have hdw:=Int.le_trans (Int.ediv_le_self s hm.1) hm.2
      have hrm:=rem_small (a:=t * x) (s:=s) hpU
      rw [HSU.out] at N8 N9
      go_wp2_with (at_builtin;refine wpList_append_own_at _ rfl _ _ 32 rfl w.heap.size 3 i0 (.int .i64 0) 1 8 Tryz.underlying32 hi0 hz0 hz1 hz2 rfl (by decide) _ k _ rfl (by have:=(HQ.out.alloc (.cells #[.int .i64 (t * x / s)] 3)).o8;rw [HL8.out] at this;exact this) ⟨wr.heap.size,0,none⟩ 1 1 [.int .i64 (t * x / s)] rfl rfl (cell_one_new _ _ _) ?c2 ?c3 ?c4 ?c5 ?_)
      case c2=>intro v hv;simp at hv;subst hv;rfl
      case c3=>unfold maxLen;omega
      case c4=>omega
      case c5=>simp;omega
      intro v8 w8 ho8 hg8 _ hat8
      have HQ8:=Hd ((HQ.out.alloc (.cells #[.int .i64 (t * x / s)] 3)).app8 (by rw [HL8.out,List.map_take];exact ho8) hg8 (by simpa using hat8))
      rw [← N8.out] at HQ8
      have l8:((baseL t u).take (k+1)).length=k+1:=by rw [List.length_take,baseL_len,HLN.out];omega
      obtain ⟨a8',c8',f8⟩:=(RowI.of_owns HQ8.out.o8).form
      rw [l8] at f8
      subst f8
      have hx8:=(HQ8.out.cell5 hku).1
      have h5b8:=(HQ8.out.cell5 hku).2
      rw [← HX.out] at hx8
      have hmem8:=HQ8.out.below.size
      clear ho8 hg8 hat8 HQ hx l8 hmem h5b
      go_wp2_with (at_builtin;refine wpList_append_own_at _ rfl _ _ 32 rfl w.heap.size 3 i0 (.int .i64 0) 1 8 Tryz.underlying32 hi0 hz0 hz1 hz2 rfl (by decide) _ k _ rfl (by have:=(HQ8.out.alloc (.cells #[.int .i64 (t * x % s)] 3)).o9;rw [HL9.out] at this;exact this) ⟨w8.heap.size,0,none⟩ 1 1 [.int .i64 (t * x % s)] rfl rfl (cell_one_new _ _ _) ?d2 ?d3 ?d4 ?d5 ?_)
      case d2=>intro v hv;simp at hv;subst hv;rfl
      case d3=>unfold maxLen;omega
      case d4=>omega
      case d5=>simp;omega
      intro v9 w9 ho9 hg9 _ hat9
      have HQ9:=Hd ((HQ8.out.alloc (.cells #[.int .i64 (t * x % s)] 3)).app9 (by rw [HL9.out,List.map_take];exact ho9) hg9 (by simpa using hat9))
      rw [← N9.out] at HQ9
      have l9:((remL t u).take (k+1)).length=k+1:=by rw [List.length_take,remL_len,HLN.out];omega
      obtain ⟨a9',c9',f9⟩:=(RowI.of_owns HQ9.out.o9).form
      rw [l9] at f9
      subst f9
      clear ho9 hg9 hat9 HQ8 hx8 l9 hmem8 h5b8
      go_wp2
      go_roundw
      case rel=>exact ⟨k+1,by omega,by go_num,HQ9⟩
      case measure=>simp [intOf];omega
     ·obtain rfl:k=l.length:=by omega
      have e8:(baseL t u).take l.length=baseL t u:=by rw [← HLN.out,← baseL_len t u,List.take_length]
      have e9:(remL t u).take l.length=remL t u:=by rw [← HLN.out,← remL_len t u,List.take_length]
      rw [e8,e9] at HQ
      clear HL8 HL9 e8 e9
      have hb8:(baseL t u).length=l.length:=by rw [baseL_len,HLN.out]
      have hr9:(remL t u).length=l.length:=by rw [remL_len,HLN.out]
      have HB8:=Hd hb8
      have HR9:=Hd hr9
      have HSB:Hid ((baseL t u).sum=dueTo t u l.length):=by
       have:=HBSU.out u.length (Nat.le_refl _)
       rw [← baseL_len t u,sumTo_all,baseL_len,HLN.out] at this
       exact this
      have hwb:(baseL t u).all wtB=true:=all_of_get (fun i hi=>HBS.out i (by rw [baseL_len] at hi;exact hi))
      obtain ⟨g8,hg8⟩:∃ g8,a8=some ⟨g8,0,none⟩:=by
       obtain ⟨gq,capq,eq1,_⟩:=(RowI.of_owns HQ.out.o8).get (i:=0) (by omega)
       simp only [Value.slice.injEq] at eq1
       exact ⟨gq,eq1.1⟩
      subst hg8
      go_wp2_with fail
      have hI8:=(RowI.of_owns HQ.out.o8).at
      have CS:=specl1Sum_any (.slice (some ⟨g8,0,none⟩) l.length c8) (baseL t u) (by omega) hwb wr hI8
      rw [HSB.out] at CS
      refine CS.mono ?_
      rintro e wx ⟨rfl,ex⟩
      cases ex
      clear hI8 CS hwb
      obtain ⟨lf,hlf⟩:∃ lf,lf=leftN t u:=⟨_,rfl⟩
      have el:t - dueTo t u l.length=(lf:Int):=by rw [hlf,HLE.out.1,HLN.out]
      have hlf1:lf < l.length:=by rw [hlf,← HLN.out];exact HLE.out.2
      have HLF:=Hd hlf
      have hdu:=HUB.out l.length (by rw [HLN.out];exact Nat.le_refl _)
      clear hlf hb8 hr9
      have HQb:Hid (Q4 w wr (.slice (some ⟨g5,0,none⟩) l.length c5) (.slice (some ⟨g8,0,none⟩) l.length c8) (.slice a9 l.length c9) (W0.heap.size+2) u (bumps (baseL t u) (srtL t u) 0) (remL t u) (List.replicate l.length false)):=HQ.out
      clear HQ
      go_wp2_with fail
      go_loopw [12] (fun s12 W=>∃ (j:Nat) (bl:List Bool),j≤lf∧s12=.int .i64 ((lf:Int) - (j:Int))∧bl.length=l.length∧Hid (GotP t u bl j)∧Hid (Q4 w W (.slice (some ⟨g5,0,none⟩) l.length c5) (.slice (some ⟨g8,0,none⟩) l.length c8) (.slice a9 l.length c9) (W0.heap.size+2) u (bumps (baseL t u) (srtL t u) j) (remL t u) bl)) (fun s12 _=>(intOf s12).toNat)
      case atStart=>exact ⟨0,List.replicate l.length false,Nat.zero_le _,by first | simp | (rw [el];simp),by simp,got_zero t u l.length,HQb⟩
      case round =>
       clear HQb
       obtain ⟨j,bl,hj,rfl,hbl,HGo,HQ⟩:=hrel
       by_cases hlt:j < lf
       ·have hltz:(0:Int) < (lf:Int) - (j:Int):=by omega
        have hlz:(0:Int) < (l.length:Int):=by omega
        have hjs:j < (srtL t u).length:=by rw [srtL_len,HLN.out];omega
        have HNx:=l4Next_any (.slice a9 l.length c9) (remL t u) (W0.heap.size+2) l.length bl (by rw [HR9.out];exact hbl) wr (RowI.of_owns HQ.out.o9).at HQ.out.bo
        rw [HR9.out] at HNx
        go_wp2_with fail
        refine HNx.mono ?_
        rintro e w4 ⟨kk,rfl,hNP,q4,hw4⟩
        rw [← HLN.out] at hNP
        obtain ⟨i,hi,hsi,hki,hbi⟩:=next_is hjs HGo.out hNP
        subst hki
        have hil:i < l.length:=by rw [← HLN.out];exact hi
        have HQ4:=HQ.out.drewN q4
        rw [← hw4] at HQ4
        have hbb:=bumps_bound (B:=100000) (s:=srtL t u) (fun q hq=>HBS.out q (by rw [baseL_len] at hq;exact hq)) j (by omega) i (by rw [baseL_len];exact hi)
        have hbu:(bumps (baseL t u) (srtL t u) j).length=l.length:=by rw [bumps_len,HB8.out]
        obtain ⟨gq,capq,eq1,_,_,hgq,_,_,hy,hfy⟩:=(RowI.of_owns HQ4.o8).get (i:=i) (by omega)
        simp only [Value.slice.injEq,Option.some.injEq,Addr.mk.injEq,and_true] at eq1
        obtain ⟨q1,q2⟩:=eq1
        clear q2
        subst q1
        obtain ⟨hgo,hgf⟩:=HQ4.bo.get (i:=i) (by omega)
        have hgb:=HQ4.bo.lt
        have hne8:g8 ≠ W0.heap.size+2:=fun e=>HQ4.nb8 (by rw [e];rfl)
        have HN:=Hd (bumps_succ (g:=baseL t u) hjs)
        rw [hsi] at HN
        have HGo2:=Hd (got_next (by rw [hbl,HLN.out]) hjs HGo.out hsi)
        have HQ5:=Hd ((HQ4.setb i (by omega) true).set8 i (by omega) ((bumps (baseL t u) (srtL t u) j).getD i 0+1))
        have HN2:Hid (bumps (baseL t u) (srtL t u) (j+1)=(bumps (baseL t u) (srtL t u) j).set i ((bumps (baseL t u) (srtL t u) j).getD i 0+1)):=HN.out
        rw [← HN2.out] at HQ5
        generalize (bumps (baseL t u) (srtL t u) j).getD i 0=z at hy hbb HQ5
        generalize bl.getD i false=zb at hgo hbi
        have hi0':(0:Int)≤(i:Int):=by omega
        have hi1':(i:Int) < (l.length:Int):=by omega
        clear hNP hw4 HQ4 HN HN2 HNx hsi hjs hbu HQ HGo
        go_wp2
        go_roundw
        case rel=>exact ⟨j+1,bl.set i true,by omega,by congr 1;omega,by simp [hbl],HGo2,HQ5⟩
        case measure=>simp [intOf];omega
       ·obtain rfl:j=lf:=by omega
        have hz:¬ (0:Int) < (j:Int) - (j:Int):=by omega
        have HE:Hid (shareL t l=bumps (baseL t u) (srtL t u) j):=by rw [HLF.out];exact HF.out
        go_wp2
        go_ret
        exact ⟨_,rfl,by rw [HE.out];exact RowI.of_owns HQ.out.o8,HQ.out.below⟩
 ·have huo:=HZn.out hz
  have hzb:(l.sum == 0)=false:=by simpa using hz
  have O5':Hid (w5.ownsRow w.heap.size 3 1 (.slice (some ⟨g5,0,none⟩) l.length c5) u.length (u.map (Value.int .i64))):=by rw [huo];exact O5.out
  clear O5 huo
  have O5:=O5'
  clear O5'
  generalize l.sum=sl at hzb hz
  obtain ⟨W0,hW⟩:∃ W0,W0=w5:=⟨_,rfl⟩
  rw [← hW] at O5 K5 ⊢
  clear hW
  go_wp2_with fail
  have CS0:=specl1Sum_any _ u (by rw [HLN.out];omega) HWU.out _ (RowI.of_owns O5.out).at
  rw [HSU.out] at CS0
  refine CS0.mono ?_
  clear CS0
  rintro e wx ⟨rfl,ex⟩
  cases ex
  go_wp2_with fail
  clear hmk
  have Q0:=Hd (Q4.start O5.out K5.out l.length)
  have hW0:=K5.out.size
  clear O5 K5
  go_loopw [8,9,11] (fun s8 s9 s11 W=>∃ k:Nat,k≤l.length∧s11=.int .i64 k∧Hid (Q4 w W (.slice (some ⟨g5,0,none⟩) l.length c5) s8 s9 (W0.heap.size+2) u ((baseL t u).take k) ((remL t u).take k) (List.replicate l.length false))) (fun _ _ s11 _=>l.length - (intOf s11).toNat)
  case atStart=>exact ⟨0,Nat.zero_le _,rfl,Q0⟩
  case round =>
   clear Q0
   obtain ⟨k,hk,rfl,HQ⟩:=hrel
   have l8:((baseL t u).take k).length=k:=by rw [List.length_take,baseL_len,HLN.out];omega
   have l9:((remL t u).take k).length=k:=by rw [List.length_take,remL_len,HLN.out];omega
   obtain ⟨a8,c8,f8⟩:=(RowI.of_owns HQ.out.o8).form
   obtain ⟨a9,c9,f9⟩:=(RowI.of_owns HQ.out.o9).form
   rw [l8] at f8
   rw [l9] at f9
   subst f8
   subst f9
   have HL8:=Hd l8
   have HL9:=Hd l9
   clear l8 l9
   by_cases hlt:k < l.length
   ·have hku:k < u.length:=by rw [HLN.out];exact hlt
    have hx0:=wt_get HWU.out hku
    have hm:=mul_small ht hx0
    have N8:=Hd (take_next (l:=baseL t u) (k:=k) (by rw [baseL_len];exact hku))
    have N9:=Hd (take_next (l:=remL t u) (k:=k) (by rw [remL_len];exact hku))
    rw [baseL_get hku] at N8
    rw [remL_get hku] at N9
    have hx:=(HQ.out.cell5 hku).1
    have h5b:=(HQ.out.cell5 hku).2
    have hmem:=HQ.out.below.size
    obtain ⟨x,hxe⟩:∃ x,x=u.getD k 0:=⟨_,rfl⟩
    rw [← hxe] at hx hx0 hm N8 N9
    have HX:=Hd hxe
    clear hxe
    have hdv:=Int.ediv_nonneg hm.1 (show (0:Int)≤s by omega)
    have hdw:=Int.le_trans (Int.ediv_le_self s hm.1) hm.2
    have hrm:=rem_small (a:=t * x) (s:=s) hpU
    rw [HSU.out] at N8 N9
    go_wp2_with (at_builtin;refine wpList_append_own_at _ rfl _ _ 32 rfl w.heap.size 3 i0 (.int .i64 0) 1 8 Tryz.underlying32 hi0 hz0 hz1 hz2 rfl (by decide) _ k _ rfl (by have:=(HQ.out.alloc (.cells #[.int .i64 (t * x / s)] 3)).o8;rw [HL8.out] at this;exact this) ⟨wr.heap.size,0,none⟩ 1 1 [.int .i64 (t * x / s)] rfl rfl (cell_one_new _ _ _) ?c2 ?c3 ?c4 ?c5 ?_)
    case c2=>intro v hv;simp at hv;subst hv;rfl
    case c3=>unfold maxLen;omega
    case c4=>omega
    case c5=>simp;omega
    intro v8 w8 ho8 hg8 _ hat8
    have HQ8:=Hd ((HQ.out.alloc (.cells #[.int .i64 (t * x / s)] 3)).app8 (by rw [HL8.out,List.map_take];exact ho8) hg8 (by simpa using hat8))
    rw [← N8.out] at HQ8
    have l8:((baseL t u).take (k+1)).length=k+1:=by rw [List.length_take,baseL_len,HLN.out];omega
    obtain ⟨a8',c8',f8⟩:=(RowI.of_owns HQ8.out.o8).form
    rw [l8] at f8
    subst f8
    have hx8:=(HQ8.out.cell5 hku).1
    have h5b8:=(HQ8.out.cell5 hku).2
    rw [← HX.out] at hx8
    have hmem8:=HQ8.out.below.size
    clear ho8 hg8 hat8 HQ hx l8 hmem h5b
    go_wp2_with (at_builtin;refine wpList_append_own_at _ rfl _ _ 32 rfl w.heap.size 3 i0 (.int .i64 0) 1 8 Tryz.underlying32 hi0 hz0 hz1 hz2 rfl (by decide) _ k _ rfl (by have:=(HQ8.out.alloc (.cells #[.int .i64 (t * x % s)] 3)).o9;rw [HL9.out] at this;exact this) ⟨w8.heap.size,0,none⟩ 1 1 [.int .i64 (t * x % s)] rfl rfl (cell_one_new _ _ _) ?d2 ?d3 ?d4 ?d5 ?_)
    case d2=>intro v hv;simp at hv;subst hv;rfl
    case d3=>unfold maxLen;omega
    case d4=>omega
    case d5=>simp;omega
    intro v9 w9 ho9 hg9 _ hat9
    have HQ9:=Hd ((HQ8.out.alloc (.cells #[.int .i64 (t * x % s)] 3)).app9 (by rw [HL9.out,List.map_take];exact ho9) hg9 (by simpa using hat9))
    rw [← N9.out] at HQ9
    have l9:((remL t u).take (k+1)).length=k+1:=by rw [List.length_take,remL_len,HLN.out];omega
    obtain ⟨a9',c9',f9⟩:=(RowI.of_owns HQ9.out.o9).form
    rw [l9] at f9
    subst f9
    clear ho9 hg9 hat9 HQ8 hx8 l9 hmem8 h5b8
    go_wp2
    go_roundw
    case rel=>exact ⟨k+1,by omega,by go_num,HQ9⟩
    case measure=>simp [intOf];omega
   ·obtain rfl:k=l.length:=by omega
    have e8:(baseL t u).take l.length=baseL t u:=by rw [← HLN.out,← baseL_len t u,List.take_length]
    have e9:(remL t u).take l.length=remL t u:=by rw [← HLN.out,← remL_len t u,List.take_length]
    rw [e8,e9] at HQ
    clear HL8 HL9 e8 e9
    have hb8:(baseL t u).length=l.length:=by rw [baseL_len,HLN.out]
    have hr9:(remL t u).length=l.length:=by rw [remL_len,HLN.out]
    have HB8:=Hd hb8
    have HR9:=Hd hr9
    have HSB:Hid ((baseL t u).sum=dueTo t u l.length):=by
     have:=HBSU.out u.length (Nat.le_refl _)
     rw [← baseL_len t u,sumTo_all,baseL_len,HLN.out] at this
     exact this
    have hwb:(baseL t u).all wtB=true:=all_of_get (fun i hi=>HBS.out i (by rw [baseL_len] at hi;exact hi))
    obtain ⟨g8,hg8⟩:∃ g8,a8=some ⟨g8,0,none⟩:=by
     obtain ⟨gq,capq,eq1,_⟩:=(RowI.of_owns HQ.out.o8).get (i:=0) (by omega)
     simp only [Value.slice.injEq] at eq1
     exact ⟨gq,eq1.1⟩
    subst hg8
    go_wp2_with fail
    have hI8:=(RowI.of_owns HQ.out.o8).at
    have CS:=specl1Sum_any (.slice (some ⟨g8,0,none⟩) l.length c8) (baseL t u) (by omega) hwb wr hI8
    rw [HSB.out] at CS
    refine CS.mono ?_
    rintro e wx ⟨rfl,ex⟩
    cases ex
    clear hI8 CS hwb
    obtain ⟨lf,hlf⟩:∃ lf,lf=leftN t u:=⟨_,rfl⟩
    have el:t - dueTo t u l.length=(lf:Int):=by rw [hlf,HLE.out.1,HLN.out]
    have hlf1:lf < l.length:=by rw [hlf,← HLN.out];exact HLE.out.2
    have HLF:=Hd hlf
    have hdu:=HUB.out l.length (by rw [HLN.out];exact Nat.le_refl _)
    clear hlf hb8 hr9
    have HQb:Hid (Q4 w wr (.slice (some ⟨g5,0,none⟩) l.length c5) (.slice (some ⟨g8,0,none⟩) l.length c8) (.slice a9 l.length c9) (W0.heap.size+2) u (bumps (baseL t u) (srtL t u) 0) (remL t u) (List.replicate l.length false)):=HQ.out
    clear HQ
    go_wp2_with fail
    go_loopw [12] (fun s12 W=>∃ (j:Nat) (bl:List Bool),j≤lf∧s12=.int .i64 ((lf:Int) - (j:Int))∧bl.length=l.length∧Hid (GotP t u bl j)∧Hid (Q4 w W (.slice (some ⟨g5,0,none⟩) l.length c5) (.slice (some ⟨g8,0,none⟩) l.length c8) (.slice a9 l.length c9) (W0.heap.size+2) u (bumps (baseL t u) (srtL t u) j) (remL t u) bl)) (fun s12 _=>(intOf s12).toNat)
    case atStart=>exact ⟨0,List.replicate l.length false,Nat.zero_le _,by first | simp | (rw [el];simp),by simp,got_zero t u l.length,HQb⟩
    case round =>
     clear HQb
     obtain ⟨j,bl,hj,rfl,hbl,HGo,HQ⟩:=hrel
     by_cases hlt:j < lf
     ·have hltz:(0:Int) < (lf:Int) - (j:Int):=by omega
      have hlz:(0:Int) < (l.length:Int):=by omega
      have hjs:j < (srtL t u).length:=by rw [srtL_len,HLN.out];omega
      have HNx:=l4Next_any (.slice a9 l.length c9) (remL t u) (W0.heap.size+2) l.length bl (by rw [HR9.out];exact hbl) wr (RowI.of_owns HQ.out.o9).at HQ.out.bo
      rw [HR9.out] at HNx
      go_wp2_with fail
      refine HNx.mono ?_
      rintro e w4 ⟨kk,rfl,hNP,q4,hw4⟩
      rw [← HLN.out] at hNP
      obtain ⟨i,hi,hsi,hki,hbi⟩:=next_is hjs HGo.out hNP
      subst hki
      have hil:i < l.length:=by rw [← HLN.out];exact hi
      have HQ4:=HQ.out.drewN q4
      rw [← hw4] at HQ4
      have hbb:=bumps_bound (B:=100000) (s:=srtL t u) (fun q hq=>HBS.out q (by rw [baseL_len] at hq;exact hq)) j (by omega) i (by rw [baseL_len];exact hi)
      have hbu:(bumps (baseL t u) (srtL t u) j).length=l.length:=by rw [bumps_len,HB8.out]
      obtain ⟨gq,capq,eq1,_,_,hgq,_,_,hy,hfy⟩:=(RowI.of_owns HQ4.o8).get (i:=i) (by omega)
      simp only [Value.slice.injEq,Option.some.injEq,Addr.mk.injEq,and_true] at eq1
      obtain ⟨q1,q2⟩:=eq1
      clear q2
      subst q1
      obtain ⟨hgo,hgf⟩:=HQ4.bo.get (i:=i) (by omega)
      have hgb:=HQ4.bo.lt
      have hne8:g8 ≠ W0.heap.size+2:=fun e=>HQ4.nb8 (by rw [e];rfl)
      have HN:=Hd (bumps_succ (g:=baseL t u) hjs)
      rw [hsi] at HN
      have HGo2:=Hd (got_next (by rw [hbl,HLN.out]) hjs HGo.out hsi)
      have HQ5:=Hd ((HQ4.setb i (by omega) true).set8 i (by omega) ((bumps (baseL t u) (srtL t u) j).getD i 0+1))
      have HN2:Hid (bumps (baseL t u) (srtL t u) (j+1)=(bumps (baseL t u) (srtL t u) j).set i ((bumps (baseL t u) (srtL t u) j).getD i 0+1)):=HN.out
      rw [← HN2.out] at HQ5
      generalize (bumps (baseL t u) (srtL t u) j).getD i 0=z at hy hbb HQ5
      generalize bl.getD i false=zb at hgo hbi
      have hi0':(0:Int)≤(i:Int):=by omega
      have hi1':(i:Int) < (l.length:Int):=by omega
      clear hNP hw4 HQ4 HN HN2 HNx hsi hjs hbu HQ HGo
      go_wp2
      go_roundw
      case rel=>exact ⟨j+1,bl.set i true,by omega,by congr 1;omega,by simp [hbl],HGo2,HQ5⟩
      case measure=>simp [intOf];omega
     ·obtain rfl:j=lf:=by omega
      have hz:¬ (0:Int) < (j:Int) - (j:Int):=by omega
      have HE:Hid (shareL t l=bumps (baseL t u) (srtL t u) j):=by rw [HLF.out];exact HF.out
      go_wp2
      go_ret
      exact ⟨_,rfl,by rw [HE.out];exact RowI.of_owns HQ.out.o8,HQ.out.below⟩
theorem map_cells {w:World} {b off n cap:Nat} {l:List Int} (H:IntsAt w (.slice (some ⟨b,off,none⟩) n cap) l) {w':World} (K:Below w.heap.size w w'):∀ j x,(l.map (Value.int .i64))[j]?=some x→w'.cell? ((⟨b,off,none⟩:Addr).add j)=some x:=by
 intro j x hx
 rw [List.getElem?_map] at hx
 obtain ⟨y,hy,rfl⟩:=Option.map_eq_some_iff.1 hx
 have hj:=(List.getElem?_eq_some_iff.1 hy).1
 rw [Go.WideShapes.add_plain]
 obtain ⟨bq,oq,cq,eq1,_,_,hbw,hcq⟩:=H.get hj
 simp only [Value.slice.injEq,Option.some.injEq,Addr.mk.injEq,and_true] at eq1
 obtain ⟨⟨rfl,rfl⟩,_⟩:=eq1
 rw [K.cell (p:=⟨b,off+j,none⟩) hbw,hcq]
 simp [List.getD,hy]
theorem map_one (l:List Int):∀ x ∈ l.map (Value.int .i64),x.oneCell'=true:=fun x hx=>by obtain ⟨y,_,rfl⟩:=List.mem_map.1 hx;rfl
set_option maxRecDepth 100000 in
set_option maxHeartbeats 1000000 in
theorem specl5Said (ac ar:Option Addr) (cc cr:Nat) (t:T) (q:Int) (hq:0≤q) (w:World) {z:Nat} (hc:ColsAt w z (.slice ac t.cols.length cc) t.cols) :
  Calls Tryz.prog 69 #[.agg #[.slice ac t.cols.length cc,.int .i64 t.head,.int .i64 t.foot,.slice ar t.rows.length cr,.int .i64 t.gap],.int .i64 q] w fun e w'=>e=.returned (.agg #[.int .i64 (sd t.cols q).1,.int .i64 (sd t.cols q).2])∧Below w.heap.size w w':=by
 obtain ⟨_,_,_,hlen⟩:=At.form hc
 unfold maxLen at hlen
 obtain ⟨k,rfl⟩:=Int.eq_ofNat_of_zero_le hq
 by_cases hkl:k < t.cols.length
 ·rw [sd_yes hkl]
  have hlt:(k:Int) < (t.cols.length:Int):=by omega
  obtain ⟨b,off,cap',e',hc1,hc2,hbl,hx0,hx1⟩:=At.get hc hkl
  simp only [Value.slice.injEq,true_and] at e'
  obtain ⟨rfl,rfl⟩:=e'
  unfold maxLen at hc2
  generalize t.cols.getD k (0,0)=p at hx0 hx1 ⊢
  clear hc
  go_enter Tryz.func69,Tryz.ntmps69
  go_wp2
  exact bodyPost_ret (v:=.agg #[.int .i64 p.1,.int .i64 p.2]) (by simp [results,Tryz.results69,go_sem]) rfl ⟨rfl,by repeat (first | exact Below.refl _ _ | apply k_alloc)⟩
 ·rw [sd_no (inB_false (by omega))]
  have hlt:¬ (k:Int) < (t.cols.length:Int):=by omega
  clear hc
  go_enter Tryz.func69,Tryz.ntmps69
  go_wp2
  exact bodyPost_ret (v:=.agg #[.int .i64 0,.int .i64 0]) (by simp [results,Tryz.results69,go_sem]) rfl ⟨rfl,by repeat (first | exact Below.refl _ _ | apply k_alloc)⟩
theorem own_span {l:List Int} {x:GC} {c m:Nat} (hc:x.col=c) (hm:x.cols=m):∀ k,k≤l.length→(ownL l (inCell x) k).length=min m (k - c)∧(ownL l (inCell x) k).sum=sumTo l (min k (c+m)) - sumTo l (min k c)
 | 0,_=>by simp [ownL,sumTo]
 | k+1,hk=>by
  obtain ⟨h1,h2⟩:=own_span (l:=l) hc hm k (by omega)
  by_cases hin:c≤k∧k < c+m
  ·have e:inCell x k=true:=by simp [inCell,amongB,hc,hm];omega
   rw [ownL_yes e,List.length_append,List.sum_append,h1,h2]
   have e1:min (k+1) (c+m)=k+1:=by omega
   have e2:min k (c+m)=k:=by omega
   have e3:min (k+1) c=c:=by omega
   have e4:min k c=c:=by omega
   rw [e1,e2,e3,e4,sumTo_succ (by omega)]
   simp
   omega
  ·have e:inCell x k=false:=by simp [inCell,amongB,hc,hm];omega
   rw [ownL_no e,h1,h2]
   have e1:min (k+1) (c+m)=min k (c+m)∨min (k+1) c=k+1:=by omega
   by_cases hkc:k < c
   ·have a1:min (k+1) (c+m)=k+1:=by omega
    have a2:min k (c+m)=k:=by omega
    have a3:min (k+1) c=k+1:=by omega
    have a4:min k c=k:=by omega
    rw [a1,a2,a3,a4]
    omega
   ·have a1:min (k+1) (c+m)=min k (c+m):=by omega
    have a3:min (k+1) c=min k c:=by omega
    rw [a1,a3]
    omega
def eS:ByteArray:=ByteArray.empty
def RowS (w:World) (B:Nat) (v:Value) (l:List ByteArray):Prop :=
 (v=.slice none 0 0∧l=[])∨∃ g cap cur,v=.slice (some ⟨g,0,none⟩) l.length cap∧B≤g∧w.heap[g]?=some (.cells cur 9 (0,0))∧l.length≤cap∧cap≤maxLen∧cur.size=cap∧∀ i,i < l.length→cur[i]?=some (.string (l.getD i eS))
theorem RowS.of_owns {w:World} {B:Nat} {v:Value} {l:List ByteArray} (h:w.ownsRow B 9 1 v l.length (l.map Value.string)):RowS w B v l:=by
 rcases h.2 with ⟨hv,h0⟩ | ⟨g,cap,cur,hv,hb,hg,h1,h2,h3,h4⟩
 ·exact .inl ⟨hv,List.eq_nil_of_length_eq_zero h0⟩
 ·refine .inr ⟨g,cap,cur,hv,hb,hg,h1,h2,by omega,fun i hi=>?_⟩
  have:cur.toList[i]?=(l.map Value.string)[i]?:=by rw [← h4,List.getElem?_take_of_lt (by omega)]
  rw [← Array.getElem?_toList,this]
  simp [List.getD,hi]
theorem RowS.below {w w':World} {B C:Nat} {v:Value} {l:List ByteArray} (h:RowS w B v l) (k:Below C w w') (hC:w.heap.size≤C):RowS w' B v l:=by
 rcases h with h | ⟨g,cap,cur,hv,hb,hg,r⟩
 ·exact .inl h
 ·exact .inr ⟨g,cap,cur,hv,hb,(k.block g (Nat.lt_of_lt_of_le (bL hg) hC)).trans hg,r⟩
theorem RowS.base {w:World} {B B':Nat} {v:Value} {l:List ByteArray} (h:RowS w B v l) (hB:B'≤B):RowS w B' v l:=by
 rcases h with h | ⟨g,cap,cur,hv,hb,r⟩
 ·exact .inl h
 ·exact .inr ⟨g,cap,cur,hv,Nat.le_trans hB hb,r⟩
theorem ownsRow_keptS {w w':World} {base size n:Nat} {e:TypeId} {v:Value} {xs:List Value} (h:w.ownsRow base e size v n xs) (hb:Below w.heap.size w w'):w'.ownsRow base e size v n xs :=
 ⟨h.1,h.2.elim Or.inl (fun ⟨g,cap,cur,hv,hg,hc,r⟩=>Or.inr ⟨g,cap,cur,hv,hg,(hb.block g (bL hc)).trans hc,r⟩)⟩
theorem RowS.form {w:World} {B:Nat} {v:Value} {l:List ByteArray} (h:RowS w B v l):∃ a cap,v=.slice a l.length cap:=by
 rcases h with ⟨rfl,rfl⟩ | ⟨g,cap,cur,hv,_⟩
 ·exact ⟨none,0,rfl⟩
 ·exact ⟨_,_,hv⟩
theorem RowS.get {w:World} {B:Nat} {v:Value} {l:List ByteArray} (h:RowS w B v l) {i:Nat} (hi:i < l.length) :
  ∃ g cap,v=.slice (some ⟨g,0,none⟩) l.length cap∧B≤g∧g < w.heap.size∧l.length≤cap∧cap≤maxLen∧w.cell? ⟨g,i,none⟩=some (.string (l.getD i eS))∧w.frozen? ⟨g,i,none⟩=false:=by
 rcases h with ⟨_,rfl⟩ | ⟨g,cap,cur,hv,hb,hg,h1,h2,h3,h4⟩
 ·cases hi
 ·exact ⟨g,cap,hv,hb,(bL hg),h1,h2,(cellB hg).trans (h4 i hi),freeB hg⟩
theorem RowS.set {w:World} {B g cap n:Nat} {l:List ByteArray} (h:RowS w B (.slice (some ⟨g,0,none⟩) n cap) l) {i:Nat} (hi:i < l.length) (x:ByteArray):RowS (w.setCell ⟨g,i,none⟩ (.string x)) B (.slice (some ⟨g,0,none⟩) n cap) (l.set i x):=by
 rcases h with ⟨hv,_⟩ | ⟨g',cap',cur,hv,hb,hg,h1,h2,h3,h4⟩
 ·simp at hv
 ·simp only [Value.slice.injEq,Option.some.injEq,Addr.mk.injEq,and_true] at hv
  obtain ⟨rfl,rfl,rfl⟩:=hv
  refine .inr ⟨g,cap,cur.setIfInBounds i (.string x),by simp,hb,setB hg _,by simpa using h1,h2,by simpa using h3,fun j hj=>?_⟩
  rw [List.length_set] at hj
  by_cases e:i=j
  ·subst e
   simp [List.getD,hj,show i < cur.size by omega]
  ·rw [Array.getElem?_setIfInBounds_ne e,h4 j hj]
   simp [List.getD,e]
def dS:ByteArray:=ByteArray.empty
def StrsAt (w:World) (z:Nat) (v:Value) (ss:List ByteArray):Prop:=At w z v ss.length 1 (fun i b o=>w.cell? ⟨b,o,none⟩=some (.string (ss.getD i dS))∧(ss.getD i dS).size≤maxLen)
theorem StrsAt.since {w w':World} {z:Nat} {v:Value} {ss:List ByteArray} (h:StrsAt w z v ss) (k:Since z w w'):StrsAt w' z v ss :=
 At.mono h k.size (Nat.le_refl _) (fun _ _ _ _ hb hz he=>⟨(k.cell hz hb _).trans he.1,he.2⟩)
theorem StrsAt.kept {w w':World} {z:Nat} {v:Value} {ss:List ByteArray} (h:StrsAt w z v ss) (k:Below w.heap.size w w'):StrsAt w' z v ss:=h.since (.of_below k)
def lnTo (ss:List ByteArray) (k:Nat):Nat:=((ss.take k).map (fun x=>x.size)).sum
theorem lnTo_succ {ss:List ByteArray} {k:Nat} (h:k < ss.length):lnTo ss (k+1)=lnTo ss k+(ss.getD k dS).size:=by
 have e:ss.getD k dS=ss[k]:=by simp [List.getD,h]
 rw [e]
 exact sum_take_succ (fun x:ByteArray=>x.size) ss k h
def totS (ss:List ByteArray):Nat:=ss.length+lnTo ss ss.length
def joinTo (ss:List ByteArray):Nat→ByteArray
 | 0=>⟨#[]⟩
 | k+1=>if k=0 then ss.getD 0 dS else joinTo ss k ++ ⟨#[32]⟩ ++ ss.getD k dS
theorem joinTo_len (ss:List ByteArray):∀ k,k≤ss.length→(joinTo ss k).size=lnTo ss k+(k - 1)
 | 0,_=>by simp [joinTo,lnTo];rfl
 | k+1,h=>by
  have ih:=joinTo_len ss k (by omega)
  have hs:=lnTo_succ (ss:=ss) (k:=k) (by omega)
  rw [joinTo]
  split
  ·rename_i h0
   subst h0
   have:lnTo ss 0=0:=by simp [lnTo]
   omega
  ·rw [ByteArray.size_append,ByteArray.size_append]
   have:(ByteArray.mk #[32]).size=1:=rfl
   omega
def LlsAt (w:World) (z:Nat) (v:Value) (ls:List (List ByteArray)):Prop:=At w z v ls.length 1 (fun i b o=>∃ u,w.cell? ⟨b,o,none⟩=some u∧StrsAt w z u (ls.getD i []))
theorem StrsAt.base {w:World} {z z':Nat} {v:Value} {ss:List ByteArray} (h:StrsAt w z v ss) (hz:z'≤z):StrsAt w z' v ss:=At.mono h (Nat.le_refl _) hz (fun _ _ _ _ _ _ he=>he)
theorem LlsAt.since {w w':World} {z:Nat} {v:Value} {ls:List (List ByteArray)} (h:LlsAt w z v ls) (k:Since z w w'):LlsAt w' z v ls :=
 At.mono h k.size (Nat.le_refl _) (fun _ _ _ _ hb hz ⟨u,h1,h2⟩=>⟨u,(k.cell hz hb _).trans h1,h2.since k⟩)
theorem LlsAt.kept {w w':World} {z:Nat} {v:Value} {ls:List (List ByteArray)} (h:LlsAt w z v ls) (k:Below w.heap.size w w'):LlsAt w' z v ls:=h.since (.of_below k)
theorem LlsAt.base {w:World} {z z':Nat} {v:Value} {ls:List (List ByteArray)} (h:LlsAt w z v ls) (hz:z'≤z):LlsAt w z' v ls:=At.mono h (Nat.le_refl _) hz (fun _ _ _ _ _ _ ⟨u,h1,h2⟩=>⟨u,h1,h2.base hz⟩)
theorem LlsAt.get {w:World} {z:Nat} {v:Value} {ls:List (List ByteArray)} (h:LlsAt w z v ls) {i:Nat} (hi:i < ls.length):∃ b off cap u,v=.slice (some ⟨b,off,none⟩) ls.length cap∧ls.length≤cap∧cap≤maxLen∧b < w.heap.size∧w.cell? ⟨b,off+i,none⟩=some u∧StrsAt w z u (ls.getD i []):=by
 obtain ⟨b,off,cap,e,h1,h2,h3,u,h4,h5⟩:=At.get h hi
 rw [Nat.mul_one] at h4
 exact ⟨b,off,cap,u,e,h1,h2,h3,h4,h5⟩
def LlsOf (w:World) (z:Nat) (us:List Value) (ls:List (List ByteArray)):Prop:=us.length=ls.length∧∀ i,i < ls.length→StrsAt w z (us.getD i (.slice none 0 0)) (ls.getD i [])
theorem LlsOf.nil (w:World) (z:Nat):LlsOf w z [] []:=⟨rfl,fun i hi=>absurd hi (Nat.not_lt_zero i)⟩
theorem LlsOf.since {w w':World} {z:Nat} {us:List Value} {ls:List (List ByteArray)} (h:LlsOf w z us ls) (k:Since z w w'):LlsOf w' z us ls:=⟨h.1,fun i hi=>(h.2 i hi).since k⟩
theorem LlsOf.next {w:World} {z:Nat} {us:List Value} {ls:List (List ByteArray)} (h:LlsOf w z us ls) {u:Value} {l:List ByteArray} (hu:StrsAt w z u l):LlsOf w z (us ++ [u]) (ls ++ [l]):=by
 refine ⟨by rw [List.length_append,List.length_append,h.1];rfl,fun i hi=>?_⟩
 rw [List.length_append,List.length_singleton] at hi
 rcases Nat.lt_or_ge i ls.length with h1 | h1
 ·have e1:(us ++ [u]).getD i (.slice none 0 0)=us.getD i (.slice none 0 0):=by
   rw [List.getD_eq_getElem?_getD,List.getElem?_append_left (by rw [h.1];exact h1),← List.getD_eq_getElem?_getD]
  have e2:(ls ++ [l]).getD i []=ls.getD i []:=by
   rw [List.getD_eq_getElem?_getD,List.getElem?_append_left h1,← List.getD_eq_getElem?_getD]
  rw [e1,e2]
  exact h.2 i h1
 ·obtain rfl:i=ls.length:=by omega
  have e1:(us ++ [u]).getD ls.length (.slice none 0 0)=u:=by
   rw [List.getD_eq_getElem?_getD,List.getElem?_append_right (by rw [h.1];omega),h.1,Nat.sub_self];rfl
  have e2:(ls ++ [l]).getD ls.length []=l:=by
   rw [List.getD_eq_getElem?_getD,List.getElem?_append_right (Nat.le_refl _),Nat.sub_self];rfl
  rw [e1,e2]
  exact hu
theorem infoSs:(Tryz.prog.info? 54).map (fun i=>(i.zero,i.size,i.bytes))=some (some (Value.slice none 0 0),1,24):=by kernel_rfl
theorem strs_rowS {w:World} {B:Nat} {v:Value} {l:List ByteArray} (h:RowS w B v l) (hs:∀ x ∈ l,x.size≤maxLen):StrsAt w B v l:=by
 unfold StrsAt
 rcases h with ⟨rfl,rfl⟩ | ⟨g,cap,cur,hv,hb,hg,h1,h2,h3,h4⟩
 ·exact ⟨none,0,rfl,Nat.le_refl _,Nat.zero_le _,fun i hi=>absurd hi (Nat.not_lt_zero _)⟩
 ·refine ⟨some ⟨g,0,none⟩,cap,hv,h1,h2,fun i hi=>⟨g,0,rfl,(bL hg),hb,?_,?_⟩⟩
  ·rw [Nat.zero_add,Nat.mul_one,cellB hg,h4 i hi]
   rfl
  ·have:=hs l[i] (List.getElem_mem hi)
   simpa [List.getD,hi] using this
theorem RowS.grown {w w':World} {B base:Nat} {v U:Value} {l:List ByteArray} {m:Nat} {xs:List Value} (h:RowS w B v l) (hU:w.ownsRow base 54 1 U m xs) (k:w.grownBy w' U.ownBlock):RowS w' B v l:=by
 rcases h with h | ⟨g,cap,cur,hv,hb,hg,r⟩
 ·exact .inl h
 ·exact .inr ⟨g,cap,cur,hv,hb,blk_grown hg k (ne_of_own (row_ne_block hU hg (by decide))),r⟩
def RowSs (w:World) (B:Nat) (us:List Value) (ls:List (List ByteArray)):Prop:=us.length=ls.length∧∀ i,i < ls.length→RowS w B (us.getD i (.slice none 0 0)) (ls.getD i [])
theorem RowSs.nil (w:World) (B:Nat):RowSs w B [] []:=⟨rfl,fun i hi=>absurd hi (Nat.not_lt_zero i)⟩
theorem RowSs.kept {w w':World} {B:Nat} {us:List Value} {ls:List (List ByteArray)} (h:RowSs w B us ls) (k:Below w.heap.size w w'):RowSs w' B us ls:=⟨h.1,fun i hi=>(h.2 i hi).below k (Nat.le_refl _)⟩
theorem RowSs.grown {w w':World} {B base:Nat} {U:Value} {us:List Value} {ls:List (List ByteArray)} {m:Nat} {xs:List Value} (h:RowSs w B us ls) (hU:w.ownsRow base 54 1 U m xs) (k:w.grownBy w' U.ownBlock):RowSs w' B us ls:=⟨h.1,fun i hi=>(h.2 i hi).grown hU k⟩
theorem RowSs.next {w:World} {B:Nat} {us:List Value} {ls:List (List ByteArray)} (h:RowSs w B us ls) {u:Value} {l:List ByteArray} (hu:RowS w B u l):RowSs w B (us ++ [u]) (ls ++ [l]):=by
 refine ⟨by rw [List.length_append,List.length_append,h.1];rfl,fun i hi=>?_⟩
 rw [List.length_append,List.length_singleton] at hi
 rcases Nat.lt_or_ge i ls.length with h1 | h1
 ·have e1:(us ++ [u]).getD i (.slice none 0 0)=us.getD i (.slice none 0 0):=by
   rw [List.getD_eq_getElem?_getD,List.getElem?_append_left (by rw [h.1];exact h1),← List.getD_eq_getElem?_getD]
  have e2:(ls ++ [l]).getD i []=ls.getD i []:=by
   rw [List.getD_eq_getElem?_getD,List.getElem?_append_left h1,← List.getD_eq_getElem?_getD]
  rw [e1,e2]
  exact h.2 i h1
 ·obtain rfl:i=ls.length:=by omega
  have e1:(us ++ [u]).getD ls.length (.slice none 0 0)=u:=by
   rw [List.getD_eq_getElem?_getD,List.getElem?_append_right (by rw [h.1];omega),h.1,Nat.sub_self];rfl
  have e2:(ls ++ [l]).getD ls.length []=l:=by
   rw [List.getD_eq_getElem?_getD,List.getElem?_append_right (Nat.le_refl _),Nat.sub_self];rfl
  rw [e1,e2]
  exact hu
theorem RowSs.lls {w:World} {B base z:Nat} {v:Value} {us:List Value} {ls:List (List ByteArray)} (h:RowSs w B us ls) (hO:w.ownsRow base 54 1 v us.length us) (hz:z≤base) (hzB:z≤B) (hs:∀ l ∈ ls,∀ x ∈ l,x.size≤maxLen):LlsAt w z v ls:=by
 unfold LlsAt
 have hul:=h.1
 rcases hO.2 with ⟨hv,h0⟩ | ⟨g,cap,cur,hv,hb,hg,h1,h2,h3,h4⟩
 ·exact ⟨none,0,by rw [← hul,h0];exact hv,by omega,Nat.zero_le _,fun i hi=>by omega⟩
 ·refine ⟨some ⟨g,0,none⟩,cap,by rw [← hul];exact hv,by omega,h2,fun i hi=>⟨g,0,rfl,(bL hg),by omega,us.getD i (.slice none 0 0),?_,?_⟩⟩
  ·have:cur.toList[i]?=us[i]?:=by rw [← h4,List.getElem?_take_of_lt (by omega)]
   rw [Nat.zero_add,Nat.mul_one,cellB hg,← Array.getElem?_toList,this]
   simp [List.getD,show i < us.length by omega]
  ·have hl:ls.getD i []=ls[i]:=by simp [List.getD,hi]
   exact (strs_rowS (h.2 i hi) (by rw [hl];exact hs _ (List.getElem_mem hi))).base hzB
end Go.Proofs.YtggmjiddadjilaeGreat
