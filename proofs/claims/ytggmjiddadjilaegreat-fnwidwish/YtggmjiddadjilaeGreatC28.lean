/-
  PROVED HERE: what the program's ShrShare answers at every argument: the list 'shareL', in memory of its own; nothing that was in memory is turned. Also: 4 more texts of the same proof.
-/
import Derived.Test.YtggmjiddadjilaeGreatC23
import Derived.Test.YtggmjiddadjilaeGreatC27
import Derived.Test.YtggmjiddadjilaeGreatC24
import Derived.Test.YtggmjiddadjilaeGreatC2
import Derived.Test.YtggmjiddadjilaeGreatC12
import Derived.Test.YtggmjiddadjilaeGreatC22
import Derived.Deep.RegionWith
import Derived.Deep.QuietTactic
import Derived.BigQuiet
import Derived.Maps.AppendAt
namespace Go.Proofs.YtggmjiddadjilaeGreat
open Go.RowKit Go.Shelf Go.Lib Go.Sort
theorem swk_other {w0 W:World} {g:Nat} {d:Array Cl} (h:SWK encC 3 w0 g 0 d W) {j:Nat} (hj:j < w0.heap.size) (hne:j ≠ g):W.heap[j]?=w0.heap[j]?:=by
 obtain ⟨n,os,rfl⟩:=h
 unfold sortWorldK
 rw [heap_grow_old _ _ (by rw [size_putRowK];exact hj)]
 unfold putRowK putRow mapBlock
 show (Array.modify _ _ _)[j]?=_
 rw [Array.getElem?_modify]
 simp [Ne.symm hne]
theorem swk_below {w0 W:World} {g B:Nat} {d:Array Cl} (h:SWK encC 3 w0 g 0 d W) (hB:B≤g) (hg:g < w0.heap.size):Below B w0 W:=by
 have hs:=h.le
 have ho:=fun j (hj:j < B)=>swk_other h (j:=j) (by omega) (by omega)
 obtain ⟨n,os,rfl⟩:=h
 exact ⟨rfl,rfl,rfl,hs,ho⟩
theorem cl_cells {w:World} {g:Nat} {d:Array Cl} (h:HoldsK encC 3 w g 0 d) {i:Nat} (hi:i < d.size) :
  w.cell? ⟨g,i * 3,none⟩=some (.int .i64 d[i]!.p)∧w.cell? ⟨g,i * 3+1,none⟩=some (.int .i64 d[i]!.w)∧w.cell? ⟨g,i * 3+2,none⟩=some (.int .i64 d[i]!.o):=by
 have h0:=h.cell (i:=i) (c:=0) hi (by omega)
 have h1:=h.cell (i:=i) (c:=1) hi (by omega)
 have h2:=h.cell (i:=i) (c:=2) hi (by omega)
 simp only [Nat.zero_add,Nat.add_zero] at h0 h1 h2
 exact ⟨h0.1,h1.1,h2.1⟩
theorem rowK_kept {w w':World} {g:Nat} {d:Array Cl} (h:RowK encC 3 w g 0 d) (hb:w'.heap[g]?=w.heap[g]?):RowK encC 3 w' g 0 d:=by
 have hlt:g < w'.heap.size:=by
  have:=h.hblk
  rw [Array.getElem?_eq_getElem this] at hb
  exact (bL hb)
 refine ⟨h.hk,h.h1,fun j hj=>?_,hlt⟩
 have hh:=h.hH j hj
 rw [World.cell?_of_block (w:=w) (a:=⟨g,0+j,none⟩) hb,World.frozen?_of_block (w:=w) (a:=⟨g,0+j,none⟩) hb]
 exact hh
theorem newI_get {n i:Nat} (h:i < n):(newI n)[i]?=some (.int .i64 0):=by
 unfold newI
 rw [Nat.mul_one,← Array.getElem?_toList,show (Value.int .i64 0).cells=#[Value.int .i64 0] from rfl,toList_madeCells_one]
 simp [h]
theorem ext_getD {a b:List Int} (h:a.length=b.length) (hh:∀ i,i < a.length→a.getD i 0=b.getD i 0):a=b:=by
 apply List.ext_getElem h
 intro i h1 h2
 have:=hh i h1
 simpa [List.getD,h1,h2] using this
theorem row_new (w:World) (n:Nat) (hn:n≤1048576):RowI (w.alloc (.cells (newI n) 3)) w.heap.size (w.heap.size+1) (.slice (some ⟨w.heap.size,0,none⟩) n n) (List.replicate n 0) :=
 .inr ⟨w.heap.size,n,newI n,by simp,Nat.le_refl _,by omega,newestB _ _,by simp,by unfold maxLen;omega,newI_size n,fun i hi=>by
  rw [List.length_replicate] at hi
  rw [newI_get hi]
  simp [List.getD,hi]⟩
set_option maxRecDepth 100000 in
set_option maxHeartbeats 8000000 in
theorem shareOut_any (t:Int) (v:Value) (l:List Int) (hok:shrOkB t l=true) (w:World) (h:IntsAt w v l) :
  Calls Tryz.prog 79 #[.int .i64 t,v] w fun e w'=>∃ x,e=.returned x∧RowI w' w.heap.size w'.heap.size x (shareL t l)∧Below w.heap.size w w':=by
 obtain ⟨a,cap,rfl,_⟩:=h.form
 have H:=Hd h
 clear h
 by_cases hne:l.length=0
 ·obtain rfl:l=[]:=List.eq_nil_of_length_eq_zero hne
  have HE:=Hd (shareL_none (t:=t) (l:=[]) (by simp))
  go_enter Tryz.func79,Tryz.ntmps79
  go_wp2
  go_ret
  exact ⟨_,rfl,.inl ⟨rfl,HE.out⟩,Below.refl _ _⟩
 ·obtain ⟨ht,hl,hw⟩:=shrOk_parts hok
  have h0:0 < l.length:=by omega
  have hnil:l ≠ []:=List.length_pos_iff.1 h0
  have hlz:((l.length:Int) == 0)=false:=by simp;omega
  have HF:=Hd (shareL_some hok hnil)
  have hokU:=shrOk_wts hok
  have hpU:=wts_pos hw h0
  have hln:=wts_len l
  have HC:=Hd (fun W=>claimsOf_any t (.slice a l.length cap) l ht h0 hl hw W)
  have hmk:=makeI l.length (by omega)
  generalize wts l=u at HF hokU hpU hln HC
  have HL:=Hd hln
  have HBS:=Hd (fun k hk=>base_small hokU hpU (i:=k) hk)
  have HSU:=Hd (base_sum hokU hpU)
  have HLE:=Hd (left_eq hokU hpU)
  have HUB:Hid (∀ k,k≤u.length→0≤dueTo t u k∧dueTo t u k≤t):=fun k hk=>⟨(dueTo_wide k).1,Int.le_trans (dueTo_mono hk) (dueTo_bounds hokU hpU).1⟩
  clear hln hokU hpU hw hne hnil
  go_enter Tryz.func79,Tryz.ntmps79
  go_wp2_with fail
  refine (HC.out _ H.out).mono ?_
  rintro e w1 ⟨g,rfl,hg,hR1,hb1⟩
  have HR:=Hd hR1
  have HK1:=Hd hb1
  have hg1:g < w1.heap.size:=hR1.hblk
  have hw1:=hb1.size
  clear hR1 hb1
  go_wp2_with fail
  clear hmk
  have S0:Hid (RowI (w1.alloc (.cells (newI l.length) 3)) w1.heap.size (w1.heap.size+1) (.slice (some ⟨w1.heap.size,0,none⟩) l.length l.length) (List.replicate l.length 0)):=row_new w1 l.length (by omega)
  go_loopw [7,24] (fun s7 s30 W=>∃ (k:Nat) (gl:List Int),k≤l.length∧s30=.int .i64 k∧s7=.int .i64 (t - dueTo t u k)∧gl.length=l.length∧Hid (RowI W w1.heap.size (w1.heap.size+1) (.slice (some ⟨w1.heap.size,0,none⟩) l.length l.length) gl)∧Hid (∀ i,i < k→gl.getD i 0=(baseL t u).getD i 0)∧Hid (W.heap[g]?=w1.heap[g]?)∧Hid (Below w.heap.size w W)∧w1.heap.size < W.heap.size) (fun _ s30 _=>l.length - (intOf s30).toNat)
  case atStart=>exact ⟨0,List.replicate l.length 0,Nat.zero_le _,rfl,by simp [dueTo],by simp,S0,fun i hi=>absurd hi (Nat.not_lt_zero _),Below.heap_alloc _ _ _ hg1,k_alloc HK1.out _,by simp⟩
  case round =>
   clear S0
   obtain ⟨k,gl,hk,rfl,rfl,hgl,HG,HE,HB,HW,hsz⟩:=hrel
   by_cases hlt:k < l.length
   ·have hku:k < u.length:=by rw [HL.out];exact hlt
    have hds:k < (clL t u).toArray.size:=by simp [clL_len];exact hku
    obtain ⟨c0,c1,c2⟩:=cl_cells (rowK_kept HR.out HB.out).hH hds
    have hbk:=HBS.out k hku
    rw [baseL_get hku] at hbk
    have hsu:=HUB.out k (by omega)
    have hsv:=HUB.out (k+1) (by omega)
    have HBG:=Hd (baseL_get (t:=t) hku)
    have HDU:Hid (dueTo t u (k+1)=dueTo t u k+(baseL t u).getD k 0):=by
     have e1:=HSU.out k (by omega)
     have e2:=HSU.out (k+1) (by omega)
     rw [sumTo_succ (by rw [baseL_len];exact hku)] at e2
     show _=_
     omega
    rw [HDU.out,HBG.out] at hsv
    rw [clA_get hku] at c0 c1 c2
    simp only [cl] at c0 c1 c2
    generalize t * u.getD k 0 / u.sum=x at c1 HBG hbk hsv
    generalize t * u.getD k 0 % u.sum=y at c2
    obtain ⟨g',cap',e',hb1',hd1',hgs,hc1,hc2,hx,hf⟩:=HG.out.get (i:=k) (by omega)
    simp only [Value.slice.injEq,Option.some.injEq,Addr.mk.injEq,and_true] at e'
    obtain ⟨e1',e2',e3'⟩:=e'
    subst e1'
    clear e2' e3' hc1 hc2 hb1' hd1' hgs hds
    generalize gl.getD k 0=z at hx
    have hgw:g < wr.heap.size:=by omega
    go_wp2
    go_roundw
    case rel =>
     refine ⟨k+1,gl.set k x,by omega,by go_num,by rw [HDU.out,HBG.out];congr 1;omega,by simp [hgl],(HG.out.set (i:=k) (by omega) x).below (k_alloc (Below.refl _ _) _) (by rw [sizeSet];omega),fun i hi=>?_,(Below.heap_alloc _ _ _ (by rw [sizeSet];omega)).trans ((Below.heap_setCell _ _ _ _ (by simp;omega)).trans HB.out),k_alloc (k_set HW.out hw1 _) _,by simp;omega⟩
     by_cases e:i=k
     ·subst e
      rw [HBG.out]
      simp [List.getD,hgl,hlt]
     ·have:=HE.out i (by omega)
      rw [← this]
      simp [List.getD,List.getElem?_set_ne (Ne.symm e)]
    case measure=>simp [intOf];omega
   ·obtain rfl:k=l.length:=by omega
    have eg:gl=baseL t u:=ext_getD (by rw [hgl,baseL_len,HL.out]) (fun i hi=>HE.out i (by omega))
    obtain ⟨lf,hlf⟩:∃ lf,lf=leftN t u:=⟨_,rfl⟩
    have el:t - dueTo t u l.length=(lf:Int):=by rw [hlf,HLE.out.1,HL.out]
    have hlf1:lf < l.length:=by rw [hlf,← HL.out];exact HLE.out.2
    have hcs:(clL t u).toArray.size=l.length:=by simp [clL_len,HL.out]
    have HSo:Hid (Calls Tryz.prog 109 #[.slice (some ⟨g,0,none⟩) l.length l.length,.func (.func 110) #[] #[]] wr fun e w'=>e=.returned (.tuple #[])∧SWK encC 3 wr g 0 (srtL t u).toArray w'):=by
     have h1:=sortStable_any g 0 l.length (clL t u).toArray wr (rowK_kept HR.out HB.out) (asc_cl t u) (by rw [hcs];exact hl)
     have h2:=h1.mono (R':=fun e w'=>e=.returned (.tuple #[])∧SWK encC 3 wr g 0 (srtL t u).toArray w') (fun e w' ⟨he,d',hp,hs,hS⟩=>⟨he,by rw [← srt_of hp hs];exact hS⟩)
     rw [hcs] at h2
     exact h2
    have HLF:=Hd hlf
    rw [eg] at HG
    rw [el]
    clear eg HE hgl el hcs hlf
    go_wp2_with fail
    refine HSo.out.mono ?_
    rintro e w3 ⟨rfl,S3⟩
    have HG3:Hid (RowI w3 w1.heap.size (w1.heap.size+1) (.slice (some ⟨w1.heap.size,0,none⟩) l.length l.length) (bumps (baseL t u) (srtL t u) 0)):=by
     rw [bumps_zero]
     exact HG.out.kept (fun j h1 h2 h3=>swk_other S3 h1 (by omega))
    have HW3:=Hd (HW.out.trans ((swk_below S3 (Nat.le_refl _) (by omega)).mono hg))
    have HS3:=Hd (S3.holds (by omega) (rowK_kept HR.out HB.out).hH (by simp [clL_len,srtL_len]))
    have hz3:w1.heap.size < w3.heap.size:=Nat.lt_of_lt_of_le hsz S3.le
    clear S3 HSo HG HW HB hsz
    go_wp2_with fail
    have hg3:g < w3.heap.size:=by omega
    go_loopw [45] (fun s51 W=>∃ j:Nat,j≤lf∧s51=.int .i64 j∧Hid (RowI W w1.heap.size (w1.heap.size+1) (.slice (some ⟨w1.heap.size,0,none⟩) l.length l.length) (bumps (baseL t u) (srtL t u) j))∧Hid (W.heap[g]?=w3.heap[g]?)∧Hid (Below w.heap.size w W)∧w1.heap.size < W.heap.size) (fun s51 _=>lf - (intOf s51).toNat)
    case atStart=>exact ⟨0,Nat.zero_le _,rfl,HG3,rfl,HW3,hz3⟩
    case round =>
     clear HG3 HW3 hz3
     obtain ⟨k,hk,rfl,HG,HB,HW,hsz⟩:=hrel
     by_cases hlt:k < lf
     ·have hks:k < (srtL t u).length:=by rw [srtL_len,HL.out];omega
      have hka:k < (srtL t u).toArray.size:=by simpa using hks
      obtain ⟨c0,c1,c2⟩:=cl_cells (rowK_kept ⟨encC_len,encC_one,HS3.out,by omega⟩ HB.out).hH hka
      have hget:(srtL t u).toArray[k]! = (srtL t u)[k]:=by rw [getElem!_pos _ k hka];simp
      rw [hget] at c0 c1 c2
      obtain ⟨i,hi,hcl⟩:=srtL_mem (List.getElem_mem hks)
      have HN:=Hd (bumps_succ (g:=baseL t u) hks)
      rw [hcl] at c0 c1 c2 HN
      have hil:i < l.length:=by rw [← HL.out];exact hi
      have hbl:(bumps (baseL t u) (srtL t u) k).length=l.length:=by rw [bumps_len,baseL_len,HL.out]
      have hbb:=bumps_bound (B:=100000) (s:=srtL t u) (fun j hj=>HBS.out j (by rw [baseL_len] at hj;exact hj)) k (by omega) i (by rw [baseL_len];exact hi)
      obtain ⟨g',cap',e',hb1',hd1',hgs,hc1,hc2,hx,hf⟩:=HG.out.get (i:=i) (by omega)
      simp only [Value.slice.injEq,Option.some.injEq,Addr.mk.injEq,and_true] at e'
      obtain ⟨e1',e2',e3'⟩:=e'
      subst e1'
      simp only [cl] at c0 c1 c2
      have HN2:Hid (bumps (baseL t u) (srtL t u) (k+1)=(bumps (baseL t u) (srtL t u) k).set i ((bumps (baseL t u) (srtL t u) k).getD i 0+1)):=HN.out
      have HST:=Hd (HG.out.set (i:=i) (by omega) ((bumps (baseL t u) (srtL t u) k).getD i 0+1))
      rw [← HN2.out] at HST
      generalize (bumps (baseL t u) (srtL t u) k).getD i 0=z at hx hbb HST
      generalize t * u.getD i 0 / u.sum=x at c1
      generalize t * u.getD i 0 % u.sum=y at c2
      clear e2' e3' hc1 hc2 hb1' hd1' hgs HN HN2 hget hka hks hcl hbl
      have hgw:g < wr.heap.size:=by omega
      go_wp2
      go_roundw
      case rel =>
       refine ⟨k+1,by omega,by go_num,HST.out.below (k_alloc (Below.refl _ _) _) (by rw [sizeSet];omega),(Below.heap_alloc _ _ _ (by rw [sizeSet];omega)).trans ((Below.heap_setCell _ _ _ _ (by simp;omega)).trans HB.out),k_alloc (k_set HW.out hw1 _) _,by simp;omega⟩
      case measure=>simp [intOf];omega
     ·obtain rfl:k=lf:=by omega
      have HE:Hid (shareL t l=bumps (baseL t u) (srtL t u) k):=by rw [HLF.out];exact HF.out
      go_wp2
      go_ret
      exact ⟨_,rfl,by rw [HE.out];exact HG.out.base hw1 hsz,HW.out⟩
set_option maxRecDepth 100000 in
set_option maxHeartbeats 1000000 in
theorem implShrShare (t:Int) (v:Value) (l:List Int) (w:World) (h:IntsAt w v l) :
  Calls Tryz.prog 106 #[.int .i64 t,v] w fun e w'=>∃ x,e=.returned x∧RowI w' w.heap.size w'.heap.size x (shareL t l)∧Below w.heap.size w w':=by
 obtain ⟨a,cap,rfl,_⟩:=h.form
 have H:=Hd h
 clear h
 have HO:=Hd (fun W=>implShrOk t (.slice a l.length cap) l W)
 by_cases hok:shrOkB t l=true
 ·have HS:=Hd (fun W=>shareOut_any t (.slice a l.length cap) l hok W)
  go_enter Tryz.func106,Tryz.ntmps106
  go_wp2_with fail
  refine (HO.out _ H.out).mono ?_
  rintro e w1 ⟨rfl,e1⟩
  cases e1
  rw [hok]
  go_wp2_with fail
  refine (HS.out _ H.out).mono ?_
  rintro e w2 ⟨x,rfl,hr,hb⟩
  have R:=Hd (And.intro hr hb)
  clear hr hb
  go_wp2
  go_ret
  exact ⟨x,rfl,R.out.1,R.out.2⟩
 ·have hok':=eq_false_of_ne_true hok
  have HE:=Hd (shareL_none (t:=t) (l:=l) (by simp [hok']))
  go_enter Tryz.func106,Tryz.ntmps106
  go_wp2_with fail
  refine (HO.out _ H.out).mono ?_
  rintro e w1 ⟨rfl,e1⟩
  cases e1
  rw [hok']
  go_wp2
  go_ret
  exact ⟨_,rfl,.inl ⟨rfl,HE.out⟩,Below.refl _ _⟩
end Go.Proofs.YtggmjiddadjilaeGreat
namespace Go.Proofs.YtggmjiddadjilaeGreat
open Go.RowKit
theorem RowI.sub {w:World} {B D g n cap:Nat} {l:List Int} (h:RowI w B D (.slice (some ⟨g,0,none⟩) n cap) l) {c m:Nat} (hc:c+m≤l.length) (hm:1≤m):IntsAt w (.slice (some ⟨g,c,none⟩) m (cap - c)) (subL l c m):=by
 have hlen:=subL_len hc
 rcases h with ⟨hv,_⟩ | ⟨g',cap',cur,hv,hb,hd,hg,h1,h2,h3,h4⟩
 ·simp at hv
 ·simp only [Value.slice.injEq,Option.some.injEq,Addr.mk.injEq,and_true] at hv
  obtain ⟨rfl,rfl,rfl⟩:=hv
  refine ⟨_,cap - c,by rw [hlen],by rw [hlen];omega,by omega,fun i hi=>⟨g,c,rfl,(bL hg),?_⟩⟩
  rw [hlen] at hi
  rw [subL_get hc hi]
  exact (cellB hg).trans (h4 (c+i) (by omega))
theorem RowI.bk {w w':World} {B D g:Nat} {v:Value} {l:List Int} (h:RowI w B D v l) (k:Bk g w w') (hg:g < B∨D≤g):RowI w' B D v l:=h.kept (fun j h0 h1 h2=>k.block j h0 (by omega))
theorem acr_small {l:List Int} {c m:Nat} {gap:Int} (hb:UpB l 50000) (hc:c+m≤l.length) (hm:1≤m∧m≤4) (hg:0≤gap∧gap≤3):acrV (subL l c m) gap=(subL l c m).sum+gap * ((m:Int) - 1)∧0≤acrV (subL l c m) gap∧acrV (subL l c m) gap≤300000:=by
 have hs:=sum_upB (fun x (hx:x ∈ subL l c m)=>hb.mem (subL_mem hx))
 rw [subL_len hc] at hs
 have hgm:0≤gap * ((m:Int) - 1):=Int.mul_nonneg hg.1 (by omega)
 have hgm2:gap * ((m:Int) - 1)≤9:=Int.le_trans (Int.mul_le_mul hg.2 (show (m:Int) - 1≤3 by omega) (by omega) (by omega)) (by omega)
 have e:acrV (subL l c m) gap=(subL l c m).sum+gap * ((m:Int) - 1):=by
  rw [acrV_cons (by rw [subL_len hc];omega),subL_len hc,W_small (by omega)]
 rw [e]
 omega
set_option maxRecDepth 100000 in
set_option maxHeartbeats 2000000 in
theorem widen_any (B D g n cap:Nat) (l:List Int) (hb:UpB l 50000) (c m:Nat) (hc:c+m≤l.length) (hm:1≤m∧m≤4) (gap need:Int) (hg:0≤gap∧gap≤3) (hn:0≤need∧need≤30) (w:World) (h:RowI w B D (.slice (some ⟨g,0,none⟩) n cap) l) (hgw:g < w.heap.size) :
  Calls Tryz.prog 73 #[.slice (some ⟨g,c,none⟩) m (cap - c),.int .i64 gap,.int .i64 need] w fun e w'=>e=.returned (.tuple #[])∧RowI w' B D (.slice (some ⟨g,0,none⟩) n cap) (wideL l c m gap need)∧Bk g w w':=by
 have hI:=h.sub hc hm.1
 obtain ⟨ha,ha0,ha1⟩:=acr_small hb hc hm hg
 have KA:=Hd (implacrossAll _ _ gap w hI)
 have HLk:Hid (lackV l c m gap need=need - acrV (subL l c m) gap):=by rw [Hid,ha];rfl
 have HH:=Hd h
 clear h
 by_cases hl:lackV l c m gap need≤0
 ·have HV:Hid (wideL l c m gap need=l):=by rw [Hid,wideL,if_pos hl]
  rw [HLk.out] at hl
  clear hI ha HLk
  generalize acrV (subL l c m) gap=y at KA hl ha0 ha1
  have hcap:m≤cap - c∧cap - c≤9223372036854775807:=by
   rcases HH.out with ⟨hv,_⟩ | ⟨g',cap',cur,hv,_,_,_,h1,h2,_,_⟩
   ·simp at hv
   ·simp only [Value.slice.injEq,Option.some.injEq,Addr.mk.injEq,and_true] at hv
    obtain ⟨rfl,rfl,rfl⟩:=hv
    unfold maxLen at h2
    omega
  go_enter Tryz.func73,Tryz.ntmps73
  go_wp2_with fail
  refine KA.out.mono ?_
  rintro e w1 ⟨rfl,rfl⟩
  go_wp2
  exact bodyPost_ret (v:=.tuple #[]) (by simp [results,Tryz.results73,go_sem]) rfl ⟨rfl,by rw [HV.out];exact HH.out,Bk.refl _ _⟩
 ·obtain ⟨hok,h30⟩:=lack_ok hb hc hm hg hn.2 (by omega)
  have HV:Hid (wideL l c m gap need=addTo l c (shareL (lackV l c m gap need) (subL l c m)) m):=by rw [Hid,wideL,if_neg hl]
  have hcap:n=l.length∧m≤cap - c∧cap - c≤9223372036854775807∧B≤g∧g < D:=by
   rcases HH.out with ⟨hv,_⟩ | ⟨g',cap',cur,hv,h5,h6,_,h1,h2,_,_⟩
   ·simp at hv
   ·simp only [Value.slice.injEq,Option.some.injEq,Addr.mk.injEq,and_true] at hv
    obtain ⟨rfl,rfl,rfl⟩:=hv
    unfold maxLen at h2
    omega
  obtain ⟨rfl,hcp1,hcp2,hBg,hgD⟩:=hcap
  have hsl:=shareL_len hok
  rw [subL_len hc] at hsl
  have HSB:=Hd (fun k hk=>shareL_small (t:=lackV l c m gap need) (l:=subL l c m) k hk)
  have KS:=Hd (implShrShare (lackV l c m gap need) _ _ w hI)
  rw [HLk.out] at hl h30 KS HV hsl HSB
  clear hI ha HLk hok
  generalize acrV (subL l c m) gap=y at KA hl ha0 ha1 h30 KS HV hsl HSB
  generalize shareL (need - y) (subL l c m)=sh at KS HV hsl HSB
  go_enter Tryz.func73,Tryz.ntmps73
  go_wp2_with fail
  refine KA.out.mono ?_
  rintro e w1 ⟨rfl,e1⟩
  cases e1
  go_wp2_with fail
  refine KS.out.mono ?_
  rintro e w2 ⟨v2,rfl,hr2,hb2⟩
  obtain ⟨a2,c2,rfl⟩:=hr2.form
  rw [hsl] at hr2 ⊢
  have HS2:=Hd hr2
  have HR2:=Hd (HH.out.kept (fun j h0 _ _=>hb2.block j h0))
  have HK2:=Hd (Bk.of_below (r:=g) hb2)
  have hz2:=hb2.size
  clear hr2 hb2 KA KS HH
  go_wp2_with fail
  go_loopw [20] (fun s W=>∃ k:Nat,s=.int .i64 k∧k≤m∧Hid (RowI W B D (.slice (some ⟨g,0,none⟩) l.length cap) (addTo l c sh k))∧Hid (RowI W w.heap.size w2.heap.size (.slice a2 m c2) sh)∧Hid (Bk g w W)) (fun s _=>m - (intOf s).toNat)
  case atStart=>exact ⟨0,rfl,Nat.zero_le _,HR2,HS2,HK2⟩
  case round =>
   obtain ⟨k,rfl,hk,HR,HS,HK⟩:=hrel
   by_cases hlt:k < m
   ·obtain ⟨g',cap',e',hb1',hd1',hgs,hc1,hc2,hx,hf⟩:=HS.out.get (i:=k) (by omega)
    simp only [Value.slice.injEq,hsl,true_and] at e'
    obtain ⟨rfl,rfl⟩:=e'
    obtain ⟨g3,cap3,e3,hb3,hd3,hgs3,hc3,hc4,hy,hfy⟩:=HR.out.get (i:=c+k) (by rw [addTo_len];omega)
    simp only [Value.slice.injEq,Option.some.injEq,Addr.mk.injEq,and_true] at e3
    obtain ⟨rfl,_,rfl⟩:=e3
    have hyv:=addTo_out l c sh (i:=c+k) k (fun j hj=>by omega)
    rw [hyv] at hy
    have hbx:=hb (c+k) (by omega)
    have hbs:=HSB.out k (by omega)
    have HN:=Hd (HR.out.set (i:=c+k) (by rw [addTo_len];omega) (l.getD (c+k) 0+sh.getD k 0))
    have HN2:Hid (addTo l c sh (k+1)=(addTo l c sh k).set (c+k) (l.getD (c+k) 0+sh.getD k 0)):=rfl
    rw [← HN2.out] at HN
    generalize l.getD (c+k) 0=z at hy hbx HN
    generalize sh.getD k 0=q at hx hbs HN
    unfold maxLen at hc2 hc4
    clear hyv HN2
    go_wp2
    go_roundw
    case rel=>exact ⟨k+1,by go_num,by omega,HN.out,HS.out.kept (fun j h0 h1 h2=>Below.heap_setCell _ _ _ _ (by show j ≠ g;omega)),HK.out.set (.inl rfl) _⟩
    case measure=>simp [intOf];omega
   ·obtain rfl:k=m:=by omega
    go_wp2
    go_end0
    exact ⟨rfl,by rw [HV.out];exact HR.out,HK.out⟩
theorem specTxtWish (s:ByteArray) (hs:s.size≤maxLen) (w:World):Calls Tryz.prog 103 #[.string s] w fun e w'=>e=.returned (.int .i64 (wishOf s))∧w'=w:=by
 unfold wishOf
 have hm:=hs
 unfold maxLen at hm
 cases hok:txtOkB s
 all_goals
  go_enter Tryz.func103,Tryz.ntmps103
  go_wp2_with (go_at_call 70;refine (specTxtOk _ _ hs).mono ?_;rintro e w' ⟨rfl,rfl⟩;rw [hok])
  go_ret
  exact ⟨rfl,rfl⟩
set_option maxRecDepth 100000 in
set_option maxHeartbeats 1000000 in
theorem specl1Sum_any (v:Value) (l:List Int) (hl:l.length≤1000) (hw:l.all wtB=true) (w:World) (h:IntsAt w v l) :
  Calls Tryz.prog 33 #[v] w fun e w'=>e=.returned (.int .i64 l.sum)∧w'=w:=by
 obtain ⟨a,cap,rfl,_⟩:=h.form
 have H:=Hd h
 have HW:=Hd (sumTo_bound hw)
 have HG:=Hd (fun i hi=>wt_get (i:=i) hw hi)
 clear h hw
 go_enter Tryz.func33,Tryz.ntmps33
 go_wp2_with fail
 go_loop [3,4] (fun s i=>∃ k:Nat,k≤l.length∧i=.int .i64 k∧s=.int .i64 (sumTo l k)) (fun _ i=>l.length - (intOf i).toNat)
 case atStart=>exact ⟨0,Nat.zero_le _,rfl,by simp [sumTo]⟩
 case round =>
  obtain ⟨k,hk,rfl,rfl⟩:=hrel
  by_cases hlt:k < l.length
  ·obtain ⟨b,off,cap',e',hc1,hc2,hbl,hx⟩:=H.out.get hlt
   simp only [Value.slice.injEq,true_and] at e'
   obtain ⟨rfl,rfl⟩:=e'
   have hb1:=HW.out k hk
   have hb2:=HG.out k hlt
   have HS:=Hd (sumTo_succ hlt)
   generalize l.getD k 0=x at hx HS hb2
   generalize sumTo l k=s at HS hb1
   unfold maxLen at hc2
   go_wp2
   go_round
   case rel=>exact ⟨k+1,by omega,by go_num,by rw [HS.out]⟩
   case measure=>simp [intOf];omega
  ·obtain rfl:k=l.length:=by omega
   have HE:=Hd (sumTo_all l)
   go_wp2
   go_ret
   exact ⟨by rw [← HE.out];rfl,rfl⟩
def BoolsAt (w:World) (gb:Nat) (bl:List Bool):Prop:=∃ bs,w.heap[gb]?=some (.cells bs 4)∧bs.size=bl.length∧∀ i,i < bl.length→bs[i]?=some (.bool (bl.getD i false))
theorem BoolsAt.get {w:World} {gb:Nat} {bl:List Bool} (h:BoolsAt w gb bl) {i:Nat} (hi:i < bl.length):w.cell? ⟨gb,i,none⟩=some (.bool (bl.getD i false))∧w.frozen? ⟨gb,i,none⟩=false:=by
 obtain ⟨bs,h1,h2,h3⟩:=h
 exact ⟨(cellB h1).trans (h3 i hi),freeB h1⟩
theorem BoolsAt.kept {w w':World} {gb:Nat} {bl:List Bool} (h:BoolsAt w gb bl) (hb:w'.heap[gb]?=w.heap[gb]?):BoolsAt w' gb bl:=by
 obtain ⟨bs,h1,h2⟩:=h
 exact ⟨bs,hb.trans h1,h2⟩
theorem BoolsAt.set {w:World} {gb:Nat} {bl:List Bool} (h:BoolsAt w gb bl) (i:Nat) (hi:i < bl.length) (x:Bool):BoolsAt (w.setCell ⟨gb,i,none⟩ (.bool x)) gb (bl.set i x):=by
 obtain ⟨bs,h1,h2,h3⟩:=h
 refine ⟨_,setB h1 _,by simpa using h2,fun j hj=>?_⟩
 rw [List.length_set] at hj
 by_cases e:i=j
 ·subst e
  simp [List.getD,hj,show i < bs.size by omega]
 ·rw [Array.getElem?_setIfInBounds_ne e,h3 j hj]
  simp [List.getD,e]
set_option maxRecDepth 100000 in
set_option maxHeartbeats 2000000 in
theorem l4Next_any (v:Value) (lr:List Int) (gb cap:Nat) (bl:List Bool) (hl:bl.length=lr.length) (w:World) (h:IntsAt w v lr) (hb:BoolsAt w gb bl) :
  Calls Tryz.prog 112 #[v,.slice (some ⟨gb,0,none⟩) lr.length cap] w fun e w'=>∃ k:Int,e=.returned (.int .i64 k)∧NextP lr bl lr.length k∧∃ q,w'=w.drewN q:=by
 obtain ⟨a,ca,rfl,_⟩:=h.form
 have H:=Hd h
 have HBo:=Hd hb
 have HL:=Hd hl
 clear h hb hl
 go_enter Tryz.func112,Tryz.ntmps112
 go_wp2_with fail
 go_loopw [5,6] (fun s5 s6 W=>∃ (m nd:Nat) (k:Int),m≤lr.length∧s6=.int .i64 m∧s5=.int .i64 k∧Hid (NextP lr bl m k)∧W=w.drewN nd) (fun _ s6 _=>lr.length - (intOf s6).toNat)
 case atStart=>exact ⟨0,0,-1,Nat.zero_le _,rfl,rfl,NextP.zero lr bl,rfl⟩
 case round =>
  obtain ⟨m,nd,k,hm,rfl,rfl,HN,rfl⟩:=hrel
  by_cases hlt:m < lr.length
  ·obtain ⟨cb,fb⟩:=HBo.out.get (i:=m) (by rw [HL.out];exact hlt)
   obtain ⟨b,off,cap',e',hc1,hc2,hbl,hx⟩:=H.out.get hlt
   simp only [Value.slice.injEq,true_and] at e'
   obtain ⟨rfl,rfl⟩:=e'
   unfold maxLen at hc2
   cases hbm:bl.getD m false with
   | true =>
    rw [hbm] at cb
    have HN2:=Hd (HN.out.got hbm)
    clear hbm
    go_wp2_with fail
    go_quiet (fail)
    go_wp2
    go_roundw
    case rel=>exact ⟨m+1,nd+nq,k,by omega,by go_num,rfl,HN2,rfl⟩
    case measure=>simp [intOf];omega
   | false =>
    rw [hbm] at cb
    rcases HN.out with ⟨hk,h2⟩ | ⟨j,hk,h2,h3,h4⟩
    ·have HN2:=Hd (NextP.first (lr:=lr) h2 hbm)
     subst hk
     clear hbm h2
     go_wp2_with fail
     go_quiet (fail)
     go_wp2
     go_roundw
     case rel=>exact ⟨m+1,nd+nq,m,by omega,by go_num,rfl,HN2,rfl⟩
     case measure=>simp [intOf];omega
    ·obtain ⟨b2,off2,cap2,e2,_,_,_,hy⟩:=H.out.get (i:=j) (by omega)
     simp only [Value.slice.injEq,Option.some.injEq,Addr.mk.injEq,and_true,true_and] at e2
     obtain ⟨⟨q1,q2⟩,q3⟩:=e2
     subst q1
     subst q2
     subst hk
     have hj0:(0:Int)≤(j:Int):=by omega
     have hj1:(j:Int) < (lr.length:Int):=by omega
     have hj2:¬ (j:Int) < 0:=by omega
     have hj3:decide ((j:Int) < 0)=false:=decide_eq_false hj2
     by_cases hgt:lr.getD j 0 < lr.getD m 0
     ·have HN2:=Hd (NextP.more h4 hbm hgt)
      generalize lr.getD j 0=y at hy hgt
      generalize lr.getD m 0=x at hx hgt
      clear hbm h4 h3 q3
      go_wp2_with fail
      go_quiet (fail)
      go_wp2
      go_roundw
      case rel=>exact ⟨m+1,nd+nq,m,by omega,by go_num,rfl,HN2,rfl⟩
      case measure=>simp [intOf];omega
     ·have HN2:=Hd (NextP.less h2 h3 h4 hgt)
      generalize lr.getD j 0=y at hy hgt
      generalize lr.getD m 0=x at hx hgt
      clear hbm h4 h3 q3
      go_wp2_with fail
      go_quiet (fail)
      go_wp2
      go_roundw
      case rel=>exact ⟨m+1,nd+nq,j,by omega,by go_num,rfl,HN2,rfl⟩
      case measure=>simp [intOf];omega
  ·obtain rfl:m=lr.length:=by omega
   go_wp2
   go_ret
   exact ⟨k,rfl,HN.out,nd,rfl⟩
structure Q4 (w W:World) (v5 v8 v9:Value) (gb:Nat) (u lo lr:List Int) (bl:List Bool):Prop where
 o5:W.ownsRow w.heap.size 3 1 v5 u.length (u.map (Value.int .i64))
 o8:W.ownsRow w.heap.size 3 1 v8 lo.length (lo.map (Value.int .i64))
 o9:W.ownsRow w.heap.size 3 1 v9 lr.length (lr.map (Value.int .i64))
 bo:BoolsAt W gb bl
 hb:w.heap.size≤gb
 n58:v5.ownBlock ≠ v8.ownBlock
 n59:v5.ownBlock ≠ v9.ownBlock
 n89:v8.ownBlock ≠ v9.ownBlock
 nb5:v5.ownBlock ≠ some gb
 nb8:v8.ownBlock ≠ some gb
 nb9:v9.ownBlock ≠ some gb
 below:Below w.heap.size w W
theorem BoolsAt.lt {w:World} {gb:Nat} {bl:List Bool} (h:BoolsAt w gb bl):gb < w.heap.size:=by
 obtain ⟨bs,h1,_⟩:=h
 exact (bL h1)
theorem Q4.alloc {w W:World} {v5 v8 v9:Value} {gb:Nat} {u lo lr:List Int} {bl:List Bool} (h:Q4 w W v5 v8 v9 gb u lo lr bl) (o:Obj):Q4 w (W.alloc o) v5 v8 v9 gb u lo lr bl :=
 { h with o5:=h.o5.alloc o,o8:=h.o8.alloc o,o9:=h.o9.alloc o,bo:=h.bo.kept (Below.heap_alloc _ _ _ h.bo.lt),below:=h.below.alloc h.below.size o }
theorem Q4.drewN {w W:World} {v5 v8 v9:Value} {gb:Nat} {u lo lr:List Int} {bl:List Bool} (h:Q4 w W v5 v8 v9 gb u lo lr bl) (n:Nat):Q4 w (W.drewN n) v5 v8 v9 gb u lo lr bl :=
 { h with o5:=h.o5,o8:=h.o8,o9:=h.o9,bo:=h.bo.kept rfl,below:=k_drewN h.below n }
theorem own_some {w:World} {v:Value} {B n:Nat} {e:TypeId} {xs:List Value} (h:w.ownsRow B e 1 v n xs) (k:Nat) (hk:w.heap.size≤k):v.ownBlock ≠ some k:=fun e=>by have:=(h.lt k e).2;omega
theorem Q4.app8 {w W W':World} {v5 v8 v9 v':Value} {gb:Nat} {u lo lr:List Int} {bl:List Bool} (h:Q4 w W v5 v8 v9 gb u lo lr bl) {x:Int}
  (ho:W'.ownsRow w.heap.size 3 1 v' (lo.length+1) (lo.map (Value.int .i64) ++ [.int .i64 x])) (hg:W.grownBy W' v8.ownBlock) (hat:v'.ownBlock=v8.ownBlock∨v'.ownBlock=some W.heap.size):Q4 w W' v5 v' v9 gb u (lo ++ [x]) lr bl where
 o5:=h.o5.kept hg (.inr h.n58)
 o8:=by rw [List.length_append,List.map_append];exact ho
 o9:=h.o9.kept hg (.inr (Ne.symm h.n89))
 bo:=h.bo.kept (hg.block gb h.bo.lt (Ne.symm h.nb8))
 hb:=h.hb
 n58:=by rcases hat with e | e <;> rw [e];exact h.n58;exact own_some h.o5 _ (Nat.le_refl _)
 n59:=h.n59
 n89:=by rcases hat with e | e <;> rw [e];exact h.n89;exact (own_some h.o9 _ (Nat.le_refl _)).symm
 nb5:=h.nb5
 nb8:=by rcases hat with e | e <;> rw [e];exact h.nb8;exact fun e=>by have:=h.bo.lt;simp at e;omega
 nb9:=h.nb9
 below:=h.below.grown hg h.below.size (fun b hb=>(h.o8.lt b hb).1)
theorem Q4.app9 {w W W':World} {v5 v8 v9 v':Value} {gb:Nat} {u lo lr:List Int} {bl:List Bool} (h:Q4 w W v5 v8 v9 gb u lo lr bl) {x:Int}
  (ho:W'.ownsRow w.heap.size 3 1 v' (lr.length+1) (lr.map (Value.int .i64) ++ [.int .i64 x])) (hg:W.grownBy W' v9.ownBlock) (hat:v'.ownBlock=v9.ownBlock∨v'.ownBlock=some W.heap.size):Q4 w W' v5 v8 v' gb u lo (lr ++ [x]) bl where
 o5:=h.o5.kept hg (.inr h.n59)
 o8:=h.o8.kept hg (.inr h.n89)
 o9:=by rw [List.length_append,List.map_append];exact ho
 bo:=h.bo.kept (hg.block gb h.bo.lt (Ne.symm h.nb9))
 hb:=h.hb
 n58:=h.n58
 n59:=by rcases hat with e | e <;> rw [e];exact h.n59;exact own_some h.o5 _ (Nat.le_refl _)
 n89:=by rcases hat with e | e <;> rw [e];exact h.n89;exact own_some h.o8 _ (Nat.le_refl _)
 nb5:=h.nb5
 nb8:=h.nb8
 nb9:=by rcases hat with e | e <;> rw [e];exact h.nb9;exact fun e=>by have:=h.bo.lt;simp at e;omega
 below:=h.below.grown hg h.below.size (fun b hb=>(h.o9.lt b hb).1)
theorem grow_set (W:World) (p:Addr) (v:Value):W.grownBy (W.setCell p v) (some p.block) :=
 ⟨rfl,rfl,rfl,by simp [World.setCell],fun k _ hne=>Below.heap_setCell _ _ _ _ (fun e=>hne (by rw [e]))⟩
theorem Q4.set8 {w W:World} {v5 v9:Value} {g8 n c gb:Nat} {u lo lr:List Int} {bl:List Bool} (h:Q4 w W v5 (.slice (some ⟨g8,0,none⟩) n c) v9 gb u lo lr bl) (i:Nat) (hi:i < lo.length) (x:Int) :
  Q4 w (W.setCell ⟨g8,i,none⟩ (.int .i64 x)) v5 (.slice (some ⟨g8,0,none⟩) n c) v9 gb u (lo.set i x) lr bl where
 o5:=h.o5.kept (grow_set W ⟨g8,i,none⟩ (.int .i64 x)) (.inr h.n58)
 o8:=((RowI.of_owns h.o8).set hi x).owns
 o9:=h.o9.kept (grow_set W ⟨g8,i,none⟩ (.int .i64 x)) (.inr (Ne.symm h.n89))
 bo:=h.bo.kept ((grow_set W ⟨g8,i,none⟩ (.int .i64 x)).block gb h.bo.lt (Ne.symm h.nb8))
 hb:=h.hb
 n58:=h.n58
 n59:=h.n59
 n89:=h.n89
 nb5:=h.nb5
 nb8:=h.nb8
 nb9:=h.nb9
 below:=h.below.setCell (h.o8.lt g8 rfl).1 _
theorem Q4.setb {w W:World} {v5 v8 v9:Value} {gb:Nat} {u lo lr:List Int} {bl:List Bool} (h:Q4 w W v5 v8 v9 gb u lo lr bl) (i:Nat) (hi:i < bl.length) (x:Bool) :
  Q4 w (W.setCell ⟨gb,i,none⟩ (.bool x)) v5 v8 v9 gb u lo lr (bl.set i x) where
 o5:=h.o5.kept (grow_set W ⟨gb,i,none⟩ (.bool x)) (.inr h.nb5)
 o8:=h.o8.kept (grow_set W ⟨gb,i,none⟩ (.bool x)) (.inr h.nb8)
 o9:=h.o9.kept (grow_set W ⟨gb,i,none⟩ (.bool x)) (.inr h.nb9)
 bo:=h.bo.set i hi x
 hb:=h.hb
 n58:=h.n58
 n59:=h.n59
 n89:=h.n89
 nb5:=h.nb5
 nb8:=h.nb8
 nb9:=h.nb9
 below:=h.below.setCell h.hb _
def newBo (n:Nat):Array Value:=madeCells (Value.bool false).cells (n * 1)
theorem infoBo:(Tryz.prog.info? 4).map (fun i=>(i.zero,i.size,i.bytes))=some (some (Value.bool false),1,1):=by kernel_rfl
theorem makeBo (n:Nat) (hn:n≤1048576) (u:World):(Instr.makeSlice 144 (.int .i64 (n:Int)) (.int .i64 (n:Int))).run Tryz.prog u=.ok (.slice (some ⟨u.heap.size,0,none⟩) n n) (u.alloc (.cells (newBo n) 4)):=by
 obtain ⟨i0,hi,hz0,hz1,hz2⟩:=info_parts infoBo
 have h:=run_make (P:=Tryz.prog) u 144 4 i0 _ Tryz.underlying144 hi hz0 .i64 .i64 (n:Int) (n:Int) (by omega) (Int.le_refl _) (by rw [hz2];omega) (by omega)
 rw [hz1,Int.toNat_natCast] at h
 exact h
theorem bools_new (w:World) (n:Nat):BoolsAt (w.alloc (.cells (newBo n) 4)) w.heap.size (List.replicate n false):=by
 refine ⟨newBo n,newestB _ _,by rw [newBo,size_madeCells];simp,fun i hi=>?_⟩
 rw [List.length_replicate] at hi
 unfold newBo
 rw [Nat.mul_one,← Array.getElem?_toList,show (Value.bool false).cells=#[Value.bool false] from rfl,toList_madeCells_one]
 simp [List.getD,hi]
theorem Q4.start {w W:World} {g5 n c5:Nat} {u:List Int} (h5:W.ownsRow w.heap.size 3 1 (.slice (some ⟨g5,0,none⟩) n c5) u.length (u.map (Value.int .i64))) (hb:Below w.heap.size w W) (m:Nat) :
  Q4 w (((W.alloc (.cells #[] 3)).alloc (.cells #[] 3)).alloc (.cells (newBo m) 4)) (.slice (some ⟨g5,0,none⟩) n c5) (.slice (some ⟨W.heap.size,0,none⟩) 0 0) (.slice (some ⟨W.heap.size+1,0,none⟩) 0 0) (W.heap.size+2) u [] [] (List.replicate m false) where
 o5:=((h5.alloc _).alloc _).alloc _
 o8:=((World.ownsRow_made (base:=w.heap.size) (e:=3) (size:=1) W #[] 0 hb.size (Nat.zero_le _) rfl).alloc _).alloc _
 o9:=by
  have:=World.ownsRow_made (base:=w.heap.size) (e:=3) (size:=1) (W.alloc (.cells #[] 3)) #[] 0 (by have:=hb.size;simp;omega) (Nat.zero_le _) rfl
  have e:(W.alloc (.cells #[] 3)).heap.size=W.heap.size+1:=by simp
  rw [e] at this
  exact this.alloc _
 bo:=by
  have:=bools_new ((W.alloc (.cells #[] 3)).alloc (.cells #[] 3)) m
  have e:((W.alloc (.cells #[] 3)).alloc (.cells #[] 3)).heap.size=W.heap.size+2:=by simp
  rw [e] at this
  exact this
 hb:=by have:=hb.size;omega
 n58:=own_some h5 _ (Nat.le_refl _)
 n59:=own_some h5 (W.heap.size+1) (by omega)
 n89:=fun e=>by simp [Value.ownBlock] at e
 nb5:=own_some h5 (W.heap.size+2) (by omega)
 nb8:=fun e=>by simp [Value.ownBlock] at e
 nb9:=fun e=>by simp [Value.ownBlock] at e
 below:=k_alloc (k_alloc (k_alloc hb _) _) _
end Go.Proofs.YtggmjiddadjilaeGreat
