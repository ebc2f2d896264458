/-
  PROVED HERE: what the program's ShrShare answers at every argument: the list 'shareL', in memory of its own; nothing that was in memory is turned. Also: small facts for an append of a list of numbers. Also: what the program's shareUpTo answers at every argument that may be, in memory of its own; nothing that was in memory is turned. Also: the program's widen makes the columns of one cell wide enough: the list 'wideL'; nothing else that was in memory is turned. Also: what the program's TxtWish answers. Also: the program's mayBeWide: a table that is ok, and a width that may be; nothing that was in memory is turned. Also: a region that draws its order, whose first operations only read (their callees turn nothing that was in memory), and whose next one waits for all of them: the first ones may be walked once, in the text's order; what follows is walked in every order. Also: what the model's TxtWish answers. Also: what the model's sum answers of lists of numbers in memory; nothing that was in memory is turned.
-/
import Derived.Test.YtcbibdhlkdcmiafGreatB25
import Derived.Test.YtcbibdhlkdcmiafGreatB29
import Derived.Test.YtcbibdhlkdcmiafGreatB24
import Derived.Test.YtcbibdhlkdcmiafGreatB12
import Derived.Test.YtcbibdhlkdcmiafGreatB26
import Derived.Test.YtcbibdhlkdcmiafGreatB22
import Derived.Test.YtcbibdhlkdcmiafGreatB13
import Derived.Test.YtcbibdhlkdcmiafGreatB27
import Derived.Test.YtcbibdhlkdcmiafGreatB2
import Derived.Deep.RegionWith
import Derived.Deep.QuietTactic
import Derived.BigQuiet
namespace Go.Proofs.YtcbibdhlkdcmiafGreat
open Go.RowKit Go.Shelf Go.Lib Go.Sort

theorem swk_other {w0 W:World} {g:Nat} {d:Array Cl} (h:SWK encC 3 w0 g 0 d W) {j:Nat} (hj:j < w0.heap.size) (hne:j ≠ g):W.heap[j]?=w0.heap[j]?:=by
 obtain ⟨n,os,rfl⟩:=h
 unfold sortWorldK
 rw [heap_grow_old _ _ (by rw [size_putRowK];exact hj)]
 unfold putRowK putRow mapBlock
 show (Array.modify _ _ _)[j]?=_
 rw [Array.getElem?_modify]
 simp [Ne.symm hne]
theorem swk_below {w0 W:World} {g B:Nat} {d:Array Cl} (h:SWK encC 3 w0 g 0 d W) (hB:B≤g) (hg:g < w0.heap.size):Below B w0 W:=by
 have hs:=h.le
 have ho:=fun j (hj:j < B)=>swk_other h (j:=j) (by omega) (by omega)
 obtain ⟨n,os,rfl⟩:=h
 exact ⟨rfl,rfl,rfl,hs,ho⟩
theorem cl_cells {w:World} {g:Nat} {d:Array Cl} (h:HoldsK encC 3 w g 0 d) {i:Nat} (hi:i < d.size) :
  w.cell? ⟨g,i * 3,none⟩=some (.int .i64 d[i]!.p)∧w.cell? ⟨g,i * 3+1,none⟩=some (.int .i64 d[i]!.w)∧w.cell? ⟨g,i * 3+2,none⟩=some (.int .i64 d[i]!.o):=by
 have h0:=h.cell (i:=i) (c:=0) hi (by omega)
 have h1:=h.cell (i:=i) (c:=1) hi (by omega)
 have h2:=h.cell (i:=i) (c:=2) hi (by omega)
 simp only [Nat.zero_add,Nat.add_zero] at h0 h1 h2
 exact ⟨h0.1,h1.1,h2.1⟩
theorem rowK_kept {w w':World} {g:Nat} {d:Array Cl} (h:RowK encC 3 w g 0 d) (hb:w'.heap[g]?=w.heap[g]?):RowK encC 3 w' g 0 d:=by
 have hlt:g < w'.heap.size:=by
  have:=h.hblk
  rw [Array.getElem?_eq_getElem this] at hb
  exact (Array.getElem?_eq_some_iff.1 hb).1
 refine ⟨h.hk,h.h1,fun j hj=>?_,hlt⟩
 have hh:=h.hH j hj
 rw [World.cell?_of_block (w:=w) (a:=⟨g,0+j,none⟩) hb,World.frozen?_of_block (w:=w) (a:=⟨g,0+j,none⟩) hb]
 exact hh
theorem newI_get {n i:Nat} (h:i < n):(newI n)[i]?=some (.int .i64 0):=by
 unfold newI
 rw [Nat.mul_one,← Array.getElem?_toList,show (Value.int .i64 0).cells=#[Value.int .i64 0] from rfl,toList_madeCells_one]
 simp [h]
theorem ext_getD {a b:List Int} (h:a.length=b.length) (hh:∀ i,i < a.length→a.getD i 0=b.getD i 0):a=b:=by
 apply List.ext_getElem h
 intro i h1 h2
 have:=hh i h1
 simpa [List.getD,h1,h2] using this
theorem row_new (w:World) (n:Nat) (hn:n≤1048576):RowI (w.alloc (.cells (newI n) 3)) w.heap.size (w.heap.size+1) (.slice (some ⟨w.heap.size,0,none⟩) n n) (List.replicate n 0) :=
 .inr ⟨w.heap.size,n,newI n,by simp,Nat.le_refl _,by omega,newestB _ _,by simp,by unfold maxLen;omega,newI_size n,fun i hi=>by
  rw [List.length_replicate] at hi
  rw [newI_get hi]
  simp [List.getD,hi]⟩

set_option maxRecDepth 100000 in
set_option maxHeartbeats 8000000 in
theorem shareOut_any (t:Int) (v:Value) (l:List Int) (hok:shrOkB t l=true) (w:World) (h:IntsAt w v l) :
  Calls Tryz.prog 76 #[.int .i64 t,v] w fun e w'=>∃ x,e=.returned x∧RowI w' w.heap.size w'.heap.size x (shareL t l)∧Below w.heap.size w w':=by
 obtain ⟨a,cap,rfl,_⟩:=h.form
 have H:=Hid.intro h
 clear h
 by_cases hne:l.length=0
 ·obtain rfl:l=[]:=List.eq_nil_of_length_eq_zero hne
  have HE:=Hid.intro (shareL_none (t:=t) (l:=[]) (by simp))
  go_enter Tryz.func76,Tryz.ntmps76
  go_wp2
  go_ret
  exact ⟨_,rfl,.inl ⟨rfl,HE.out⟩,Below.refl _ _⟩
 ·obtain ⟨ht,hl,hw⟩:=shrOk_parts hok
  have h0:0 < l.length:=by omega
  have hnil:l ≠ []:=List.length_pos_iff.1 h0
  have hlz:((l.length:Int) == 0)=false:=by simp;omega
  have HF:=Hid.intro (shareL_some hok hnil)
  have hokU:=shrOk_wts hok
  have hpU:=wts_pos hw h0
  have hln:=wts_len l
  have HC:=Hid.intro (fun W=>claimsOf_any t (.slice a l.length cap) l ht h0 hl hw W)
  have hmk:=makeI l.length (by omega)
  generalize wts l=u at HF hokU hpU hln HC
  have HL:=Hid.intro hln
  have HBS:=Hid.intro (fun k hk=>base_small hokU hpU (i:=k) hk)
  have HSU:=Hid.intro (base_sum hokU hpU)
  have HLE:=Hid.intro (left_eq hokU hpU)
  have HUB:Hid (∀ k,k≤u.length→0≤dueTo t u k∧dueTo t u k≤t):=fun k hk=>⟨(dueTo_wide k).1,Int.le_trans (dueTo_mono hk) (dueTo_bounds hokU hpU).1⟩
  clear hln hokU hpU hw hne hnil
  go_enter Tryz.func76,Tryz.ntmps76
  go_wp2_with fail
  refine (HC.out _ H.out).mono ?_
  rintro e w1 ⟨g,rfl,hg,hR1,hb1⟩
  have HR:=Hid.intro hR1
  have HK1:=Hid.intro hb1
  have hg1:g < w1.heap.size:=hR1.hblk
  have hw1:=hb1.size
  clear hR1 hb1
  go_wp2_with fail
  clear hmk
  have S0:Hid (RowI (w1.alloc (.cells (newI l.length) 3)) w1.heap.size (w1.heap.size+1) (.slice (some ⟨w1.heap.size,0,none⟩) l.length l.length) (List.replicate l.length 0)):=row_new w1 l.length (by omega)
  go_loopw [7,24] (fun s7 s30 W=>∃ (k:Nat) (gl:List Int),k≤l.length∧s30=.int .i64 k∧s7=.int .i64 (t - dueTo t u k)∧gl.length=l.length∧Hid (RowI W w1.heap.size (w1.heap.size+1) (.slice (some ⟨w1.heap.size,0,none⟩) l.length l.length) gl)∧Hid (∀ i,i < k→gl.getD i 0=(baseL t u).getD i 0)∧Hid (W.heap[g]?=w1.heap[g]?)∧Hid (Below w.heap.size w W)∧w1.heap.size < W.heap.size) (fun _ s30 _=>l.length - (intOf s30).toNat)
  case atStart=>exact ⟨0,List.replicate l.length 0,Nat.zero_le _,rfl,by simp [dueTo],by simp,S0,fun i hi=>absurd hi (Nat.not_lt_zero _),Below.heap_alloc _ _ _ hg1,k_alloc HK1.out _,by simp⟩
  case round =>
   clear S0
   obtain ⟨k,gl,hk,rfl,rfl,hgl,HG,HE,HB,HW,hsz⟩:=hrel
   by_cases hlt:k < l.length
   ·have hku:k < u.length:=by rw [HL.out];exact hlt
    have hds:k < (clL t u).toArray.size:=by simp [clL_len];exact hku
    obtain ⟨c0,c1,c2⟩:=cl_cells (rowK_kept HR.out HB.out).hH hds
    have hbk:=HBS.out k hku
    rw [baseL_get hku] at hbk
    have hsu:=HUB.out k (by omega)
    have hsv:=HUB.out (k+1) (by omega)
    have HBG:=Hid.intro (baseL_get (t:=t) hku)
    have HDU:Hid (dueTo t u (k+1)=dueTo t u k+(baseL t u).getD k 0):=by
     have e1:=HSU.out k (by omega)
     have e2:=HSU.out (k+1) (by omega)
     rw [sumTo_succ (by rw [baseL_len];exact hku)] at e2
     show _=_
     omega
    rw [HDU.out,HBG.out] at hsv
    rw [clA_get hku] at c0 c1 c2
    simp only [cl] at c0 c1 c2
    generalize t * u.getD k 0 / u.sum=x at c1 HBG hbk hsv
    generalize t * u.getD k 0 % u.sum=y at c2
    obtain ⟨g',cap',e',hb1',hd1',hgs,hc1,hc2,hx,hf⟩:=HG.out.get (i:=k) (by omega)
    simp only [Value.slice.injEq,Option.some.injEq,Addr.mk.injEq,and_true] at e'
    obtain ⟨e1',e2',e3'⟩:=e'
    subst e1'
    clear e2' e3' hc1 hc2 hb1' hd1' hgs hds
    generalize gl.getD k 0=z at hx
    have hgw:g < wr.heap.size:=by omega
    go_wp2
    go_roundw
    case rel =>
     refine ⟨k+1,gl.set k x,by omega,by go_num,by rw [HDU.out,HBG.out];congr 1;omega,by simp [hgl],(HG.out.set (i:=k) (by omega) x).below (k_alloc (Below.refl _ _) _) (by rw [sizeSet];omega),fun i hi=>?_,(Below.heap_alloc _ _ _ (by rw [sizeSet];omega)).trans ((Below.heap_setCell _ _ _ _ (by simp;omega)).trans HB.out),k_alloc (k_set HW.out hw1 _) _,by simp;omega⟩
     by_cases e:i=k
     ·subst e
      rw [HBG.out]
      simp [List.getD,hgl,hlt]
     ·have:=HE.out i (by omega)
      rw [← this]
      simp [List.getD,List.getElem?_set_ne (Ne.symm e)]
    case measure=>simp [intOf];omega
   ·obtain rfl:k=l.length:=by omega
    have eg:gl=baseL t u:=ext_getD (by rw [hgl,baseL_len,HL.out]) (fun i hi=>HE.out i (by omega))
    obtain ⟨lf,hlf⟩:∃ lf,lf=leftN t u:=⟨_,rfl⟩
    have el:t - dueTo t u l.length=(lf:Int):=by rw [hlf,HLE.out.1,HL.out]
    have hlf1:lf < l.length:=by rw [hlf,← HL.out];exact HLE.out.2
    have hcs:(clL t u).toArray.size=l.length:=by simp [clL_len,HL.out]
    have HSo:Hid (Calls Tryz.prog 108 #[.slice (some ⟨g,0,none⟩) l.length l.length,.func (.func 109) #[] #[]] wr fun e w'=>e=.returned (.tuple #[])∧SWK encC 3 wr g 0 (srtL t u).toArray w'):=by
     have h1:=sortStable_any g 0 l.length (clL t u).toArray wr (rowK_kept HR.out HB.out) (asc_cl t u) (by rw [hcs];exact hl)
     have h2:=h1.mono (R':=fun e w'=>e=.returned (.tuple #[])∧SWK encC 3 wr g 0 (srtL t u).toArray w') (fun e w' ⟨he,d',hp,hs,hS⟩=>⟨he,by rw [← srt_of hp hs];exact hS⟩)
     rw [hcs] at h2
     exact h2
    have HLF:=Hid.intro hlf
    rw [eg] at HG
    rw [el]
    clear eg HE hgl el hcs hlf
    go_wp2_with fail
    refine HSo.out.mono ?_
    rintro e w3 ⟨rfl,S3⟩
    have HG3:Hid (RowI w3 w1.heap.size (w1.heap.size+1) (.slice (some ⟨w1.heap.size,0,none⟩) l.length l.length) (bumps (baseL t u) (srtL t u) 0)):=by
     rw [bumps_zero]
     exact HG.out.kept (fun j h1 h2 h3=>swk_other S3 h1 (by omega))
    have HW3:=Hid.intro (HW.out.trans ((swk_below S3 (Nat.le_refl _) (by omega)).mono hg))
    have HS3:=Hid.intro (S3.holds (by omega) (rowK_kept HR.out HB.out).hH (by simp [clL_len,srtL_len]))
    have hz3:w1.heap.size < w3.heap.size:=Nat.lt_of_lt_of_le hsz S3.le
    clear S3 HSo HG HW HB hsz
    go_wp2_with fail
    have hg3:g < w3.heap.size:=by omega
    go_loopw [45] (fun s51 W=>∃ j:Nat,j≤lf∧s51=.int .i64 j∧Hid (RowI W w1.heap.size (w1.heap.size+1) (.slice (some ⟨w1.heap.size,0,none⟩) l.length l.length) (bumps (baseL t u) (srtL t u) j))∧Hid (W.heap[g]?=w3.heap[g]?)∧Hid (Below w.heap.size w W)∧w1.heap.size < W.heap.size) (fun s51 _=>lf - (intOf s51).toNat)
    case atStart=>exact ⟨0,Nat.zero_le _,rfl,HG3,rfl,HW3,hz3⟩
    case round =>
     clear HG3 HW3 hz3
     obtain ⟨k,hk,rfl,HG,HB,HW,hsz⟩:=hrel
     by_cases hlt:k < lf
     ·have hks:k < (srtL t u).length:=by rw [srtL_len,HL.out];omega
      have hka:k < (srtL t u).toArray.size:=by simpa using hks
      obtain ⟨c0,c1,c2⟩:=cl_cells (rowK_kept ⟨encC_len,encC_one,HS3.out,by omega⟩ HB.out).hH hka
      have hget:(srtL t u).toArray[k]! = (srtL t u)[k]:=by rw [getElem!_pos _ k hka];simp
      rw [hget] at c0 c1 c2
      obtain ⟨i,hi,hcl⟩:=srtL_mem (List.getElem_mem hks)
      have HN:=Hid.intro (bumps_succ (g:=baseL t u) hks)
      rw [hcl] at c0 c1 c2 HN
      have hil:i < l.length:=by rw [← HL.out];exact hi
      have hbl:(bumps (baseL t u) (srtL t u) k).length=l.length:=by rw [bumps_len,baseL_len,HL.out]
      have hbb:=bumps_bound (B:=100000) (s:=srtL t u) (fun j hj=>HBS.out j (by rw [baseL_len] at hj;exact hj)) k (by omega) i (by rw [baseL_len];exact hi)
      obtain ⟨g',cap',e',hb1',hd1',hgs,hc1,hc2,hx,hf⟩:=HG.out.get (i:=i) (by omega)
      simp only [Value.slice.injEq,Option.some.injEq,Addr.mk.injEq,and_true] at e'
      obtain ⟨e1',e2',e3'⟩:=e'
      subst e1'
      simp only [cl] at c0 c1 c2
      have HN2:Hid (bumps (baseL t u) (srtL t u) (k+1)=(bumps (baseL t u) (srtL t u) k).set i ((bumps (baseL t u) (srtL t u) k).getD i 0+1)):=HN.out
      have HST:=Hid.intro (HG.out.set (i:=i) (by omega) ((bumps (baseL t u) (srtL t u) k).getD i 0+1))
      rw [← HN2.out] at HST
      generalize (bumps (baseL t u) (srtL t u) k).getD i 0=z at hx hbb HST
      generalize t * u.getD i 0 / u.sum=x at c1
      generalize t * u.getD i 0 % u.sum=y at c2
      clear e2' e3' hc1 hc2 hb1' hd1' hgs HN HN2 hget hka hks hcl hbl
      have hgw:g < wr.heap.size:=by omega
      go_wp2
      go_roundw
      case rel =>
       refine ⟨k+1,by omega,by go_num,HST.out.below (k_alloc (Below.refl _ _) _) (by rw [sizeSet];omega),(Below.heap_alloc _ _ _ (by rw [sizeSet];omega)).trans ((Below.heap_setCell _ _ _ _ (by simp;omega)).trans HB.out),k_alloc (k_set HW.out hw1 _) _,by simp;omega⟩
      case measure=>simp [intOf];omega
     ·obtain rfl:k=lf:=by omega
      have HE:Hid (shareL t l=bumps (baseL t u) (srtL t u) k):=by rw [HLF.out];exact HF.out
      go_wp2
      go_ret
      exact ⟨_,rfl,by rw [HE.out];exact HG.out.base hw1 hsz,HW.out⟩

set_option maxRecDepth 100000 in
set_option maxHeartbeats 1000000 in
theorem implShrShare (t:Int) (v:Value) (l:List Int) (w:World) (h:IntsAt w v l) :
  Calls Tryz.prog 116 #[.int .i64 t,v] w fun e w'=>∃ x,e=.returned x∧RowI w' w.heap.size w'.heap.size x (shareL t l)∧Below w.heap.size w w':=by
 obtain ⟨a,cap,rfl,_⟩:=h.form
 have H:=Hid.intro h
 clear h
 have HO:=Hid.intro (fun W=>implShrOk t (.slice a l.length cap) l W)
 by_cases hok:shrOkB t l=true
 ·have HS:=Hid.intro (fun W=>shareOut_any t (.slice a l.length cap) l hok W)
  go_enter Tryz.func116,Tryz.ntmps116
  go_wp2_with fail
  refine (HO.out _ H.out).mono ?_
  rintro e w1 ⟨rfl,e1⟩
  cases e1
  rw [hok]
  go_wp2_with fail
  refine (HS.out _ H.out).mono ?_
  rintro e w2 ⟨x,rfl,hr,hb⟩
  have R:=Hid.intro (And.intro hr hb)
  clear hr hb
  go_wp2
  go_ret
  exact ⟨x,rfl,R.out.1,R.out.2⟩
 ·have hok':=eq_false_of_ne_true hok
  have HE:=Hid.intro (shareL_none (t:=t) (l:=l) (by simp [hok']))
  go_enter Tryz.func116,Tryz.ntmps116
  go_wp2_with fail
  refine (HO.out _ H.out).mono ?_
  rintro e w1 ⟨rfl,e1⟩
  cases e1
  rw [hok']
  go_wp2
  go_ret
  exact ⟨_,rfl,.inl ⟨rfl,HE.out⟩,Below.refl _ _⟩
end Go.Proofs.YtcbibdhlkdcmiafGreat
namespace Go.Proofs.YtcbibdhlkdcmiafGreat
open Go.RowKit

theorem map_cells {w:World} {b off n cap:Nat} {l:List Int} (H:IntsAt w (.slice (some ⟨b,off,none⟩) n cap) l) {w':World} (K:Below w.heap.size w w'):∀ j x,(l.map (Value.int .i64))[j]?=some x→w'.cell? ((⟨b,off,none⟩:Addr).add j)=some x:=by
 intro j x hx
 rw [List.getElem?_map] at hx
 obtain ⟨y,hy,rfl⟩:=Option.map_eq_some_iff.1 hx
 have hj:=(List.getElem?_eq_some_iff.1 hy).1
 rw [Go.WideShapes.add_plain]
 obtain ⟨bq,oq,cq,eq1,_,_,hbw,hcq⟩:=H.get hj
 simp only [Value.slice.injEq,Option.some.injEq,Addr.mk.injEq,and_true] at eq1
 obtain ⟨⟨rfl,rfl⟩,_⟩:=eq1
 rw [K.cell (p:=⟨b,off+j,none⟩) hbw,hcq]
 simp [List.getD,hy]
theorem map_one (l:List Int):∀ x ∈ l.map (Value.int .i64),x.oneCell'=true:=fun x hx=>by obtain ⟨y,_,rfl⟩:=List.mem_map.1 hx;rfl
end Go.Proofs.YtcbibdhlkdcmiafGreat
namespace Go.Proofs.YtcbibdhlkdcmiafGreat
open Go.RowKit

theorem infoU4:(Tryz.prog.info? 3).map (fun i=>(i.zero,i.size,i.bytes))=some (some (Value.int .i64 0),1,8):=by kernel_rfl
set_option maxRecDepth 100000 in
set_option maxHeartbeats 4000000 in
theorem shareUpTo_any (t:Int) (v:Value) (l:List Int) (hok:shrOkB t l=true) (w:World) (h:IntsAt w v l) :
  Calls Tryz.prog 73 #[.int .i64 t,v] w fun e w'=>∃ x,e=.returned (.tuple #[x,.int .i64 (upToN t l)])∧RowI w' w.heap.size w'.heap.size x (upToL t l)∧Below w.heap.size w w':=by
 obtain ⟨i0,hi0,hz0,hz1,hz2⟩:=info_parts infoU4
 obtain ⟨a,cap,rfl,_⟩:=h.form
 have H:=Hid.intro h
 obtain ⟨ht,hl,hw⟩:=shrOk_parts hok
 have hsb:=sum_bound hw
 have HS:=Hid.intro (fun W=>implsumOf_any (.slice a l.length cap) l (by omega) hw W)
 by_cases hs:l.sum≤t
 ·obtain ⟨e1,e2⟩:=upTo_all hok hs
  have E1:=Hid.intro e1
  have E2:=Hid.intro e2
  clear e1 e2 hw
  by_cases h0:0 < l.length
  ·obtain ⟨b,off,cap',e',_,_,hbw,_⟩:=h.get h0
   simp only [Value.slice.injEq,true_and] at e'
   obtain ⟨rfl,rfl⟩:=e'
   clear h
   go_enter Tryz.func73,Tryz.ntmps73
   go_wp2_with fail
   refine (HS.out _ H.out).mono ?_
   rintro e w1 ⟨rfl,ex⟩
   cases ex
   generalize l.sum=s at hs E2 hsb
   go_wp2_with (at_builtin;refine wpList_append_own_at _ rfl _ _ 29 rfl w.heap.size 3 i0 (.int .i64 0) 1 8 Tryz.underlying29 hi0 hz0 hz1 hz2 rfl (by decide) _ 0 [] rfl (World.ownsRow_nil w w.heap.size 3 1) ⟨b,off,none⟩ l.length cap (l.map (Value.int .i64)) rfl ?e1 (map_cells H.out (Below.refl _ _)) (map_one l) ?e4 ?e5 ?e6 ?_)
   case e1=>simp
   case e4=>unfold maxLen;omega
   case e5=>omega
   case e6=>exact Nat.le_refl _
   intro v5 w5 ho5 hg5 _ _
   have R5:=Hid.intro (RowI.of_owns (l:=l) (by simpa using ho5))
   have K5:Hid (Below w.heap.size w w5):=(Below.refl w.heap.size w).grown hg5 (Nat.le_refl _) (fun q hq=>by simp [Value.ownBlock] at hq)
   obtain ⟨a5,c5,rfl⟩:=R5.out.form
   clear ho5 hg5
   go_wp2
   go_ret2
   exact ⟨_,retT E2.out.symm,by rw [E1.out];exact R5.out,K5.out⟩
  ·obtain rfl:l=[]:=List.eq_nil_of_length_eq_zero (by omega)
   clear h
   cases a with
   | none =>
    go_enter Tryz.func73,Tryz.ntmps73
    go_wp2_with fail
    refine (HS.out _ H.out).mono ?_
    rintro e w1 ⟨rfl,ex⟩
    cases ex
    generalize ([]:List Int).sum=s at hs E2 hsb
    go_wp2
    go_ret2
    exact ⟨_,retT E2.out.symm,by rw [E1.out];exact .inl ⟨rfl,rfl⟩,Below.refl _ _⟩
   | some p =>
    go_enter Tryz.func73,Tryz.ntmps73
    go_wp2_with fail
    refine (HS.out _ H.out).mono ?_
    rintro e w1 ⟨rfl,ex⟩
    cases ex
    generalize ([]:List Int).sum=s at hs E2 hsb
    go_wp2
    go_ret2
    exact ⟨_,retT E2.out.symm,by rw [E1.out];exact .inl ⟨rfl,rfl⟩,Below.refl _ _⟩
 ·obtain ⟨e1,e2⟩:=upTo_share hok hs
  have E1:=Hid.intro e1
  have E2:=Hid.intro e2
  have HSh:=Hid.intro (fun W=>shareOut_any t (.slice a l.length cap) l hok W)
  clear e1 e2 hw h
  go_enter Tryz.func73,Tryz.ntmps73
  go_wp2_with fail
  refine (HS.out _ H.out).mono ?_
  rintro e w1 ⟨rfl,ex⟩
  cases ex
  generalize l.sum=s at hs hsb
  go_wp2_with fail
  refine (HSh.out _ H.out).mono ?_
  rintro e w2 ⟨x,rfl,hr,hb⟩
  have R:=Hid.intro (And.intro hr hb)
  clear hr hb
  go_wp2
  go_ret2
  exact ⟨x,retT E2.out.symm,by rw [E1.out];exact R.out.1,R.out.2⟩
end Go.Proofs.YtcbibdhlkdcmiafGreat
namespace Go.Proofs.YtcbibdhlkdcmiafGreat
open Go.RowKit

theorem RowI.sub {w:World} {B D g n cap:Nat} {l:List Int} (h:RowI w B D (.slice (some ⟨g,0,none⟩) n cap) l) {c m:Nat} (hc:c+m≤l.length) (hm:1≤m):IntsAt w (.slice (some ⟨g,c,none⟩) m (cap - c)) (subL l c m):=by
 have hlen:=subL_len hc
 rcases h with ⟨hv,_⟩ | ⟨g',cap',cur,hv,hb,hd,hg,h1,h2,h3,h4⟩
 ·simp at hv
 ·simp only [Value.slice.injEq,Option.some.injEq,Addr.mk.injEq,and_true] at hv
  obtain ⟨rfl,rfl,rfl⟩:=hv
  refine ⟨_,cap - c,by rw [hlen],by rw [hlen];omega,by omega,fun i hi=>⟨g,c,rfl,(Array.getElem?_eq_some_iff.1 hg).1,?_⟩⟩
  rw [hlen] at hi
  rw [subL_get hc hi]
  exact (cellB hg).trans (h4 (c+i) (by omega))
theorem RowI.bk {w w':World} {B D g:Nat} {v:Value} {l:List Int} (h:RowI w B D v l) (k:Bk g w w') (hg:g < B∨D≤g):RowI w' B D v l:=h.kept (fun j h0 h1 h2=>k.block j h0 (by omega))
theorem acr_small {l:List Int} {c m:Nat} {gap:Int} (hb:UpB l 50000) (hc:c+m≤l.length) (hm:1≤m∧m≤4) (hg:0≤gap∧gap≤3):acrV (subL l c m) gap=(subL l c m).sum+gap * ((m:Int) - 1)∧0≤acrV (subL l c m) gap∧acrV (subL l c m) gap≤300000:=by
 have hs:=sum_upB (fun x (hx:x ∈ subL l c m)=>hb.mem (subL_mem hx))
 rw [subL_len hc] at hs
 have hgm:0≤gap * ((m:Int) - 1):=Int.mul_nonneg hg.1 (by omega)
 have hgm2:gap * ((m:Int) - 1)≤9:=Int.le_trans (Int.mul_le_mul hg.2 (show (m:Int) - 1≤3 by omega) (by omega) (by omega)) (by omega)
 have e:acrV (subL l c m) gap=(subL l c m).sum+gap * ((m:Int) - 1):=by
  rw [acrV_cons (by rw [subL_len hc];omega),subL_len hc,W_small (by omega)]
 rw [e]
 omega

set_option maxRecDepth 100000 in
set_option maxHeartbeats 2000000 in
theorem widen_any (B D g n cap:Nat) (l:List Int) (hb:UpB l 50000) (c m:Nat) (hc:c+m≤l.length) (hm:1≤m∧m≤4) (gap need:Int) (hg:0≤gap∧gap≤3) (hn:0≤need∧need≤30) (w:World) (h:RowI w B D (.slice (some ⟨g,0,none⟩) n cap) l) (hgw:g < w.heap.size) :
  Calls Tryz.prog 90 #[.slice (some ⟨g,c,none⟩) m (cap - c),.int .i64 gap,.int .i64 need] w fun e w'=>e=.returned (.tuple #[])∧RowI w' B D (.slice (some ⟨g,0,none⟩) n cap) (wideL l c m gap need)∧Bk g w w':=by
 have hI:=h.sub hc hm.1
 obtain ⟨ha,ha0,ha1⟩:=acr_small hb hc hm hg
 have KA:=Hid.intro (implacrossAll _ _ gap w hI)
 have HLk:Hid (lackV l c m gap need=need - acrV (subL l c m) gap):=by rw [Hid,ha];rfl
 have HH:=Hid.intro h
 clear h
 by_cases hl:lackV l c m gap need≤0
 ·have HV:Hid (wideL l c m gap need=l):=by rw [Hid,wideL,if_pos hl]
  rw [HLk.out] at hl
  clear hI ha HLk
  generalize acrV (subL l c m) gap=y at KA hl ha0 ha1
  have hcap:m≤cap - c∧cap - c≤9223372036854775807:=by
   rcases HH.out with ⟨hv,_⟩ | ⟨g',cap',cur,hv,_,_,_,h1,h2,_,_⟩
   ·simp at hv
   ·simp only [Value.slice.injEq,Option.some.injEq,Addr.mk.injEq,and_true] at hv
    obtain ⟨rfl,rfl,rfl⟩:=hv
    unfold maxLen at h2
    omega
  go_enter Tryz.func90,Tryz.ntmps90
  go_wp2_with fail
  refine KA.out.mono ?_
  rintro e w1 ⟨rfl,rfl⟩
  go_wp2
  exact bodyPost_ret (v:=.tuple #[]) (by simp [results,Tryz.results90,go_sem]) rfl ⟨rfl,by rw [HV.out];exact HH.out,Bk.refl _ _⟩
 ·obtain ⟨hok,h30⟩:=lack_ok hb hc hm hg hn.2 (by omega)
  have HV:Hid (wideL l c m gap need=addTo l c (shareL (lackV l c m gap need) (subL l c m)) m):=by rw [Hid,wideL,if_neg hl]
  have hcap:n=l.length∧m≤cap - c∧cap - c≤9223372036854775807∧B≤g∧g < D:=by
   rcases HH.out with ⟨hv,_⟩ | ⟨g',cap',cur,hv,h5,h6,_,h1,h2,_,_⟩
   ·simp at hv
   ·simp only [Value.slice.injEq,Option.some.injEq,Addr.mk.injEq,and_true] at hv
    obtain ⟨rfl,rfl,rfl⟩:=hv
    unfold maxLen at h2
    omega
  obtain ⟨rfl,hcp1,hcp2,hBg,hgD⟩:=hcap
  have hsl:=shareL_len hok
  rw [subL_len hc] at hsl
  have HSB:=Hid.intro (fun k hk=>shareL_small (t:=lackV l c m gap need) (l:=subL l c m) k hk)
  have KS:=Hid.intro (implShrShare (lackV l c m gap need) _ _ w hI)
  rw [HLk.out] at hl h30 KS HV hsl HSB
  clear hI ha HLk hok
  generalize acrV (subL l c m) gap=y at KA hl ha0 ha1 h30 KS HV hsl HSB
  generalize shareL (need - y) (subL l c m)=sh at KS HV hsl HSB
  go_enter Tryz.func90,Tryz.ntmps90
  go_wp2_with fail
  refine KA.out.mono ?_
  rintro e w1 ⟨rfl,e1⟩
  cases e1
  go_wp2_with fail
  refine KS.out.mono ?_
  rintro e w2 ⟨v2,rfl,hr2,hb2⟩
  obtain ⟨a2,c2,rfl⟩:=hr2.form
  rw [hsl] at hr2 ⊢
  have HS2:=Hid.intro hr2
  have HR2:=Hid.intro (HH.out.kept (fun j h0 _ _=>hb2.block j h0))
  have HK2:=Hid.intro (Bk.of_below (r:=g) hb2)
  have hz2:=hb2.size
  clear hr2 hb2 KA KS HH
  go_wp2_with fail
  go_loopw [20] (fun s W=>∃ k:Nat,s=.int .i64 k∧k≤m∧Hid (RowI W B D (.slice (some ⟨g,0,none⟩) l.length cap) (addTo l c sh k))∧Hid (RowI W w.heap.size w2.heap.size (.slice a2 m c2) sh)∧Hid (Bk g w W)) (fun s _=>m - (intOf s).toNat)
  case atStart=>exact ⟨0,rfl,Nat.zero_le _,HR2,HS2,HK2⟩
  case round =>
   obtain ⟨k,rfl,hk,HR,HS,HK⟩:=hrel
   by_cases hlt:k < m
   ·obtain ⟨g',cap',e',hb1',hd1',hgs,hc1,hc2,hx,hf⟩:=HS.out.get (i:=k) (by omega)
    simp only [Value.slice.injEq,hsl,true_and] at e'
    obtain ⟨rfl,rfl⟩:=e'
    obtain ⟨g3,cap3,e3,hb3,hd3,hgs3,hc3,hc4,hy,hfy⟩:=HR.out.get (i:=c+k) (by rw [addTo_len];omega)
    simp only [Value.slice.injEq,Option.some.injEq,Addr.mk.injEq,and_true] at e3
    obtain ⟨rfl,_,rfl⟩:=e3
    have hyv:=addTo_out l c sh (i:=c+k) k (fun j hj=>by omega)
    rw [hyv] at hy
    have hbx:=hb (c+k) (by omega)
    have hbs:=HSB.out k (by omega)
    have HN:=Hid.intro (HR.out.set (i:=c+k) (by rw [addTo_len];omega) (l.getD (c+k) 0+sh.getD k 0))
    have HN2:Hid (addTo l c sh (k+1)=(addTo l c sh k).set (c+k) (l.getD (c+k) 0+sh.getD k 0)):=rfl
    rw [← HN2.out] at HN
    generalize l.getD (c+k) 0=z at hy hbx HN
    generalize sh.getD k 0=q at hx hbs HN
    unfold maxLen at hc2 hc4
    clear hyv HN2
    go_wp2
    go_roundw
    case rel=>exact ⟨k+1,by go_num,by omega,HN.out,HS.out.kept (fun j h0 h1 h2=>Below.heap_setCell _ _ _ _ (by show j ≠ g;omega)),HK.out.set (.inl rfl) _⟩
    case measure=>simp [intOf];omega
   ·obtain rfl:k=m:=by omega
    go_wp2
    go_end0
    exact ⟨rfl,by rw [HV.out];exact HR.out,HK.out⟩
end Go.Proofs.YtcbibdhlkdcmiafGreat
namespace Go.Proofs.YtcbibdhlkdcmiafGreat
open Go.RowKit

theorem implTxtWish (s:ByteArray) (hs:s.size≤maxLen) (w:World):Calls Tryz.prog 106 #[.string s] w fun e w'=>e=.returned (.int .i64 (wishOf s))∧w'=w:=by
 unfold wishOf
 have hm:=hs
 unfold maxLen at hm
 cases hok:txtOkB s
 all_goals
  go_enter Tryz.func106,Tryz.ntmps106
  go_wp2_with (go_at_call 45;refine (implTxtOk _ _ hs).mono ?_;rintro e w' ⟨rfl,rfl⟩;rw [hok])
  go_ret
  exact ⟨rfl,rfl⟩
end Go.Proofs.YtcbibdhlkdcmiafGreat
namespace Go.Proofs.YtcbibdhlkdcmiafGreat
open Go.RowKit

set_option maxRecDepth 100000 in
set_option maxHeartbeats 1000000 in
theorem implmayBeWide (ac ar:Option Addr) (cc cr:Nat) (t:T) (width:Int) (w:World) {z:Nat} (hc:ColsAt w z (.slice ac t.cols.length cc) t.cols) (hr:RowsAt w z (.slice ar t.rows.length cr) t.rows) :
  Calls Tryz.prog 35 #[.agg #[.slice ac t.cols.length cc,.int .i64 t.head,.int .i64 t.foot,.slice ar t.rows.length cr,.int .i64 t.gap],.int .i64 width] w fun e w'=>e=.returned (.bool (tblB t && inB width 0 300))∧Below w.heap.size w w':=by
 have K0:=k_alloc (Below.refl w.heap.size w) (.cells #[.slice ac t.cols.length cc,.int .i64 t.head,.int .i64 t.foot,.slice ar t.rows.length cr,.int .i64 t.gap] 26)
 have KT:=Hid.intro (implTblOk ac ar cc cr t _ (hc.kept K0) (hr.kept K0))
 have HK0:=Hid.intro K0
 have HI:=Hid.intro (within_any width 0 300)
 clear hc hr K0
 cases htk:tblB t with
 | false =>
  rw [htk] at KT
  clear htk
  go_enter Tryz.func35,Tryz.ntmps35
  go_wp2_with fail
  refine KT.out.mono ?_
  rintro e w1 ⟨rfl,hb1⟩
  have HK1:=Hid.intro (k_trans HK0.out hb1)
  clear hb1 KT HK0
  go_wp2
  go_ret
  exact ⟨rfl,HK1.out⟩
 | true =>
  rw [htk] at KT
  clear htk
  go_enter Tryz.func35,Tryz.ntmps35
  go_wp2_with fail
  refine KT.out.mono ?_
  rintro e w1 ⟨rfl,hb1⟩
  have HK1:=Hid.intro (k_trans HK0.out hb1)
  clear hb1 KT HK0
  go_wp2_with fail
  refine (HI.out _).mono ?_
  rintro e w2 ⟨rfl,rfl⟩
  go_wp2
  go_ret
  exact ⟨by simp,HK1.out⟩
end Go.Proofs.YtcbibdhlkdcmiafGreat
namespace Go.Proofs.YtcbibdhlkdcmiafGreat
open Go.RowKit

section
variable {P:Program} {ops:Array Oper} {C:World→Prop}
/-- the first k operations have come up -/
def listedTo (n:Nat):Nat→Array Bool
 | 0=>Array.replicate n false
 | k+1=>(listedTo n k).setIfInBounds k true
def wpAnyT (P:Program) (ops:Array Oper) (C:World→Prop) (Q:Exit→Act→World→Prop) (z:Nat):Nat→Array Bool→Act→Prop
 | 0,_,_=>False
 | fuel+1,listed,a=>Region.ready .any ops listed ≠ []∧∀ i ∈ Region.ready .any ops listed,if i=z then (∀ w,C w→wpOp P ops Q z (wpAny P .any ops Q fuel (listed.setIfInBounds z true)) a w) else qOp P ops C i (wpAnyT P ops C Q z fuel (listed.setIfInBounds i true)) a
theorem wpAny_of_T {Q:Exit→Act→World→Prop} {z:Nat}:∀ (fuel:Nat) (listed:Array Bool) (a:Act) (w:World),C w→wpAnyT P ops C Q z fuel listed a→wpAny P .any ops Q fuel listed a w
 | 0,_,_,_,_,h=>h.elim
 | fuel+1,listed,a,w,hw,h=>⟨fun h0=>absurd h0 h.1,fun i hi=>by
   have h2:=h.2 i hi
   by_cases hz:i=z
   ·rw [if_pos hz] at h2
    subst hz
    exact h2 w hw
   ·rw [if_neg hz] at h2
    exact wpOp_of_qOp hw (fun a' w' hw'=>wpAny_of_T fuel _ a' w' hw') h2⟩
theorem wpAnyT_first {Q:Exit→Act→World→Prop} {z i:Nat} {oi:Oper} {v:Value} (hs:succB ops z=true) (hi:ops[i]?=some oi) (hiz:i < z) (hsel:∀ (j:Nat) (o:Oper) cs b,ops[j]?=some o→o.op ≠ .select cs b) :
  ∀ (fuel:Nat) (listed:Array Bool) (a:Act),Closed ops (fun k=>listed.getD k false) →
   (∀ j oj,ops[j]?=some oj→j ≠ i→listed.getD j true=false→(∀ e ∈ oj.after,Region.binds .any e=true→e.on ≠ i)→oi.apart ops oj=true) →
   i ∈ Region.ready .any ops listed→YieldsIn P ops C oi v a →
   wpAnyT P ops C Q z fuel (listed.setIfInBounds i true) (a.put oi.dst v)→wpAnyT P ops C Q z (fuel+1) listed a:=by
 intro fuel
 induction fuel with
 | zero=>intro listed a _ _ _ _ H;exact H.elim
 | succ fuel ih =>
  intro listed a hcl hfree hr hy H
  refine ⟨fun h=>(by rw [h] at hr;cases hr),fun j hj=>?_⟩
  by_cases hji:j=i
  ·rw [if_neg (by omega)];subst hji;exact hy.qOp hi H
  ·have hjz:j ≠ z:=fun e=>by
    subst e
    obtain ⟨_,o,ho,ha⟩:=mem_ready.1 hj
    have h1:=all_ahead hs hcl ho ha _ i (Nat.le_refl _) hiz
    have h0:=(mem_ready.1 hr).1
    rcases Nat.lt_or_ge i listed.size with h' | h'
    ·simp [h'] at h0 h1;rw [h0] at h1;cases h1
    ·simp [Array.getElem?_eq_none h'] at h1
   rw [if_neg hjz]
   have h1:=H.2 j (ready_mono hj hji)
   rw [if_neg hjz] at h1
   obtain ⟨hjun,oj,hoj,hall⟩:=mem_ready.1 hj
   have hnot:∀ e ∈ oj.after,Region.binds .any e=true→e.on ≠ i:=fun e he hb heq=>by
    have h1:=hall e he hb
    have h0:=(mem_ready.1 hr).1
    rw [heq] at h1
    rcases Nat.lt_or_ge i listed.size with h' | h'
    ·simp [h'] at h0 h1;rw [h0] at h1;cases h1
    ·simp [Array.getElem?_eq_none h'] at h1
   have h2:=qOp_put hoj (hfree j oj hoj hji hjun hnot) (fun cs b=>hsel i oi cs b hi) (fun cs b=>hsel j oj cs b hoj) hy h1
   have hfree':∀ k ok,ops[k]?=some ok→k ≠ i→(listed.setIfInBounds j true).getD k true=false →
     (∀ e ∈ ok.after,Region.binds .any e=true→e.on ≠ i)→oi.apart ops ok=true:=fun k ok hk hki hun hno=>by
    refine hfree k ok hk hki ?_ hno
    by_cases hjk:j=k
    ·subst hjk;exact hjun
    ·rw [getD_set_ne true hjk] at hun;exact hun
   refine qOp_mono (fun a' h3=>ih (listed.setIfInBounds j true) a' (closed_set hcl hj) hfree' (ready_mono hr (Ne.symm hji)) h3.1 ?_) h2
   rw [Array.setIfInBounds_comm _ _ hji]
   exact h3.2
theorem wpAnyT_lex {Q:Exit→Act→World→Prop} {n z f:Nat} (hns:Region.noSelect ops=true) (hs:succB ops z=true) (hz:Region.ready .any ops (listedTo n z)=[z]):∀ (l:List Oper) (k:Nat) (a:Act),k+l.length=z→(∀ j,j < l.length→l[j]?=ops[k+j]?)→Closed ops (fun j=>(listedTo n k).getD j false) →
  Region.lexFrom .any ops (l.length+(f+1)) k (listedTo n k)=true→wpQuiet P ops C (fun a'=>∀ w',C w'→wpOp P ops Q z (wpAny P .any ops Q f (listedTo n (z+1))) a' w') l a→wpAnyT P ops C Q z (l.length+(f+1)) (listedTo n k) a
 | [],k,a,hk,_,_,_,h=>by
  have hk':k=z:=by simpa using hk
  subst hk'
  rw [List.length_nil,Nat.zero_add]
  refine ⟨by rw [hz];simp,fun i hi=>?_⟩
  rw [hz] at hi
  have hik:i=k:=by simpa using hi
  rw [if_pos hik]
  exact h
 | o :: l,k,a,hk,hl,hcl,hB,h=>by
  have h0:ops[k]?=some o:=by simpa using (hl 0 (by simp)).symm
  simp only [List.length_cons] at hk hB ⊢
  rw [show l.length+1+(f+1)=(l.length+(f+1))+1 by omega] at hB ⊢
  rw [Region.lexFrom] at hB
  simp only [Bool.and_eq_true] at hB
  obtain ⟨⟨hr,hf⟩,hB'⟩:=hB
  have hr':k ∈ Region.ready .any ops (listedTo n k):=by simpa using hr
  have hst:qOp P ops C k (wpQuiet P ops C (fun a'=>∀ w',C w'→wpOp P ops Q z (wpAny P .any ops Q f (listedTo n (z+1))) a' w') l) a:=by unfold qOp;simp only [h0];exact h
  obtain ⟨v,hy,hK⟩:=yieldsIn_of_qOp h0 hst
  exact wpAnyT_first hs h0 (by omega) (Region.noSelect_spec hns) (l.length+(f+1)) (listedTo n k) a hcl (Region.free_spec h0 hf) hr' hy
   (wpAnyT_lex hns hs hz l (k+1) _ (by omega) (fun j hj=>by have:=hl (j+1) (by simpa using hj);simpa [Nat.add_assoc,Nat.add_comm 1 j] using this) (closed_set hcl hr') hB' hK)
end
/-- the walk: what only reads in the text's order, then the rest -/
theorem wp_region_tail {P:Program} {id:Nat} {Q:Exit→Act→World→Prop} {a:Act} {w:World} {l:List Oper} (n f:Nat) {o:Oper} (hm:P.follows .mixedOrders=true) (hl:l.length=n+(f+1)) (ho:l[n]?=some o) (hB:Region.lexB .any l.toArray=true) (hs:succB l.toArray n=true) (hz:Region.ready .any l.toArray (listedTo (n+(f+1)) n)=[n])
  (h:wpQuiet P l.toArray (fun w'=>∃ p:BW w,w'=p.u) (fun a'=>∀ w',(∃ p:BW w,w'=p.u)→if Region.wanted o (yielded l.toArray a'.tmps)=true then o.wp P a' w' (wpAny P .any l.toArray Q f (listedTo (n+(f+1)) (n+1))) Q else wpAny P .any l.toArray Q f (listedTo (n+(f+1)) (n+1)) (a'.put o.dst undef) w') (l.take n) a):(Code.region id l.toArray true).wp P Q a w:=by
 simp only [Region.lexB,Bool.and_eq_true] at hB
 have hlt:(l.take n).length=n:=by rw [List.length_take];omega
 refine wp_region_any hm (wpAny_of_T (C:=fun w'=>∃ p:BW w,w'=p.u) (z:=n) _ _ _ _ ⟨⟨_,k_drew (Below.refl _ _)⟩,rfl⟩ ?_)
 have hcv:∀ a',(∀ w',(∃ p:BW w,w'=p.u)→if Region.wanted o (yielded l.toArray a'.tmps)=true then o.wp P a' w' (wpAny P .any l.toArray Q f (listedTo (n+(f+1)) (n+1))) Q else wpAny P .any l.toArray Q f (listedTo (n+(f+1)) (n+1)) (a'.put o.dst undef) w')→∀ w',(∃ p:BW w,w'=p.u)→wpOp P l.toArray Q n (wpAny P .any l.toArray Q f (listedTo (n+(f+1)) (n+1))) a' w':=by
  intro a' hR w' hw'
  have h1:=hR w' hw'
  unfold wpOp
  rw [show l.toArray[n]?=some o by simpa using ho]
  dsimp only
  split
  ·rename_i hw;rw [if_pos hw] at h1;exact .inl h1
  ·rename_i hw;rw [if_neg hw] at h1;exact h1
 have hmono:∀ (q:List Oper) (b:Act),wpQuiet P l.toArray (fun w'=>∃ p:BW w,w'=p.u) (fun a'=>∀ w',(∃ p:BW w,w'=p.u)→if Region.wanted o (yielded l.toArray a'.tmps)=true then o.wp P a' w' (wpAny P .any l.toArray Q f (listedTo (n+(f+1)) (n+1))) Q else wpAny P .any l.toArray Q f (listedTo (n+(f+1)) (n+1)) (a'.put o.dst undef) w') q b→wpQuiet P l.toArray (fun w'=>∃ p:BW w,w'=p.u) (fun a'=>∀ w',(∃ p:BW w,w'=p.u)→wpOp P l.toArray Q n (wpAny P .any l.toArray Q f (listedTo (n+(f+1)) (n+1))) a' w') q b:=by
  intro q
  induction q with
  | nil=>intro b hb;exact hcv b hb
  | cons o q ih =>
   intro b hb
   simp only [wpQuiet] at hb ⊢
   split
   ·rename_i hw;rw [if_pos hw] at hb;exact Oper.quiet_mono ih hb
   ·rename_i hw;rw [if_neg hw] at hb;exact ih _ hb
 have:=wpAnyT_lex (P:=P) (Q:=Q) (n:=n+(f+1)) (f:=f) (C:=fun w'=>∃ p:BW w,w'=p.u) hB.1 hs hz (l.take n) 0 a (by omega) (fun j hj=>by rw [hlt] at hj;simp [hj]) (fun j i _ _=>by
  show (Array.replicate (n+(f+1)) false).getD j false=false
  rw [Array.getD_eq_getD_getElem?,Array.getElem?_replicate]
  split <;> rfl) (by rw [hlt];have h9:=hB.2;rw [show l.toArray.size=n+(f+1) by simpa using hl] at h9;exact h9) (hmono _ _ h)
 rw [hlt] at this
 rw [show l.toArray.size=n+(f+1) by simpa using hl]
 exact this
end Go.Proofs.YtcbibdhlkdcmiafGreat
namespace Go.Proofs.YtcbibdhlkdcmiafGreat
open Go.RowKit

theorem specTxtWish (s:ByteArray) (hs:s.size≤maxLen) (w:World):Calls Tryz.prog 132 #[.string s] w fun e w'=>e=.returned (.int .i64 (wishOf s))∧w'=w:=by
 unfold wishOf
 have hm:=hs
 unfold maxLen at hm
 cases hok:txtOkB s
 all_goals
  go_enter Tryz.func132,Tryz.ntmps132
  go_wp2_with (go_at_call 87;refine (specTxtOk _ _ hs).mono ?_;rintro e w' ⟨rfl,rfl⟩;rw [hok])
  go_ret
  exact ⟨rfl,rfl⟩
end Go.Proofs.YtcbibdhlkdcmiafGreat
namespace Go.Proofs.YtcbibdhlkdcmiafGreat
open Go.RowKit

set_option maxRecDepth 100000 in
set_option maxHeartbeats 1000000 in
theorem specl1Sum_any (v:Value) (l:List Int) (hl:l.length≤1000) (hw:l.all wtB=true) (w:World) (h:IntsAt w v l) :
  Calls Tryz.prog 49 #[v] w fun e w'=>e=.returned (.int .i64 l.sum)∧w'=w:=by
 obtain ⟨a,cap,rfl,_⟩:=h.form
 have H:=Hid.intro h
 have HW:=Hid.intro (sumTo_bound hw)
 have HG:=Hid.intro (fun i hi=>wt_get (i:=i) hw hi)
 clear h hw
 go_enter Tryz.func49,Tryz.ntmps49
 go_wp2_with fail
 go_loop [3,4] (fun s i=>∃ k:Nat,k≤l.length∧i=.int .i64 k∧s=.int .i64 (sumTo l k)) (fun _ i=>l.length - (intOf i).toNat)
 case atStart=>exact ⟨0,Nat.zero_le _,rfl,by simp [sumTo]⟩
 case round =>
  obtain ⟨k,hk,rfl,rfl⟩:=hrel
  by_cases hlt:k < l.length
  ·obtain ⟨b,off,cap',e',hc1,hc2,hbl,hx⟩:=H.out.get hlt
   simp only [Value.slice.injEq,true_and] at e'
   obtain ⟨rfl,rfl⟩:=e'
   have hb1:=HW.out k hk
   have hb2:=HG.out k hlt
   have HS:=Hid.intro (sumTo_succ hlt)
   generalize l.getD k 0=x at hx HS hb2
   generalize sumTo l k=s at HS hb1
   unfold maxLen at hc2
   go_wp2
   go_round
   case rel=>exact ⟨k+1,by omega,by go_num,by rw [HS.out]⟩
   case measure=>simp [intOf];omega
  ·obtain rfl:k=l.length:=by omega
   have HE:=Hid.intro (sumTo_all l)
   go_wp2
   go_ret
   exact ⟨by rw [← HE.out];rfl,rfl⟩
end Go.Proofs.YtcbibdhlkdcmiafGreat
