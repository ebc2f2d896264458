/-
  PROVED HERE: what the model's GrdOf answers at a drawn table: its cells at their places, or nothing where it is not ok; nothing that was in memory is turned. Also: a grid of the call's own while one of its numbers is written, for the drawing of grids: it stays a grid, its numbers stay within 64 bits, and nothing else is turned but the reader. Also: a drawn grid, put into a result's own box. Also: of a grid that is ok there are as many slots without a cell as its slots are more than those of its cells.
-/
import Derived.Test.YtggmjiddadjilacG20
import Derived.Test.YtggmjiddadjilacG18
import Derived.Test.YtggmjiddadjilacG13
import Derived.Test.YtggmjiddadjilacG17
import Derived.Test.YtggmjiddadjilacG6
namespace Go.Proofs.Ytggmjiddadjilac
open Go.RowKit

set_option maxRecDepth 100000 in
set_option maxHeartbeats 1000000 in
theorem specGrdOf (ac ar:Option Addr) (cc cr:Nat) (t:T) (hD:Drawn t) (w:World) {z:Nat} (hc:ColsAt w z (.slice ac t.cols.length cc) t.cols) (hr:RowsAt w z (.slice ar t.rows.length cr) t.rows) :
  Calls Try.prog 49 #[.agg #[.slice ac t.cols.length cc,.int .i64 t.head,.int .i64 t.foot,.slice ar t.rows.length cr,.int .i64 t.gap]] w fun e w'=>∃ vg,e=.returned (.agg #[.int .i64 (gOf t).rows,.int .i64 (gOf t).cols,vg])∧OwnG w' w.heap.size vg (gOf t).cells∧Below w.heap.size w w':=by
 obtain ⟨W0,hW0⟩:∃ W0,(w.alloc (.cells #[.slice ac t.cols.length cc,.int .i64 t.head,.int .i64 t.foot,.slice ar t.rows.length cr,.int .i64 t.gap] 65)).alloc (.cells #[.int .i64 0,.int .i64 0,.slice none 0 0] 25)=W0:=⟨_,rfl⟩
 have K0:Below w.heap.size w W0:=by rw [← hW0];exact k_alloc (k_alloc (Below.refl _ _) _) _
 have hz0:W0.heap.size=w.heap.size+2:=by rw [← hW0];simp
 have T0:W0.heap[w.heap.size]?=some (.cells #[.slice ac t.cols.length cc,.int .i64 t.head,.int .i64 t.foot,.slice ar t.rows.length cr,.int .i64 t.gap] 65):=by rw [← hW0];exact (Below.heap_alloc _ _ _ (by simp)).trans (newestB _ _)
 have X0:W0.heap[w.heap.size+1]?=some (.cells #[.int .i64 0,.int .i64 0,.slice none 0 0] 25):=by
  have:=newestB (w.alloc (.cells #[.slice ac t.cols.length cc,.int .i64 t.head,.int .i64 t.foot,.slice ar t.rows.length cr,.int .i64 t.gap] 65)) (.cells #[.int .i64 0,.int .i64 0,.slice none 0 0] 25)
  rw [hW0] at this
  simpa using this
 have KO:=Hid.intro (specTblOk ac ar cc cr t W0 (hc.kept K0) (hr.kept K0))
 have HR:=Hid.intro hr
 obtain ⟨⟨t0,t1,t2,t3,t4⟩,_⟩:=fiveT T0
 clear hc hr
 cases htk:tblB t with
 | false =>
  rw [htk] at KO
  have hg:gOf t=⟨0,0,[]⟩:=by unfold gOf;rw [if_neg (by rw [htk];simp)]
  have HG:=Hid.intro hg
  clear htk hg hD
  go_enter Try.func49,Try.ntmps49
  go_wp2_with fail
  refine KO.out.mono ?_
  rintro e w1 ⟨rfl,hb1⟩
  have X1:=blk_kept X0 hb1
  have K1:=k_trans K0 hb1
  obtain ⟨⟨x0,x1,x2⟩,y0,y1,y2⟩:=threeZ X1
  have HB:=Hid.intro (((K1.setCell (p:=⟨w.heap.size+1,0,none⟩) (by show _≤w.heap.size+1;omega) (.int .i64 0)).setCell (p:=⟨w.heap.size+1,1,none⟩) (by show _≤w.heap.size+1;omega) (.int .i64 0)).setCell (p:=⟨w.heap.size+1,2,none⟩) (by show _≤w.heap.size+1;omega) (.slice none 0 0))
  clear hb1 K1 X1 KO hW0 t0 t1 t2 t3 t4
  go_wp2
  exact bodyPost_ret (v:=.agg #[.int .i64 0,.int .i64 0,.slice none 0 0]) (by simp [results,Try.results49,go_sem,x0,x1,x2]) rfl ⟨.slice none 0 0,by rw [HG.out],by rw [HG.out];exact ⟨rfl,.inl ⟨rfl,rfl⟩⟩,HB.out⟩
 | true =>
  rw [htk] at KO
  have hg:gOf t=⟨t.rows.length,colsOf (max 1 (t.cols.length:Int)) (gridOf t),gridOf t⟩:=by unfold gOf;rw [if_pos htk]
  have HG:=Hid.intro hg
  have HLow:=Hid.intro (low_of htk hD)
  clear htk hg hD
  go_enter Try.func49,Try.ntmps49
  go_wp2_with fail
  refine KO.out.mono ?_
  rintro e w1 ⟨rfl,hb1⟩
  have X1:=blk_kept X0 hb1
  have T1:=blk_kept T0 hb1
  have K1:=k_trans K0 hb1
  obtain ⟨⟨s0,s1,s2,s3,s4⟩,_⟩:=fiveT T1
  clear KO hW0 t0 t1 t2 t3 t4
  go_wp2_with fail
  refine (l3Of_any ac ar cc cr t HLow.out w1 (HR.out.kept K1)).mono ?_
  rintro e w2 ⟨vg,rfl,hO2,hb2⟩
  have X2:=blk_kept X1 hb2
  have K2:=k_trans K1 hb2
  obtain ⟨va,vq,rfl,_⟩:=row_form hO2
  obtain ⟨⟨x0,x1,x2⟩,y0,y1,y2⟩:=threeZ X2
  have h1:=setB (p:=0) X2 (.int .i64 (t.rows.length:Int))
  have h2:=setB (p:=1) h1 (.int .i64 (colsOf (max 1 (t.cols.length:Int)) (gridOf t)))
  have o1:=row_set (p:=0) hO2 X2 (by decide) (.int .i64 (t.rows.length:Int))
  have o2:=row_set (p:=1) o1 h1 (by decide) (.int .i64 (colsOf (max 1 (t.cols.length:Int)) (gridOf t)))
  have o3:=row_set (p:=2) o2 h2 (by decide) (.slice va (gridOf t).length vq)
  have hz1:w.heap.size≤w1.heap.size:=K1.size
  have HO:=Hid.intro (row_base o3 hz1)
  have HB:=Hid.intro (((K2.setCell (p:=⟨w.heap.size+1,0,none⟩) (by show _≤w.heap.size+1;omega) (.int .i64 (t.rows.length:Int))).setCell (p:=⟨w.heap.size+1,1,none⟩) (by show _≤w.heap.size+1;omega) (.int .i64 (colsOf (max 1 (t.cols.length:Int)) (gridOf t)))).setCell (p:=⟨w.heap.size+1,2,none⟩) (by show _≤w.heap.size+1;omega) (.slice va (gridOf t).length vq))
  clear h1 h2 o1 o2 o3 hO2 hb2 X2 K2 s0 s1 s2 s3 s4 X1 T1 K1 hb1 X0 T0
  generalize hC:colsOf (max 1 (t.cols.length:Int)) (gridOf t)=C at HG HO HB ⊢
  clear hC
  go_wp2
  exact bodyPost_ret (v:=.agg #[.int .i64 (t.rows.length:Int),.int .i64 C,.slice va (gridOf t).length vq]) (by simp [results,Try.results49,go_sem,x0,x1,x2]) rfl ⟨_,by rw [HG.out],by rw [HG.out];exact HO.out,HB.out⟩
end Go.Proofs.Ytggmjiddadjilac
namespace Go.Proofs.Ytggmjiddadjilac
open Go.RowKit

theorem rp_take {α:Type} (f:α→List Value) (sz:Nat) (hf:∀ x,(f x).length=sz) (l:List α) (arr:Array Value) (h:∀ i,(hi:i < l.length)→∀ j,j < sz→arr[i * sz+j]?=(f l[i])[j]?):arr.toList.take (l.length * sz)=l.flatMap f:=by
 apply List.ext_getElem?
 intro q
 by_cases hq:q < l.length * sz
 ·have hsz:0 < sz:=by
   rcases Nat.eq_zero_or_pos sz with h | h
   ·subst h;simp at hq
   ·exact h
  have hi:q / sz < l.length:=Nat.div_lt_of_lt_mul (by rw [Nat.mul_comm];exact hq)
  have hj:q % sz < sz:=Nat.mod_lt _ hsz
  have e:q / sz * sz+q % sz=q:=by rw [Nat.mul_comm];exact Nat.div_add_mod q sz
  have h1:=h (q / sz) hi (q % sz) hj
  have h2:=flat_get f sz hf l (q / sz) hi (q % sz) hj
  rw [e] at h1 h2
  rw [List.getElem?_take_of_lt hq,Array.getElem?_toList,h1,h2]
 ·rw [List.getElem?_eq_none (by simp only [List.length_take];omega),List.getElem?_eq_none (by rw [flat_len f sz hf];omega)]
theorem rp_put {α:Type} (f:α→List Value) (sz:Nat) (hf:∀ x,(f x).length=sz) {w:World} {B g cap n:Nat} {e:TypeId} {cs:List α} (hn:cs.length=n) (h:w.ownsRow B e sz (.slice (some ⟨g,0,none⟩) n cap) n (cs.flatMap f)) {a j:Nat} (ha:a < cs.length) (hj:j < sz) {x:α} {v:Value} (hx:f x=(f cs[a]).set j v) :
  (w.setCell ⟨g,a * sz+j,none⟩ v).ownsRow B e sz (.slice (some ⟨g,0,none⟩) n cap) n ((cs.set a x).flatMap f):=by
 subst hn
 rcases h.2 with ⟨e,_⟩ | ⟨g',cap',cur,e,hg,hc,a1,a2,a3,a4⟩
 ·simp at e
 ·simp only [Value.slice.injEq,Option.some.injEq,Addr.mk.injEq,and_true,true_and] at e
  obtain ⟨rfl,rfl⟩:=e
  refine ⟨by rw [flat_len f sz hf,List.length_set],.inr ⟨g,cap,cur.setIfInBounds (a * sz+j) v,rfl,hg,setB hc _,a1,a2,by rw [Array.size_setIfInBounds];exact a3,?_⟩⟩
  have hlt:∀ i m,i < cs.length→m < sz→i * sz+m < cs.length * sz:=fun i m hi hm=>by
   have:(i+1) * sz≤cs.length * sz:=Nat.mul_le_mul_right sz hi
   rw [Nat.succ_mul] at this
   omega
  have hle:cs.length * sz≤cap * sz:=Nat.mul_le_mul_right sz a1
  rw [show cs.length * sz=(cs.set a x).length * sz by rw [List.length_set]]
  refine rp_take f sz hf (cs.set a x) (cur.setIfInBounds (a * sz+j) v) (fun i hi0 m hm=>?_)
  have hi:i < cs.length:=by rw [List.length_set] at hi0;exact hi0
  have hold:cur[i * sz+m]?=(f cs[i])[m]?:=by
   have e:=flat_get f sz hf cs i hi m hm
   rw [← a4,List.getElem?_take_of_lt (hlt i m hi hm),Array.getElem?_toList] at e
   exact e
  by_cases hia:i=a
  ·subst hia
   rw [List.getElem_set_self,hx]
   by_cases hmj:m=j
   ·subst hmj
    rw [Array.getElem?_setIfInBounds_self_of_lt (by rw [a3];have:=hlt i m hi hm;omega),List.getElem?_set_self (by rw [hf];exact hm)]
   ·rw [Array.getElem?_setIfInBounds_ne (by omega),List.getElem?_set_ne (by omega)]
    exact hold
  ·have hne:a * sz+j ≠ i * sz+m:=fun e=>by
    have h1:(a * sz+j) / sz=a:=by rw [Nat.mul_comm,Nat.mul_add_div (by omega),Nat.div_eq_of_lt hj,Nat.add_zero]
    have h2:(i * sz+m) / sz=i:=by rw [Nat.mul_comm,Nat.mul_add_div (by omega),Nat.div_eq_of_lt hm,Nat.add_zero]
    rw [e] at h1
    omega
   rw [List.getElem_set_ne (by omega),Array.getElem?_setIfInBounds_ne hne]
   exact hold

/-- a cell's numbers, and its row is not 99 -/
def GOk9 (x:GC):Prop:=GOk x∧x.row ≠ 99
theorem gOf_gok9 {t:T} (hD:Drawn t):∀ x ∈ (gOf t).cells,GOk9 x:=fun x hx=>⟨gOf_gok hD x hx,by
 cases h:tblB t with
 | false=>rw [gOf_no h] at hx;cases hx
 | true =>
  have hl:=low_of h hD
  have h8:=hl.rows
  rw [gOf_ok h] at hx
  have hf:=fits_stands hl hx
  simp only [fitsB,inB,Bool.and_eq_true,decide_eq_true_eq] at hf
  omega⟩
/-- a grid of the call's own, its box and the result's -/
structure GrS (w0:World) (r gb zb n:Nat) (R C:Int) (va:Option Addr) (vq:Nat) (gs:List GC) (W:World):Prop where
 lt:r < w0.heap.size
 hg:w0.heap.size≤gb
 hz:w0.heap.size≤zb
 ne:gb ≠ zb
 len:gs.length=n
 bk:Bk r w0 W
 gbx:W.heap[gb]?=some (.cells #[.int .i64 R,.int .i64 C,.slice va n vq] 25)
 zbx:W.heap[zb]?=some (.cells #[.int .i64 0,.int .i64 0,.slice none 0 0] 25)
 own:W.ownsRow w0.heap.size 35 5 (.slice va n vq) n (gs.flatMap gcVs)
 gok:∀ x ∈ gs,GOk9 x
theorem GrS.on {w0:World} {r gb zb n:Nat} {R C:Int} {va:Option Addr} {vq:Nat} {gs:List GC} {W W':World} (h:GrS w0 r gb zb n R C va vq gs W) (k:Bk r W W'):GrS w0 r gb zb n R C va vq gs W' :=
 ⟨h.lt,h.hg,h.hz,h.ne,h.len,h.bk.trans k,(k.block gb (Array.getElem?_eq_some_iff.1 h.gbx).1 (by have:=h.lt;have:=h.hg;omega)).trans h.gbx,(k.block zb (Array.getElem?_eq_some_iff.1 h.zbx).1 (by have:=h.lt;have:=h.hz;omega)).trans h.zbx,row_bk h.own k h.lt,h.gok⟩
theorem GrS.setR {w0:World} {r gb zb n:Nat} {R C:Int} {va:Option Addr} {vq:Nat} {gs:List GC} {W:World} (h:GrS w0 r gb zb n R C va vq gs W) (z:Int):GrS w0 r gb zb n z C va vq gs (W.setCell ⟨gb,0,none⟩ (.int .i64 z)) :=
 ⟨h.lt,h.hg,h.hz,h.ne,h.len,h.bk.set (p:=⟨gb,0,none⟩) (.inr h.hg) _,(setB h.gbx _).trans (by simp),(Below.heap_setCell _ _ _ _ (fun e=>h.ne e.symm)).trans h.zbx,row_set h.own h.gbx (by decide) _,h.gok⟩
theorem GrS.setC {w0:World} {r gb zb n:Nat} {R C:Int} {va:Option Addr} {vq:Nat} {gs:List GC} {W:World} (h:GrS w0 r gb zb n R C va vq gs W) (z:Int):GrS w0 r gb zb n R z va vq gs (W.setCell ⟨gb,1,none⟩ (.int .i64 z)) :=
 ⟨h.lt,h.hg,h.hz,h.ne,h.len,h.bk.set (p:=⟨gb,1,none⟩) (.inr h.hg) _,(setB h.gbx _).trans (by simp),(Below.heap_setCell _ _ _ _ (fun e=>h.ne e.symm)).trans h.zbx,row_set h.own h.gbx (by decide) _,h.gok⟩
theorem GrS.blk {w0:World} {r gb zb n:Nat} {R C:Int} {va:Option Addr} {vq:Nat} {gs:List GC} {W:World} (h:GrS w0 r gb zb n R C va vq gs W) (hn:0 < n):∃ g cur,va=some ⟨g,0,none⟩∧w0.heap.size≤g∧g ≠ gb∧g ≠ zb∧n≤vq∧vq≤maxLen∧W.heap[g]?=some (.cells cur 35)∧n * 5≤cur.size:=by
 rcases h.own.2 with ⟨_,e⟩ | ⟨g,cap,cur,e,hg,hc,a1,a2,a3,_⟩
 ·omega
 ·simp only [Value.slice.injEq,true_and] at e
  obtain ⟨rfl,rfl⟩:=e
  refine ⟨g,cur,rfl,hg,fun e=>?_,fun e=>?_,a1,a2,hc,by rw [a3];omega⟩
  ·subst e;have:=hc.symm.trans h.gbx;simp at this
  ·subst e;have:=hc.symm.trans h.zbx;simp at this
theorem set_gok {gs:List GC} (h:∀ x ∈ gs,GOk9 x) (k:Nat) {y:GC} (hy:GOk9 y):∀ x ∈ gs.set k y,GOk9 x:=fun x hx=>by
 rcases List.mem_or_eq_of_mem_set hx with hx | rfl
 ·exact h x hx
 ·exact hy
theorem GrS.setG {w0:World} {r gb zb n g:Nat} {R C:Int} {vq:Nat} {gs:List GC} {W:World} (h:GrS w0 r gb zb n R C (some ⟨g,0,none⟩) vq gs W) {k j:Nat} (hk:k < n) (hj:j < 5) {y:GC} {v:Value} (hy:gcVs y=(gcVs (gs.getD k dG)).set j v) (hy2:GOk9 y) :
  GrS w0 r gb zb n R C (some ⟨g,0,none⟩) vq (gs.set k y) (W.setCell ⟨g,k * 5+j,none⟩ v):=by
 obtain ⟨g',cur,e,hg,h1,h2,_⟩:=h.blk (by omega)
 simp only [Option.some.injEq,Addr.mk.injEq,and_true] at e
 subst e
 have hl:=h.len
 refine ⟨h.lt,h.hg,h.hz,h.ne,by rw [List.length_set];exact hl,h.bk.set (p:=⟨g,k * 5+j,none⟩) (.inr hg) _,(Below.heap_setCell _ _ _ _ (fun e=>h1 e.symm)).trans h.gbx,(Below.heap_setCell _ _ _ _ (fun e=>h2 e.symm)).trans h.zbx,?_,set_gok h.gok k hy2⟩
 exact rp_put gcVs 5 (fun _=>rfl) hl h.own (by omega) hj (by rw [hy,getD_get dG (by omega)])
theorem GrS.frz {w0:World} {r gb zb n g:Nat} {R C:Int} {vq:Nat} {gs:List GC} {W:World} (h:GrS w0 r gb zb n R C (some ⟨g,0,none⟩) vq gs W) (hn:0 < n) (p:Nat):W.frozen? ⟨g,p,none⟩=false:=by
 obtain ⟨g',cur,e,_,_,_,_,_,hc,_⟩:=h.blk hn
 simp only [Option.some.injEq,Addr.mk.injEq,and_true] at e
 subst e
 exact freeB hc
theorem GrS.cel {w0:World} {r gb zb n g:Nat} {R C:Int} {vq:Nat} {gs:List GC} {W:World} (h:GrS w0 r gb zb n R C (some ⟨g,0,none⟩) vq gs W) {k j:Nat} (hk:k < n) (hj:j < 5):W.cell? ⟨g,k * 5+j,none⟩=(gcVs (gs.getD k dG))[j]?:=by
 have hl:=h.len
 have e:=flat_get gcVs 5 (fun _=>rfl) gs k (by omega) j hj
 rw [getD_get dG (by omega)]
 have:j < (gcVs gs[k]).length:=hj
 rw [row_cell h.own (u:=(gcVs gs[k])[j]) (by rw [e];simp)]
 simp
/-- a grid of the call's own whose cells have been appended to, ahead of the store of the new list -/
structure GrA (w0:World) (r gb zb n:Nat) (R C:Int) (va:Option Addr) (vq:Nat) (v:Value) (gs:List GC) (W:World):Prop where
 lt:r < w0.heap.size
 hg:w0.heap.size≤gb
 hz:w0.heap.size≤zb
 ne:gb ≠ zb
 len:gs.length=n+1
 bk:Bk r w0 W
 gbx:W.heap[gb]?=some (.cells #[.int .i64 R,.int .i64 C,.slice va n vq] 25)
 zbx:W.heap[zb]?=some (.cells #[.int .i64 0,.int .i64 0,.slice none 0 0] 25)
 own:W.ownsRow w0.heap.size 35 5 v (n+1) (gs.flatMap gcVs)
 gok:∀ x ∈ gs,GOk9 x
theorem GrS.app {w0:World} {r gb zb n g:Nat} {R C:Int} {vq:Nat} {gs:List GC} {W W':World} (h:GrS w0 r gb zb n R C (some ⟨g,0,none⟩) vq gs W) (hn:0 < n) {y:GC} (hy:GOk9 y) {v:Value} (ho:W'.ownsRow w0.heap.size 35 5 v (n+1) (gs.flatMap gcVs ++ gcVs y)) (k:W.grownBy W' (Value.slice (some ⟨g,0,none⟩) n vq).ownBlock) :
  GrA w0 r gb zb n R C (some ⟨g,0,none⟩) vq v (gs ++ [y]) W':=by
 obtain ⟨g',cur,e,hg,h1,h2,_⟩:=h.blk hn
 simp only [Option.some.injEq,Addr.mk.injEq,and_true] at e
 subst e
 have hl:=h.len
 refine ⟨h.lt,h.hg,h.hz,h.ne,by simp [hl],h.bk.grown k (fun i e=>?_),blk_grown h.gbx k (fun e=>?_),blk_grown h.zbx k (fun e=>?_),by rw [List.flatMap_append];simpa using ho,fun x hx=>?_⟩
 ·simp only [Value.ownBlock,Option.some.injEq] at e;omega
 ·simp only [Value.ownBlock,Option.some.injEq] at e;omega
 ·simp only [Value.ownBlock,Option.some.injEq] at e;omega
 ·rcases List.mem_append.1 hx with hx | hx
  ·exact h.gok x hx
  ·rw [List.mem_singleton] at hx;subst hx;exact hy
theorem GrS.rdApp {w0:World} {r gb zb n g B:Nat} {R C:Int} {vq:Nat} {gs:List GC} {W W':World} (h:GrS w0 r gb zb n R C (some ⟨g,0,none⟩) vq gs W) (hn:0 < n) (hR:Rd W r B) (k:W.grownBy W' (Value.slice (some ⟨g,0,none⟩) n vq).ownBlock):Rd W' r B:=by
 obtain ⟨g',cur,e,hg,h1,h2,_⟩:=h.blk hn
 simp only [Option.some.injEq,Addr.mk.injEq,and_true] at e
 subst e
 refine hR.grown k (fun i e=>?_)
 simp only [Value.ownBlock,Option.some.injEq] at e
 have:=h.lt
 omega
theorem GrA.put {w0:World} {r gb zb n:Nat} {R C:Int} {va a:Option Addr} {vq c:Nat} {gs:List GC} {W:World} (h:GrA w0 r gb zb n R C va vq (.slice a (n+1) c) gs W):GrS w0 r gb zb (n+1) R C a c gs (W.setCell ⟨gb,2,none⟩ (.slice a (n+1) c)) :=
 ⟨h.lt,h.hg,h.hz,h.ne,h.len,h.bk.set (p:=⟨gb,2,none⟩) (.inr h.hg) _,(setB h.gbx _).trans (by simp),(Below.heap_setCell _ _ _ _ (fun e=>h.ne e.symm)).trans h.zbx,row_set h.own h.gbx (by decide) _,h.gok⟩
theorem grid_i64 {t:T} (hD:Drawn t):I64 (gOf t).rows∧I64 (gOf t).cols∧-10≤(gOf t).rows∧(gOf t).rows≤50∧-10≤(gOf t).cols∧(gOf t).cols≤1000:=by
 cases h:tblB t with
 | false=>rw [gOf_no h];simp [I64]
 | true =>
  have hl:=low_of h hD
  have h8:=hl.rows
  have hc:t.cols.length≤8:=by
   simp only [tblB,colsB,Bool.and_eq_true,decide_eq_true_eq] at h
   omega
  have hcb:=cols_bounds hl hc
  rw [gOf_ok h]
  dsimp only [I64]
  omega
theorem grid_few {t:T} (hD:Drawn t):(gOf t).cells.length≤40:=by
 cases h:tblB t with
 | false=>rw [gOf_no h];simp
 | true =>
  rw [gOf_ok h]
  have h40:=grid_len (low_of h hD) t.rows.length
  have h8:=(low_of h hD).rows
  show (gridTo t t.rows.length).length≤40
  omega
/-- some grid of n cells, its box and the result's -/
def GrE (w0:World) (r gb zb n:Nat) (W:World):Prop:=∃ R C va vq gs,GrS w0 r gb zb n R C va vq gs W∧I64 R∧I64 C
/-- the answer's form -/
def GridPost (r B:Nat) (w:World) (e:Ending) (w':World):Prop :=
 ∃ (va:Option Addr) (vq:Nat) (g:G),e=.returned (.agg #[.int .i64 g.rows,.int .i64 g.cols,.slice va g.cells.length vq])∧GsAt w' w.heap.size (.slice va g.cells.length vq) g.cells∧I64 g.rows∧I64 g.cols∧g.cells.length≤41∧Rd w' r (B+3000)∧Bk r w w'∧∀ x ∈ g.cells,x.row ≠ 99
theorem GrS.post {w0:World} {r gb zb n B B':Nat} {R C:Int} {va:Option Addr} {vq:Nat} {gs:List GC} {W:World} (h:GrS w0 r gb zb n R C va vq gs W) (hR:Rd W r B') (hB:B'≤B+3000) (hn:n≤41) (hI:I64 R) (hC:I64 C) :
  GridPost r B w0 (.returned (.agg #[.int .i64 R,.int .i64 C,.slice va n vq])) (((W.setCell ⟨zb,0,none⟩ (.int .i64 R)).setCell ⟨zb,1,none⟩ (.int .i64 C)).setCell ⟨zb,2,none⟩ (.slice va n vq)):=by
 have hl:=h.len
 have h0:=h.zbx
 have h1:=setB (p:=0) h0 (.int .i64 R)
 have h2:=setB (p:=1) h1 (.int .i64 C)
 have o1:=row_set (p:=0) h.own h0 (by decide) (.int .i64 R)
 have o2:=row_set (p:=1) o1 h1 (by decide) (.int .i64 C)
 have o3:=row_set (p:=2) o2 h2 (by decide) (.slice va n vq)
 have hr:r < zb:=by have:=h.lt;have:=h.hz;omega
 refine ⟨va,vq,⟨R,C,gs⟩,by dsimp only;rw [hl],?_,hI,hC,by dsimp only;omega,((hR.mono hB).set (p:=⟨zb,0,none⟩) hr _ |>.set (p:=⟨zb,1,none⟩) hr _).set (p:=⟨zb,2,none⟩) hr _,((h.bk.set (p:=⟨zb,0,none⟩) (.inr h.hz) _).set (p:=⟨zb,1,none⟩) (.inr h.hz) _).set (p:=⟨zb,2,none⟩) (.inr h.hz) _,fun x hx=>(h.gok x hx).2⟩
 subst hl
 exact OwnG.at (gs:=gs) o3 (fun x hx=>(h.gok x hx).1)
theorem run_bs1 (W:World) (a b c d e:Int):(Instr.buildSlice 23 1 #[(0,.agg #[.int .i64 a,.int .i64 b,.int .i64 c,.int .i64 d,.int .i64 e])]).run Try.prog W=.ok (.slice (some ⟨W.heap.size,0,none⟩) 1 1) (W.alloc (.cells #[.int .i64 a,.int .i64 b,.int .i64 c,.int .i64 d,.int .i64 e] 35)):=by
 kernel_rfl
theorem wp_bs1 {P:Program} {o:Oper} {a:Act} {w:World} {K:Act→World→Prop} {Q:Exit→Act→World→Prop} (t:TypeId) (x:Operand) (ho:o.op=.buildSlice t 1 #[(0,x)]) (v u:Value) (w':World) (hx:a.eval x=v) (hr:(Instr.buildSlice t 1 #[(0,v)]).run P w=.ok u w') (h:K (a.put o.dst u) w'):o.wp P a w K Q:=by
 unfold Oper.wp execOp
 simp only [ho,List.map_toArray,List.map_cons,List.map_nil,hx,Sem.run_bind,hr,Result.andThen_ok,Sem.run_pure]
 exact h
end Go.Proofs.Ytggmjiddadjilac
namespace Go.Proofs.Ytggmjiddadjilac
open Go.RowKit

theorem code_kept {w w':World} {a:Option Addr} {len cap:Nat} (h:IsCode w a len cap) (hb:Below w.heap.size w w'):IsCode w' a len cap:=by
 obtain ⟨h1,h2,hc⟩:=h
 refine ⟨h1,h2,fun i hi=>?_⟩
 obtain ⟨b,off,z,e,l,c,z0,z1⟩:=hc i hi
 exact ⟨b,off,z,e,Nat.lt_of_lt_of_le l hb.size,(hb.cell (p:=⟨b,off+i,none⟩) l).trans c,z0,z1⟩
/-- three stores into a box -/
def st3 (w:World) (g:Nat) (y0 y1 y2:Value):World:=((w.setCell ⟨g,0,none⟩ y0).setCell ⟨g,1,none⟩ y1).setCell ⟨g,2,none⟩ y2
theorem st3_bk (w:World) (g:Nat) (y0 y1 y2:Value):Bk g w (st3 w g y0 y1 y2):=(((Bk.refl g w).set (p:=⟨g,0,none⟩) (.inl rfl) y0).set (p:=⟨g,1,none⟩) (.inl rfl) y1).set (p:=⟨g,2,none⟩) (.inl rfl) y2
/-- a grid drawn -/
structure GFacts (w w':World) (va:Option Addr) (vq:Nat) (g:G):Prop where
 at':GsAt w' w.heap.size (.slice va g.cells.length vq) g.cells
 rows:I64 g.rows
 cols:I64 g.cols
 few:g.cells.length≤41
 below:Below w.heap.size w w'
def GrdPost (w:World) (e:Ending) (w':World):Prop:=∃ (va:Option Addr) (vq:Nat) (g:G),e=.returned (.agg #[.int .i64 g.rows,.int .i64 g.cols,.slice va g.cells.length vq])∧GFacts w w' va vq g
theorem grd_facts {w w2:World} {z:Nat} {va:Option Addr} {vq:Nat} {g:G} (hG:GsAt w2 z (.slice va g.cells.length vq) g.cells) (hz:w.heap.size < z) (K:Below w.heap.size w w2) (hIr:I64 g.rows) (hIc:I64 g.cols) (hlen:g.cells.length≤41) (y0 y1 y2:Value) :
  GFacts w (((w2.setCell ⟨w.heap.size,0,none⟩ y0).setCell ⟨w.heap.size,1,none⟩ y1).setCell ⟨w.heap.size,2,none⟩ y2) va vq g:=by
 have hk:=st3_bk w2 w.heap.size y0 y1 y2
 have hs:Since z w2 (st3 w2 w.heap.size y0 y1 y2):=⟨hk.size,fun k hk2 hl=>hk.block k hl (by omega)⟩
 exact ⟨(hG.since hs).base (by omega),hIr,hIc,hlen,K.trans (hk.below K.size (Nat.le_refl _))⟩
theorem grd_post {w w2:World} {z:Nat} {va:Option Addr} {vq:Nat} {g:G} (hG:GsAt w2 z (.slice va g.cells.length vq) g.cells) (hz:w.heap.size < z) (_:0 < 1) (K:Below w.heap.size w w2) (hIr:I64 g.rows) (hIc:I64 g.cols) (hlen:g.cells.length≤41) :
  GrdPost w (.returned (.agg #[.int .i64 g.rows,.int .i64 g.cols,.slice va g.cells.length vq])) (((w2.setCell ⟨w.heap.size,0,none⟩ (.int .i64 g.rows)).setCell ⟨w.heap.size,1,none⟩ (.int .i64 g.cols)).setCell ⟨w.heap.size,2,none⟩ (.slice va g.cells.length vq)) :=
 ⟨va,vq,g,rfl,grd_facts hG hz K hIr hIc hlen _ _ _⟩
/-- a grid in its box all along a law -/
structure SGd (w:World) (gb:Nat) (va:Option Addr) (vq:Nat) (g:G) (W:World):Prop where
 below:Below w.heap.size w W
 at':GsAt W w.heap.size (.slice va g.cells.length vq) g.cells
 box:W.heap[gb]?=some (.cells #[.int .i64 g.rows,.int .i64 g.cols,.slice va g.cells.length vq] 25)
theorem SGd.kept {w W W':World} {gb:Nat} {va:Option Addr} {vq:Nat} {g:G} (h:SGd w gb va vq g W) (k:Below W.heap.size W W'):SGd w gb va vq g W' :=
 ⟨k_trans h.below k,h.at'.kept k,(k.block gb (Array.getElem?_eq_some_iff.1 h.box).1).trans h.box⟩
theorem SGd.cells {w W:World} {gb:Nat} {va:Option Addr} {vq:Nat} {g:G} (h:SGd w gb va vq g W):W.cell? ⟨gb,0,none⟩=some (.int .i64 g.rows)∧W.cell? ⟨gb,1,none⟩=some (.int .i64 g.cols)∧W.cell? ⟨gb,2,none⟩=some (.slice va g.cells.length vq):=⟨cellB h.box,cellB h.box,cellB h.box⟩
theorem SGd.lt {w W:World} {gb:Nat} {va:Option Addr} {vq:Nat} {g:G} (h:SGd w gb va vq g W):gb < W.heap.size:=(Array.getElem?_eq_some_iff.1 h.box).1
theorem SGd.mk' {w w1:World} {va:Option Addr} {vq:Nat} {g:G} (F:GFacts w w1 va vq g):SGd w w1.heap.size va vq g (w1.alloc (.cells #[.int .i64 g.rows,.int .i64 g.cols,.slice va g.cells.length vq] 25)) :=
 ⟨k_alloc F.below _,F.at'.kept (k_alloc (Below.refl _ _) _),newestB _ _⟩
end Go.Proofs.Ytggmjiddadjilac
namespace Go.Proofs.Ytggmjiddadjilac
open Go.RowKit

/-- whether no cell is found at a place -/
def noC (gs:List GC) (r c:Nat):Bool:=decide (findTo (holdsB (r:Int) (c:Int)) gs < 0)
/-- places without a cell: of a row, the first c; of the first r rows -/
def eR (gs:List GC) (r c:Nat):Nat:=(List.range c).countP (noC gs r)
def eA (gs:List GC) (C r:Nat):Nat:=((List.range r).map (fun k=>eR gs k C)).sum
theorem eR_succ (gs:List GC) (r c:Nat):eR gs r (c+1)=eR gs r c+(if noC gs r c=true then 1 else 0):=by
 simp [eR,List.range_succ,List.countP_append,List.countP_cons]
theorem eR_le (gs:List GC) (r c:Nat):eR gs r c≤c:=by
 have:=List.countP_le_length (p:=noC gs r) (l:=List.range c)
 simpa [eR] using this
theorem eA_succ (gs:List GC) (C r:Nat):eA gs C (r+1)=eA gs C r+eR gs r C:=by simp [eA,List.range_succ]
theorem eA_le (gs:List GC) (C:Nat):∀ r,eA gs C r≤r * C
 | 0=>by simp [eA]
 | r+1=>by
  rw [eA_succ,Nat.succ_mul]
  have h1:=eA_le gs C r
  have h2:=eR_le gs r C
  omega
theorem findTo_neg {p:GC→Bool} {gs:List GC}:findTo p gs < 0 ↔ ∀ a ∈ gs,p a=false:=by
 unfold findTo
 cases h:gs.findIdx? p with
 | none=>simp only [List.findIdx?_eq_none_iff] at h;simp;exact h
 | some k =>
  rw [List.findIdx?_eq_some_iff_getElem] at h
  obtain ⟨hk,hp,_⟩:=h
  refine ⟨fun h=>by dsimp only at h;omega,fun h=>?_⟩
  have:=h _ (List.getElem_mem hk)
  rw [hp] at this
  cases this
def allP (R C:Nat):List (Nat × Nat):=(List.range R).flatMap fun r=>(List.range C).map fun c=>(r,c)
theorem mem_allP {R C:Nat} (p:Nat × Nat):p ∈ allP R C ↔ p.1 < R∧p.2 < C:=by
 simp only [allP,List.mem_flatMap,List.mem_range,List.mem_map]
 constructor
 ·rintro ⟨r,hr,c,hc,rfl⟩;exact ⟨hr,hc⟩
 ·rintro ⟨h1,h2⟩;exact ⟨p.1,h1,p.2,h2,rfl⟩
theorem allP_succ (R C:Nat):allP (R+1) C=allP R C ++ (List.range C).map fun c=>(R,c):=by simp [allP,List.range_succ]
theorem allP_len (C:Nat):∀ R,(allP R C).length=R * C
 | 0=>by simp [allP]
 | R+1=>by rw [allP_succ,List.length_append,allP_len C R,List.length_map,List.length_range,Nat.succ_mul]
theorem allP_nodup (C:Nat):∀ R,(allP R C).Nodup
 | 0=>by simp [allP]
 | R+1=>by
  rw [allP_succ,List.nodup_append]
  refine ⟨allP_nodup C R,List.pairwise_map.2 (List.nodup_range.imp (fun h e=>h (by simpa using e))),fun x hx y hy e=>?_⟩
  subst e
  have h1:=(mem_allP x).1 hx
  obtain ⟨c,_,rfl⟩:=List.mem_map.1 hy
  omega
theorem eA_all (gs:List GC) (C:Nat):∀ R,eA gs C R=(allP R C).countP (fun p=>noC gs p.1 p.2)
 | 0=>by simp [allP,eA]
 | R+1=>by
  rw [eA_succ,allP_succ,List.countP_append,← eA_all gs C R,List.countP_map]
  rfl
theorem empty_count {g:G} (h:okB g=true):((eA g.cells g.cols.toNat g.rows.toNat:Nat):Int)=emptyOf g∧1≤g.rows∧g.rows≤8∧1≤g.cols∧g.cols≤94∧findTo (holdsB (-1) 0) g.cells=-1:=by
 obtain ⟨hnd,hlen⟩:=taken_full h
 rw [emptyOf_ok h]
 have hok:=h
 unfold okB at hok
 rw [Bool.and_eq_true] at hok
 obtain ⟨hR1,hR2,hC1,hC2,hn⟩:=bounds_of hok.1
 have hfit:∀ a ∈ g.cells,fitsB g.rows g.cols a=true:=by
  have:=okTo_fits (Nat.le_refl _) hok.2
  rwa [List.take_length] at this
 refine ⟨?_,hR1,hR2,hC1,hC2,?_⟩
 ·rw [eA_all]
  have h1:=List.length_eq_countP_add_countP (fun p:Nat × Nat=>noC g.cells p.1 p.2) (l:=allP g.rows.toNat g.cols.toNat)
  rw [allP_len] at h1
  have h2:(allP g.rows.toNat g.cols.toNat).countP (fun p=>decide (¬ noC g.cells p.1 p.2=true))=(takenBy g.cells).length:=by
   rw [List.countP_eq_length_filter]
   refine List.Perm.length_eq ((List.perm_ext_iff_of_nodup ((allP_nodup _ _).filter _) hnd).2 fun p=>?_)
   rw [List.mem_filter,mem_allP]
   have hm:p ∈ takenBy g.cells ↔ ∃ a ∈ g.cells,p ∈ (slotsG a).map (·.1):=by
    simp only [takenBy,List.mem_map,List.mem_flatMap]
    constructor
    ·rintro ⟨x,⟨a,ha,hx⟩,e⟩;exact ⟨a,ha,x,hx,e⟩
    ·rintro ⟨a,ha,x,hx,e⟩;exact ⟨x,⟨a,ha,hx⟩,e⟩
   rw [hm]
   constructor
   ·rintro ⟨_,h⟩
    have h3:¬ findTo (holdsB (p.1:Int) (p.2:Int)) g.cells < 0:=by simpa [noC] using h
    rw [findTo_neg] at h3
    have h4:∃ a ∈ g.cells,holdsB (p.1:Int) (p.2:Int) a=true:=by
     apply Classical.byContradiction
     intro hno
     exact h3 fun a ha=>by
      cases hh:holdsB (p.1:Int) (p.2:Int) a with
      | false=>rfl
      | true=>exact absurd ⟨a,ha,hh⟩ hno
    obtain ⟨a,ha,hh⟩:=h4
    refine ⟨a,ha,(mem_slotsG (hfit a ha) hR2 hC2 p).2 ?_⟩
    simp only [holdsB,amongB,Bool.and_eq_true,decide_eq_true_eq] at hh
    omega
   ·rintro ⟨a,ha,hp⟩
    have hs:=(mem_slotsG (hfit a ha) hR2 hC2 p).1 hp
    obtain ⟨e1,e2,e3,e4,q1,q2,q3,q4⟩:=fits_of (hfit a ha)
    refine ⟨by omega,?_⟩
    have h3:¬ findTo (holdsB (p.1:Int) (p.2:Int)) g.cells < 0:=by
     rw [findTo_neg]
     intro hno
     have:=hno a ha
     simp only [holdsB,amongB,Bool.and_eq_false_iff,decide_eq_false_iff_not] at this
     omega
    simpa [noC] using h3
  rw [h2] at h1
  have h5:((g.rows.toNat * g.cols.toNat:Nat):Int)=g.rows * g.cols:=by
   rw [Int.natCast_mul,Int.toNat_of_nonneg (by omega),Int.toNat_of_nonneg (by omega)]
  rw [← hlen,← h5]
  omega
 ·have:findTo (holdsB (-1) 0) g.cells < 0:=by
   rw [findTo_neg]
   intro a ha
   have hf:=hfit a ha
   simp only [fitsB,inB,Bool.and_eq_true,decide_eq_true_eq] at hf
   simp only [holdsB,amongB,Bool.and_eq_false_iff,decide_eq_false_iff_not]
   omega
  unfold findTo at this ⊢
  split at this
  ·omega
  ·rfl
end Go.Proofs.Ytggmjiddadjilac
